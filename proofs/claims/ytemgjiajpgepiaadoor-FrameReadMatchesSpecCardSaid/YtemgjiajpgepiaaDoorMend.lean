/-
  Mend, the program's and the reference's: contracts.
-/
import Derived.Test.YtemgjiajpgepiaaDoorRFlaws2
import Derived.BigRegion
import Derived.Deep.RegionWith
namespace Go.Proofs.YtemgjiajpgepiaaDoor
open Go.RowKit
-- AT2

theorem fit_case0 {F : List Int} {i : Nat} (h : i = 0) : fitI F i = syncI (numI F) := by unfold fitI; rw [if_pos h]
theorem fit_case61 {F : List Int} {i : Nat} (h : i = 61) : fitI F i = wordI (sumI F) := by unfold fitI; rw [if_neg (by omega), if_pos h]
theorem fit_case62 {F : List Int} {i : Nat} (h : i = 62) : fitI F i = hiI F := by unfold fitI; rw [if_neg (by omega), if_neg (by omega), if_pos h]
theorem fit_case63 {F : List Int} {i : Nat} (h : i = 63) : fitI F i = loI F := by unfold fitI; rw [if_neg (by omega), if_neg (by omega), if_neg (by omega), if_pos h]
theorem fit_case {F : List Int} {i : Nat} (h0 : i ≠ 0) (h1 : i < 61) : fitI F i = wordI (xorI (xorI (sumI F) (gw F 61)) (gw F i)) := by unfold fitI; rw [if_neg h0, if_neg (by omega), if_neg (by omega), if_neg (by omega)]

set_option maxHeartbeats 1000000 in
set_option maxRecDepth 100000 in
theorem fitting_any (F : List Int) (hF : Fr F) (hn : Narrow F) (i : Nat) (hi : i < 64) (w : World) (hT : Tab w) :
    Calls Tryd.prog 98 #[.agg (fc F), .int .i64 i] w fun e w' => e = .returned (.int .u16 (fitI F i)) ∧ ∃ x, w' = gx w x := by
  have hl := hF.len
  have b0 := (numI_bd F).1
  have s0 := (sumI_bd F).1
  have s1 : sumI F ≤ 65535 := by have := (sumI_bd F).2; omega
  by_cases h0 : i = 0
  · have e := fit_case0 (F := F) h0
    rw [e]
    subst h0
    clear e
    go_enter Tryd.func98, Tryd.ntmps98
    go_wp2_with (first | (refine load_fr rfl _ rfl _ rfl ?_ ?_ ?_ ?_; rotate_left; (focus (repeat (first | (with_reducible assumption) | (with_reducible exact At.new _ _) | (with_reducible refine At.row ?_) | (with_reducible refine At.app ?_) | (with_reducible refine At.tick ?_) | (with_reducible refine At.gx ?_) | ((with_reducible refine At.new' ?_); focus (simp; done)) | (with_reducible refine At.alloc ?_) | (with_reducible refine At.drew ?_) | (with_reducible exact Is.new _ _ _) | (with_reducible refine Is.row ?_) | (with_reducible refine Is.gx ?_) | ((with_reducible refine Is.new' ?_); focus (simp; done)) | (with_reducible refine Is.alloc ?_) | (with_reducible refine Is.drew ?_)))); (focus (with_reducible (first | exact hl | exact hl1 | exact hl2 | exact hl3 | exact hl4 | exact zeroF_len)))) | (go_at_call 83; refine (numberOf_any F hF _).mono ?_; rintro e w' ⟨rfl, z, rfl⟩) | (go_at_call 78; refine (syncFor_any _ b0 _ ?_).mono ?_; (focus (repeat (first | (with_reducible exact hT) | (with_reducible refine Tab.gx ?_ _) | (with_reducible refine Tab.alloc ?_ _)))); rintro e w' ⟨rfl, rfl⟩))
    go_ret
    exact ⟨rfl, (by repeat (first | (with_reducible exact Gx.refl _) | (with_reducible assumption) | (with_reducible refine Gx.gx ?_) | (with_reducible refine Gx.alloc ?_) | (with_reducible refine Gx.drew ?_) | (with_reducible refine Gx.drewN ?_) | (with_reducible refine Gx.setRow ?_ (by simp)) | (with_reducible refine Gx.setCell ?_ (by simp))))⟩
  · by_cases h1 : i = 61
    · have e := fit_case61 (F := F) h1
      rw [e]
      subst h1
      clear e h0
      go_enter Tryd.func98, Tryd.ntmps98
      go_wp2_with (first | (refine load_fr rfl _ rfl _ rfl ?_ ?_ ?_ ?_; rotate_left; (focus (repeat (first | (with_reducible assumption) | (with_reducible exact At.new _ _) | (with_reducible refine At.row ?_) | (with_reducible refine At.app ?_) | (with_reducible refine At.tick ?_) | (with_reducible refine At.gx ?_) | ((with_reducible refine At.new' ?_); focus (simp; done)) | (with_reducible refine At.alloc ?_) | (with_reducible refine At.drew ?_) | (with_reducible exact Is.new _ _ _) | (with_reducible refine Is.row ?_) | (with_reducible refine Is.gx ?_) | ((with_reducible refine Is.new' ?_); focus (simp; done)) | (with_reducible refine Is.alloc ?_) | (with_reducible refine Is.drew ?_)))); (focus (with_reducible (first | exact hl | exact hl1 | exact hl2 | exact hl3 | exact hl4 | exact zeroF_len)))) | (go_at_call 114; refine (sumOf_any F hF _).mono ?_; rintro e w' ⟨rfl, z, rfl⟩) | (go_at_call 73; refine (withParity_any _ s0 s1 _).mono ?_; rintro e w' ⟨rfl, z, rfl⟩))
      go_ret
      exact ⟨rfl, (by repeat (first | (with_reducible exact Gx.refl _) | (with_reducible assumption) | (with_reducible refine Gx.gx ?_) | (with_reducible refine Gx.alloc ?_) | (with_reducible refine Gx.drew ?_) | (with_reducible refine Gx.drewN ?_) | (with_reducible refine Gx.setRow ?_ (by simp)) | (with_reducible refine Gx.setCell ?_ (by simp))))⟩
    · by_cases h2 : i = 62
      · have e := fit_case62 (F := F) h2
        rw [e]
        subst h2
        clear e h0 h1
        go_enter Tryd.func98, Tryd.ntmps98
        go_wp2_with (first | (refine load_fr rfl _ rfl _ rfl ?_ ?_ ?_ ?_; rotate_left; (focus (repeat (first | (with_reducible assumption) | (with_reducible exact At.new _ _) | (with_reducible refine At.row ?_) | (with_reducible refine At.app ?_) | (with_reducible refine At.tick ?_) | (with_reducible refine At.gx ?_) | ((with_reducible refine At.new' ?_); focus (simp; done)) | (with_reducible refine At.alloc ?_) | (with_reducible refine At.drew ?_) | (with_reducible exact Is.new _ _ _) | (with_reducible refine Is.row ?_) | (with_reducible refine Is.gx ?_) | ((with_reducible refine Is.new' ?_); focus (simp; done)) | (with_reducible refine Is.alloc ?_) | (with_reducible refine Is.drew ?_)))); (focus (with_reducible (first | exact hl | exact hl1 | exact hl2 | exact hl3 | exact hl4 | exact zeroF_len)))) | (go_at_call 115; refine (checkWords_any F hF hn _).mono ?_; rintro e w' ⟨rfl, z, rfl⟩))
        go_ret
        exact ⟨rfl, (by repeat (first | (with_reducible exact Gx.refl _) | (with_reducible assumption) | (with_reducible refine Gx.gx ?_) | (with_reducible refine Gx.alloc ?_) | (with_reducible refine Gx.drew ?_) | (with_reducible refine Gx.drewN ?_) | (with_reducible refine Gx.setRow ?_ (by simp)) | (with_reducible refine Gx.setCell ?_ (by simp))))⟩
      · by_cases h3 : i = 63
        · have e := fit_case63 (F := F) h3
          rw [e]
          subst h3
          clear e h0 h1 h2
          go_enter Tryd.func98, Tryd.ntmps98
          go_wp2_with (first | (refine load_fr rfl _ rfl _ rfl ?_ ?_ ?_ ?_; rotate_left; (focus (repeat (first | (with_reducible assumption) | (with_reducible exact At.new _ _) | (with_reducible refine At.row ?_) | (with_reducible refine At.app ?_) | (with_reducible refine At.tick ?_) | (with_reducible refine At.gx ?_) | ((with_reducible refine At.new' ?_); focus (simp; done)) | (with_reducible refine At.alloc ?_) | (with_reducible refine At.drew ?_) | (with_reducible exact Is.new _ _ _) | (with_reducible refine Is.row ?_) | (with_reducible refine Is.gx ?_) | ((with_reducible refine Is.new' ?_); focus (simp; done)) | (with_reducible refine Is.alloc ?_) | (with_reducible refine Is.drew ?_)))); (focus (with_reducible (first | exact hl | exact hl1 | exact hl2 | exact hl3 | exact hl4 | exact zeroF_len)))) | (go_at_call 115; refine (checkWords_any F hF hn _).mono ?_; rintro e w' ⟨rfl, z, rfl⟩))
          go_ret
          exact ⟨rfl, (by repeat (first | (with_reducible exact Gx.refl _) | (with_reducible assumption) | (with_reducible refine Gx.gx ?_) | (with_reducible refine Gx.alloc ?_) | (with_reducible refine Gx.drew ?_) | (with_reducible refine Gx.drewN ?_) | (with_reducible refine Gx.setRow ?_ (by simp)) | (with_reducible refine Gx.setCell ?_ (by simp))))⟩
        · have e := fit_case (F := F) h0 (by omega)
          rw [e]
          clear e
          have i0 : ((i : Int) == 0) = false := by rw [beq_eq_false_iff_ne]; omega
          have i1 : ((i : Int) == 61) = false := by rw [beq_eq_false_iff_ne]; omega
          have i2 : ((i : Int) == 62) = false := by rw [beq_eq_false_iff_ne]; omega
          have i3 : ((i : Int) == 63) = false := by rw [beq_eq_false_iff_ne]; omega
          have k0 : 0 ≤ gw F 61 := (hF.bd _).1
          have k1 : gw F 61 ≤ 65535 := (hF.bd _).2
          have j0 : 0 ≤ gw F i := (hF.bd _).1
          have j1 : gw F i ≤ 65535 := (hF.bd _).2
          have x1 : bits .xor .u16 (sumI F) (gw F 61) = xorI (sumI F) (gw F 61) := bits_xor .u16 16 (by decide) wraps_u16 _ _ s0 (by omega) k0 (by omega)
          have y := xorI_bd 16 (sumI F) (gw F 61) (by omega) (by omega)
          have x2 : bits .xor .u16 (xorI (sumI F) (gw F 61)) (gw F i) = xorI (xorI (sumI F) (gw F 61)) (gw F i) := bits_xor .u16 16 (by decide) wraps_u16 _ _ y.1 (by omega) j0 (by omega)
          have y2 := xorI_bd 16 (xorI (sumI F) (gw F 61)) (gw F i) (by omega) (by omega)
          have y3 := y2.1
          have y4 : xorI (xorI (sumI F) (gw F 61)) (gw F i) ≤ 65535 := by have := y2.2; omega
          clear y y2 h0 h1 h2 h3
          go_enter Tryd.func98, Tryd.ntmps98
          go_wp2
          refine region_gx (by kernel_rfl) (by kernel_rfl) ?_
          repeat (any_goals (first | (refine quiet_fr rfl _ rfl _ rfl ?_ ?_ ?_ ?_; rotate_left; (focus (rintro _ ⟨x, rfl⟩; (focus (repeat (first | (with_reducible assumption) | (with_reducible exact At.new _ _) | (with_reducible refine At.row ?_) | (with_reducible refine At.app ?_) | (with_reducible refine At.tick ?_) | (with_reducible refine At.gx ?_) | ((with_reducible refine At.new' ?_); focus (simp; done)) | (with_reducible refine At.alloc ?_) | (with_reducible refine At.drew ?_) | (with_reducible exact Is.new _ _ _) | (with_reducible refine Is.row ?_) | (with_reducible refine Is.gx ?_) | ((with_reducible refine Is.new' ?_); focus (simp; done)) | (with_reducible refine Is.alloc ?_) | (with_reducible refine Is.drew ?_)))))); (focus (with_reducible (first | exact hl | exact hl1 | exact hl2 | exact hl3 | exact hl4 | exact zeroF_len)))) | go_big_quiet_step ((first | (go_at_call 114; exact calls_gx (sumOf_any F hF _)) | (go_at_call 73; exact calls_gx (withParity_any _ y3 y4 _)))) | quiet_step ((first | (go_at_call 114; exact calls_gx (sumOf_any F hF _)) | (go_at_call 73; exact calls_gx (withParity_any _ y3 y4 _))))))
          refine wpQuiet_nil ?_
          rintro _ ⟨x, rfl⟩
          go_wp2
          go_ret
          exact ⟨rfl, (by repeat (first | (with_reducible exact Gx.refl _) | (with_reducible assumption) | (with_reducible refine Gx.gx ?_) | (with_reducible refine Gx.alloc ?_) | (with_reducible refine Gx.drew ?_) | (with_reducible refine Gx.drewN ?_) | (with_reducible refine Gx.setRow ?_ (by simp)) | (with_reducible refine Gx.setCell ?_ (by simp))))⟩

set_option maxHeartbeats 1000000 in
set_option maxRecDepth 100000 in
theorem PutWord_any (F : List Int) (hF : Fr F) (hn : Narrow F) (i : Nat) (hi : i < 64) (w : World) :
    Calls Tryd.prog 100 #[.agg (fc F), .int .i64 i] w fun e w' => e = .returned (.agg (fc (mendW F i))) ∧ ∃ x, w' = gx w x := by
  have hl := hF.len
  have b0 := (numI_bd F).1
  have s0 := (sumI_bd F).1
  have s1 := (sumI_bd F).2
  have sy := syncI_bd (numI F)
  have sy0 : 0 ≤ syncI (numI F) := by omega
  have sy1 : syncI (numI F) ≤ 65535 := by omega
  have wb : ∀ a, 0 ≤ wordI a ∧ wordI a ≤ 65535 := fun a => by have := wordI_bd a; omega
  have cb := chkI_bd F
  have hm : mendW F i = F.set i (fitI F i) := rfl
  rw [hm]
  by_cases h0 : i = 0
  · rw [fit_case0 h0]
    subst h0
    have hl1 : (F.set 0 (syncI (numI F))).length = 64 := by rw [List.length_set]; exact hl
    clear wb cb hm sy
    go_enter Tryd.func100, Tryd.ntmps100
    go_wp2_with (first | (refine load_fr rfl _ rfl _ rfl ?_ ?_ ?_ ?_; rotate_left; (focus (repeat (first | (with_reducible assumption) | (with_reducible exact At.new _ _) | (with_reducible refine At.row ?_) | (with_reducible refine At.app ?_) | (with_reducible refine At.tick ?_) | (with_reducible refine At.gx ?_) | ((with_reducible refine At.new' ?_); focus (simp; done)) | (with_reducible refine At.alloc ?_) | (with_reducible refine At.drew ?_) | (with_reducible exact Is.new _ _ _) | (with_reducible refine Is.row ?_) | (with_reducible refine Is.gx ?_) | ((with_reducible refine Is.new' ?_); focus (simp; done)) | (with_reducible refine Is.alloc ?_) | (with_reducible refine Is.drew ?_)))); (focus (with_reducible (first | exact hl | exact hl1 | exact hl2 | exact hl3 | exact hl4 | exact zeroF_len)))) | (refine store_fr rfl _ _ rfl _ rfl _ rfl ?_ ?_ ?_ ?_ ?_; rotate_left; (focus (repeat (first | (with_reducible assumption) | (with_reducible exact At.new _ _) | (with_reducible refine At.row ?_) | (with_reducible refine At.app ?_) | (with_reducible refine At.tick ?_) | (with_reducible refine At.gx ?_) | ((with_reducible refine At.new' ?_); focus (simp; done)) | (with_reducible refine At.alloc ?_) | (with_reducible refine At.drew ?_) | (with_reducible exact Is.new _ _ _) | (with_reducible refine Is.row ?_) | (with_reducible refine Is.gx ?_) | ((with_reducible refine Is.new' ?_); focus (simp; done)) | (with_reducible refine Is.alloc ?_) | (with_reducible refine Is.drew ?_)))); (focus (with_reducible (first | exact hl | exact hl1 | exact hl2 | exact hl3 | exact hl4 | exact zeroF_len))); (focus (with_reducible (first | exact hl | exact hl1 | exact hl2 | exact hl3 | exact hl4 | exact zeroF_len)))) | (go_at_call 93; refine (RnumberOf_any F hF _).mono ?_; rintro e w' ⟨rfl, z, rfl⟩) | (go_at_call 79; refine (syncOf_any _ b0 _).mono ?_; rintro e w' ⟨rfl, rfl⟩))
    (refine ret_fr rfl _ _ _ ?_ rfl rfl ?_ ?_ ?_; rotate_left; (focus (repeat (first | (with_reducible assumption) | (with_reducible exact At.new _ _) | (with_reducible refine At.row ?_) | (with_reducible refine At.app ?_) | (with_reducible refine At.tick ?_) | (with_reducible refine At.gx ?_) | ((with_reducible refine At.new' ?_); focus (simp; done)) | (with_reducible refine At.alloc ?_) | (with_reducible refine At.drew ?_) | (with_reducible exact Is.new _ _ _) | (with_reducible refine Is.row ?_) | (with_reducible refine Is.gx ?_) | ((with_reducible refine Is.new' ?_); focus (simp; done)) | (with_reducible refine Is.alloc ?_) | (with_reducible refine Is.drew ?_)))); (focus (with_reducible (first | exact hl | exact hl1 | exact hl2 | exact hl3 | exact hl4 | exact zeroF_len))))
    exact ⟨rfl, (by repeat (first | (with_reducible exact Gx.refl _) | (with_reducible assumption) | (with_reducible refine Gx.gx ?_) | (with_reducible refine Gx.alloc ?_) | (with_reducible refine Gx.drew ?_) | (with_reducible refine Gx.drewN ?_) | (with_reducible refine Gx.setRow ?_ (by simp)) | (with_reducible refine Gx.setCell ?_ (by simp))))⟩
  · by_cases h1 : i < 61
    · rw [fit_case h0 h1, ← fit_ref F hF i]
      have i0 : ((i : Int) == 0) = false := by rw [beq_eq_false_iff_ne]; omega
      have k0 : 0 ≤ gw F 61 := (hF.bd _).1
      have k1 : gw F 61 ≤ 65535 := (hF.bd _).2
      have j0 : 0 ≤ gw F i := (hF.bd _).1
      have j1 : gw F i ≤ 65535 := (hF.bd _).2
      have x1 : bits .xor .i64 (gw F i % 2048) (sumI F) = xorI (gw F i % 2048) (sumI F) := bits_xor .i64 11 (by decide) (fun n a b => IntWalk.i64_in n (by omega)) _ _ (by omega) (by omega) s0 (by omega)
      have y := xorI_bd 11 (gw F i % 2048) (sumI F) (by omega) (by omega)
      have x2 : bits .xor .i64 (xorI (gw F i % 2048) (sumI F)) (gw F 61 % 2048) = xorI (xorI (gw F i % 2048) (sumI F)) (gw F 61 % 2048) := bits_xor .i64 11 (by decide) (fun n a b => IntWalk.i64_in n (by omega)) _ _ y.1 (by omega) (by omega) (by omega)
      have y2 := xorI_bd 11 (xorI (gw F i % 2048) (sumI F)) (gw F 61 % 2048) (by omega) (by omega)
      have y3 := y2.1
      have y4 : xorI (xorI (gw F i % 2048) (sumI F)) (gw F 61 % 2048) ≤ 2047 := by have := y2.2; omega
      generalize hW : xorI (xorI (gw F i % 2048) (sumI F)) (gw F 61 % 2048) = Z at *
      have z0 := (wb Z).1
      have z1 := (wb Z).2
      have hl1 : (F.set i (wordI Z)).length = 64 := by rw [List.length_set]; exact hl
      have HX := Lib.hid hW
      clear y y2 wb cb hm sy hW
      clear HX
      go_enter Tryd.func100, Tryd.ntmps100
      go_wp2
      first | (with_reducible refine region_gx_tail 17 (by kernel_rfl) (by kernel_rfl) ?_) | (with_reducible refine region_w_tail 17 (by kernel_rfl) (by kernel_rfl) ?_)
      simp only [List.take_succ_cons, List.take_zero, List.drop_succ_cons, List.drop_zero]
      repeat (any_goals (first | (refine quiet_fr rfl _ rfl _ rfl ?_ ?_ ?_ ?_; rotate_left; (focus (rintro _ ⟨x, rfl⟩; (focus (repeat (first | (with_reducible assumption) | (with_reducible exact At.new _ _) | (with_reducible refine At.row ?_) | (with_reducible refine At.app ?_) | (with_reducible refine At.tick ?_) | (with_reducible refine At.gx ?_) | ((with_reducible refine At.new' ?_); focus (simp; done)) | (with_reducible refine At.alloc ?_) | (with_reducible refine At.drew ?_) | (with_reducible exact Is.new _ _ _) | (with_reducible refine Is.row ?_) | (with_reducible refine Is.gx ?_) | ((with_reducible refine Is.new' ?_); focus (simp; done)) | (with_reducible refine Is.alloc ?_) | (with_reducible refine Is.drew ?_)))))); (focus (with_reducible (first | exact hl | exact hl1 | exact hl2 | exact hl3 | exact hl4 | exact zeroF_len)))) | go_big_quiet_step ((first | (go_at_call 94; exact calls_gx (Rsum_any F hF _)) | (go_at_call 74; exact calls_gx_same (word_any _ y3 y4 _)))) | quiet_step ((first | (go_at_call 94; exact calls_gx (Rsum_any F hF _)) | (go_at_call 74; exact calls_gx_same (word_any _ y3 y4 _))))))
      refine wpQuiet_nil ?_
      rintro _ ⟨x, rfl⟩
      go_wp2_with (first | (refine load_fr rfl _ rfl _ rfl ?_ ?_ ?_ ?_; rotate_left; (focus (repeat (first | (with_reducible assumption) | (with_reducible exact At.new _ _) | (with_reducible refine At.row ?_) | (with_reducible refine At.app ?_) | (with_reducible refine At.tick ?_) | (with_reducible refine At.gx ?_) | ((with_reducible refine At.new' ?_); focus (simp; done)) | (with_reducible refine At.alloc ?_) | (with_reducible refine At.drew ?_) | (with_reducible exact Is.new _ _ _) | (with_reducible refine Is.row ?_) | (with_reducible refine Is.gx ?_) | ((with_reducible refine Is.new' ?_); focus (simp; done)) | (with_reducible refine Is.alloc ?_) | (with_reducible refine Is.drew ?_)))); (focus (with_reducible (first | exact hl | exact hl1 | exact hl2 | exact hl3 | exact hl4 | exact zeroF_len)))) | (refine store_fr rfl _ _ rfl _ rfl _ rfl ?_ ?_ ?_ ?_ ?_; rotate_left; (focus (repeat (first | (with_reducible assumption) | (with_reducible exact At.new _ _) | (with_reducible refine At.row ?_) | (with_reducible refine At.app ?_) | (with_reducible refine At.tick ?_) | (with_reducible refine At.gx ?_) | ((with_reducible refine At.new' ?_); focus (simp; done)) | (with_reducible refine At.alloc ?_) | (with_reducible refine At.drew ?_) | (with_reducible exact Is.new _ _ _) | (with_reducible refine Is.row ?_) | (with_reducible refine Is.gx ?_) | ((with_reducible refine Is.new' ?_); focus (simp; done)) | (with_reducible refine Is.alloc ?_) | (with_reducible refine Is.drew ?_)))); (focus (with_reducible (first | exact hl | exact hl1 | exact hl2 | exact hl3 | exact hl4 | exact zeroF_len))); (focus (with_reducible (first | exact hl | exact hl1 | exact hl2 | exact hl3 | exact hl4 | exact zeroF_len)))))
      (refine ret_fr rfl _ _ _ ?_ rfl rfl ?_ ?_ ?_; rotate_left; (focus (repeat (first | (with_reducible assumption) | (with_reducible exact At.new _ _) | (with_reducible refine At.row ?_) | (with_reducible refine At.app ?_) | (with_reducible refine At.tick ?_) | (with_reducible refine At.gx ?_) | ((with_reducible refine At.new' ?_); focus (simp; done)) | (with_reducible refine At.alloc ?_) | (with_reducible refine At.drew ?_) | (with_reducible exact Is.new _ _ _) | (with_reducible refine Is.row ?_) | (with_reducible refine Is.gx ?_) | ((with_reducible refine Is.new' ?_); focus (simp; done)) | (with_reducible refine Is.alloc ?_) | (with_reducible refine Is.drew ?_)))); (focus (with_reducible (first | exact hl | exact hl1 | exact hl2 | exact hl3 | exact hl4 | exact zeroF_len))))
      exact ⟨rfl, (by repeat (first | (with_reducible exact Gx.refl _) | (with_reducible assumption) | (with_reducible refine Gx.gx ?_) | (with_reducible refine Gx.alloc ?_) | (with_reducible refine Gx.drew ?_) | (with_reducible refine Gx.drewN ?_) | (with_reducible refine Gx.setRow ?_ (by simp)) | (with_reducible refine Gx.setCell ?_ (by simp))))⟩
    · have i0 : ((i : Int) == 0) = false := by rw [beq_eq_false_iff_ne]; omega
      by_cases h2 : i = 61
      · rw [fit_case61 h2]
        subst h2
        have z0 := (wb (sumI F)).1
        have z1 := (wb (sumI F)).2
        have hl1 : (F.set 61 (wordI (sumI F))).length = 64 := by rw [List.length_set]; exact hl
        clear wb cb hm sy i0
        go_enter Tryd.func100, Tryd.ntmps100
        go_wp2_with (first | (refine load_fr rfl _ rfl _ rfl ?_ ?_ ?_ ?_; rotate_left; (focus (repeat (first | (with_reducible assumption) | (with_reducible exact At.new _ _) | (with_reducible refine At.row ?_) | (with_reducible refine At.app ?_) | (with_reducible refine At.tick ?_) | (with_reducible refine At.gx ?_) | ((with_reducible refine At.new' ?_); focus (simp; done)) | (with_reducible refine At.alloc ?_) | (with_reducible refine At.drew ?_) | (with_reducible exact Is.new _ _ _) | (with_reducible refine Is.row ?_) | (with_reducible refine Is.gx ?_) | ((with_reducible refine Is.new' ?_); focus (simp; done)) | (with_reducible refine Is.alloc ?_) | (with_reducible refine Is.drew ?_)))); (focus (with_reducible (first | exact hl | exact hl1 | exact hl2 | exact hl3 | exact hl4 | exact zeroF_len)))) | (refine store_fr rfl _ _ rfl _ rfl _ rfl ?_ ?_ ?_ ?_ ?_; rotate_left; (focus (repeat (first | (with_reducible assumption) | (with_reducible exact At.new _ _) | (with_reducible refine At.row ?_) | (with_reducible refine At.app ?_) | (with_reducible refine At.tick ?_) | (with_reducible refine At.gx ?_) | ((with_reducible refine At.new' ?_); focus (simp; done)) | (with_reducible refine At.alloc ?_) | (with_reducible refine At.drew ?_) | (with_reducible exact Is.new _ _ _) | (with_reducible refine Is.row ?_) | (with_reducible refine Is.gx ?_) | ((with_reducible refine Is.new' ?_); focus (simp; done)) | (with_reducible refine Is.alloc ?_) | (with_reducible refine Is.drew ?_)))); (focus (with_reducible (first | exact hl | exact hl1 | exact hl2 | exact hl3 | exact hl4 | exact zeroF_len))); (focus (with_reducible (first | exact hl | exact hl1 | exact hl2 | exact hl3 | exact hl4 | exact zeroF_len)))) | (go_at_call 94; refine (Rsum_any F hF _).mono ?_; rintro e w' ⟨rfl, z, rfl⟩) | (go_at_call 74; refine (word_any _ s0 s1 _).mono ?_; rintro e w' ⟨rfl, rfl⟩))
        (refine ret_fr rfl _ _ _ ?_ rfl rfl ?_ ?_ ?_; rotate_left; (focus (repeat (first | (with_reducible assumption) | (with_reducible exact At.new _ _) | (with_reducible refine At.row ?_) | (with_reducible refine At.app ?_) | (with_reducible refine At.tick ?_) | (with_reducible refine At.gx ?_) | ((with_reducible refine At.new' ?_); focus (simp; done)) | (with_reducible refine At.alloc ?_) | (with_reducible refine At.drew ?_) | (with_reducible exact Is.new _ _ _) | (with_reducible refine Is.row ?_) | (with_reducible refine Is.gx ?_) | ((with_reducible refine Is.new' ?_); focus (simp; done)) | (with_reducible refine Is.alloc ?_) | (with_reducible refine Is.drew ?_)))); (focus (with_reducible (first | exact hl | exact hl1 | exact hl2 | exact hl3 | exact hl4 | exact zeroF_len))))
        exact ⟨rfl, (by repeat (first | (with_reducible exact Gx.refl _) | (with_reducible assumption) | (with_reducible refine Gx.gx ?_) | (with_reducible refine Gx.alloc ?_) | (with_reducible refine Gx.drew ?_) | (with_reducible refine Gx.drewN ?_) | (with_reducible refine Gx.setRow ?_ (by simp)) | (with_reducible refine Gx.setCell ?_ (by simp))))⟩
      · by_cases h3 : i = 62
        · rw [fit_case62 h3]
          subst h3
          have e : wordI (chkI F / 2048) = hiI F := rfl
          have c0 := cb.1
          have c1 := cb.2
          have z0 := (wb (chkI F / 2048)).1
          have z1 := (wb (chkI F / 2048)).2
          have hl1 : (F.set 62 (hiI F)).length = 64 := by rw [List.length_set]; exact hl
          rw [e] at z0 z1
          clear wb cb hm sy i0
          go_enter Tryd.func100, Tryd.ntmps100
          go_wp2_with (first | (refine load_fr rfl _ rfl _ rfl ?_ ?_ ?_ ?_; rotate_left; (focus (repeat (first | (with_reducible assumption) | (with_reducible exact At.new _ _) | (with_reducible refine At.row ?_) | (with_reducible refine At.app ?_) | (with_reducible refine At.tick ?_) | (with_reducible refine At.gx ?_) | ((with_reducible refine At.new' ?_); focus (simp; done)) | (with_reducible refine At.alloc ?_) | (with_reducible refine At.drew ?_) | (with_reducible exact Is.new _ _ _) | (with_reducible refine Is.row ?_) | (with_reducible refine Is.gx ?_) | ((with_reducible refine Is.new' ?_); focus (simp; done)) | (with_reducible refine Is.alloc ?_) | (with_reducible refine Is.drew ?_)))); (focus (with_reducible (first | exact hl | exact hl1 | exact hl2 | exact hl3 | exact hl4 | exact zeroF_len)))) | (refine store_fr rfl _ _ rfl _ rfl _ rfl ?_ ?_ ?_ ?_ ?_; rotate_left; (focus (repeat (first | (with_reducible assumption) | (with_reducible exact At.new _ _) | (with_reducible refine At.row ?_) | (with_reducible refine At.app ?_) | (with_reducible refine At.tick ?_) | (with_reducible refine At.gx ?_) | ((with_reducible refine At.new' ?_); focus (simp; done)) | (with_reducible refine At.alloc ?_) | (with_reducible refine At.drew ?_) | (with_reducible exact Is.new _ _ _) | (with_reducible refine Is.row ?_) | (with_reducible refine Is.gx ?_) | ((with_reducible refine Is.new' ?_); focus (simp; done)) | (with_reducible refine Is.alloc ?_) | (with_reducible refine Is.drew ?_)))); (focus (with_reducible (first | exact hl | exact hl1 | exact hl2 | exact hl3 | exact hl4 | exact zeroF_len))); (focus (with_reducible (first | exact hl | exact hl1 | exact hl2 | exact hl3 | exact hl4 | exact zeroF_len)))) | (go_at_call 95; refine (check_any F hF hn _).mono ?_; rintro e w' ⟨rfl, z, rfl⟩) | (go_at_call 74; refine (word_any _ (by omega) (by omega) _).mono ?_; rintro e w' ⟨rfl, rfl⟩))
          (refine ret_fr rfl _ _ _ ?_ rfl rfl ?_ ?_ ?_; rotate_left; (focus (repeat (first | (with_reducible assumption) | (with_reducible exact At.new _ _) | (with_reducible refine At.row ?_) | (with_reducible refine At.app ?_) | (with_reducible refine At.tick ?_) | (with_reducible refine At.gx ?_) | ((with_reducible refine At.new' ?_); focus (simp; done)) | (with_reducible refine At.alloc ?_) | (with_reducible refine At.drew ?_) | (with_reducible exact Is.new _ _ _) | (with_reducible refine Is.row ?_) | (with_reducible refine Is.gx ?_) | ((with_reducible refine Is.new' ?_); focus (simp; done)) | (with_reducible refine Is.alloc ?_) | (with_reducible refine Is.drew ?_)))); (focus (with_reducible (first | exact hl | exact hl1 | exact hl2 | exact hl3 | exact hl4 | exact zeroF_len))))
          exact ⟨rfl, (by repeat (first | (with_reducible exact Gx.refl _) | (with_reducible assumption) | (with_reducible refine Gx.gx ?_) | (with_reducible refine Gx.alloc ?_) | (with_reducible refine Gx.drew ?_) | (with_reducible refine Gx.drewN ?_) | (with_reducible refine Gx.setRow ?_ (by simp)) | (with_reducible refine Gx.setCell ?_ (by simp))))⟩
        · have h4 : i = 63 := by omega
          rw [fit_case63 h4]
          subst h4
          have e : wordI (chkI F % 2048) = loI F := rfl
          have c0 := cb.1
          have c1 := cb.2
          have z0 := (wb (chkI F % 2048)).1
          have z1 := (wb (chkI F % 2048)).2
          have hl1 : (F.set 63 (loI F)).length = 64 := by rw [List.length_set]; exact hl
          rw [e] at z0 z1
          clear wb cb hm sy i0
          go_enter Tryd.func100, Tryd.ntmps100
          go_wp2_with (first | (refine load_fr rfl _ rfl _ rfl ?_ ?_ ?_ ?_; rotate_left; (focus (repeat (first | (with_reducible assumption) | (with_reducible exact At.new _ _) | (with_reducible refine At.row ?_) | (with_reducible refine At.app ?_) | (with_reducible refine At.tick ?_) | (with_reducible refine At.gx ?_) | ((with_reducible refine At.new' ?_); focus (simp; done)) | (with_reducible refine At.alloc ?_) | (with_reducible refine At.drew ?_) | (with_reducible exact Is.new _ _ _) | (with_reducible refine Is.row ?_) | (with_reducible refine Is.gx ?_) | ((with_reducible refine Is.new' ?_); focus (simp; done)) | (with_reducible refine Is.alloc ?_) | (with_reducible refine Is.drew ?_)))); (focus (with_reducible (first | exact hl | exact hl1 | exact hl2 | exact hl3 | exact hl4 | exact zeroF_len)))) | (refine store_fr rfl _ _ rfl _ rfl _ rfl ?_ ?_ ?_ ?_ ?_; rotate_left; (focus (repeat (first | (with_reducible assumption) | (with_reducible exact At.new _ _) | (with_reducible refine At.row ?_) | (with_reducible refine At.app ?_) | (with_reducible refine At.tick ?_) | (with_reducible refine At.gx ?_) | ((with_reducible refine At.new' ?_); focus (simp; done)) | (with_reducible refine At.alloc ?_) | (with_reducible refine At.drew ?_) | (with_reducible exact Is.new _ _ _) | (with_reducible refine Is.row ?_) | (with_reducible refine Is.gx ?_) | ((with_reducible refine Is.new' ?_); focus (simp; done)) | (with_reducible refine Is.alloc ?_) | (with_reducible refine Is.drew ?_)))); (focus (with_reducible (first | exact hl | exact hl1 | exact hl2 | exact hl3 | exact hl4 | exact zeroF_len))); (focus (with_reducible (first | exact hl | exact hl1 | exact hl2 | exact hl3 | exact hl4 | exact zeroF_len)))) | (go_at_call 95; refine (check_any F hF hn _).mono ?_; rintro e w' ⟨rfl, z, rfl⟩) | (go_at_call 74; refine (word_any _ (by omega) (by omega) _).mono ?_; rintro e w' ⟨rfl, rfl⟩))
          (refine ret_fr rfl _ _ _ ?_ rfl rfl ?_ ?_ ?_; rotate_left; (focus (repeat (first | (with_reducible assumption) | (with_reducible exact At.new _ _) | (with_reducible refine At.row ?_) | (with_reducible refine At.app ?_) | (with_reducible refine At.tick ?_) | (with_reducible refine At.gx ?_) | ((with_reducible refine At.new' ?_); focus (simp; done)) | (with_reducible refine At.alloc ?_) | (with_reducible refine At.drew ?_) | (with_reducible exact Is.new _ _ _) | (with_reducible refine Is.row ?_) | (with_reducible refine Is.gx ?_) | ((with_reducible refine Is.new' ?_); focus (simp; done)) | (with_reducible refine Is.alloc ?_) | (with_reducible refine Is.drew ?_)))); (focus (with_reducible (first | exact hl | exact hl1 | exact hl2 | exact hl3 | exact hl4 | exact zeroF_len))))
          exact ⟨rfl, (by repeat (first | (with_reducible exact Gx.refl _) | (with_reducible assumption) | (with_reducible refine Gx.gx ?_) | (with_reducible refine Gx.alloc ?_) | (with_reducible refine Gx.drew ?_) | (with_reducible refine Gx.drewN ?_) | (with_reducible refine Gx.setRow ?_ (by simp)) | (with_reducible refine Gx.setCell ?_ (by simp))))⟩
end Go.Proofs.YtemgjiajpgepiaaDoor
