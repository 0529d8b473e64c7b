/-
  What is wrong with a frame: contracts.
-/
import Derived.Test.YtllahhmonoedmaaDoorPut
import Derived.Deep.RegionWith
namespace Go.Proofs.YtllahhmonoedmaaDoor
open Go.RowKit

/-- A whole frame is read in a region that draws its order. -/
theorem quiet_fr {ops : Array Oper} {C : World → Prop} {Q : Act → Prop} {a : Act} {o : Oper} {rest : List Oper} (hw : Region.wanted o (yielded ops a.tmps) = true) (x : Operand) (ho : o.op = .load 32 x)
    (g : Nat) (hx : a.eval x = .pointer (some ⟨g, 0, none⟩)) (F : List Int) (hC : ∀ w, C w → At w g (.cells (fc F) 32 (0, 0))) (hl : F.length = 64)
    (h : wpQuiet Tryd.prog ops C Q rest (a.put o.dst (.agg (fc F)))) : wpQuiet Tryd.prog ops C Q (o :: rest) a := by
  refine BigFrame.wpQuiet_want hw fun K hK => ⟨.agg (fc F), fun w hw' => ?_, hK _ h⟩
  unfold Oper.quietAt execOp
  simp only [ho, hx, Instr.loadAt, Instr.sureAddr, Sem.run_bind, Sem.run_pure, Result.andThen_ok, load_at (hC w hw') hl]
  exact ⟨rfl, rfl⟩

set_option maxHeartbeats 600000 in
set_option maxRecDepth 100000 in
theorem fitsSync_any (F : List Int) (hF : Fr F) (w : World) (hT : Tab w) :
    Calls Tryd.prog 88 #[.agg (fc F)] w fun e w' => e = .returned (.bool (syncOk F)) ∧ ∃ x, w' = gx w x := by
  have hl := hF.len
  have b0 := (numI_bd F).1
  have e : (gw F 0 == syncI (numI F)) = syncOk F := rfl
  go_enter Tryd.func88, Tryd.ntmps88
  go_wp2
  first | (with_reducible refine region_gxx (by kernel_rfl) (by kernel_rfl) ?_) | (with_reducible refine region_gx (by kernel_rfl) (by kernel_rfl) ?_)
  repeat (any_goals (first | (refine quiet_fr rfl _ rfl _ rfl ?_ ?_ ?_ ?_; rotate_left; (focus (rintro _ ⟨x, rfl⟩; (focus (repeat (first | (with_reducible exact At.new _ _) | (with_reducible refine At.row ?_) | (with_reducible refine At.gx ?_) | ((with_reducible refine At.new' ?_); focus (simp; done)) | (with_reducible refine At.alloc ?_) | (with_reducible refine At.drew ?_) | (with_reducible exact Is.new _ _ _) | (with_reducible refine Is.row ?_) | (with_reducible refine Is.gx ?_) | ((with_reducible refine Is.new' ?_); focus (simp; done)) | (with_reducible refine Is.alloc ?_) | (with_reducible refine Is.drew ?_)))))); (focus (with_reducible (first | exact hl | exact hl1 | exact hl2 | exact hl3 | exact hl4 | exact zeroF_len)))) | go_big_quiet_step ((first | (go_at_call 83; exact calls_gx (numberOf_any F hF _)) | (go_at_call 78; exact calls_gx_same (syncFor_any _ b0 _ (by (focus (repeat (first | (with_reducible exact hT) | (with_reducible assumption) | (with_reducible refine Tab.gx ?_ _) | (with_reducible refine Tab.alloc ?_ _))))))))) | quiet_step ((first | (go_at_call 83; exact calls_gx (numberOf_any F hF _)) | (go_at_call 78; exact calls_gx_same (syncFor_any _ b0 _ (by (focus (repeat (first | (with_reducible exact hT) | (with_reducible assumption) | (with_reducible refine Tab.gx ?_ _) | (with_reducible refine Tab.alloc ?_ _)))))))))))
  refine wpQuiet_nil ?_
  rintro _ ⟨x, rfl⟩
  go_wp2
  go_ret
  exact ⟨rfl, (by repeat (first | (with_reducible exact Gx.refl _) | (with_reducible assumption) | (with_reducible refine Gx.gx ?_) | (with_reducible refine Gx.alloc ?_) | (with_reducible refine Gx.drew ?_) | (with_reducible refine Gx.drewN ?_) | (with_reducible refine Gx.setRow ?_ (by simp)) | (with_reducible refine Gx.setCell ?_ (by simp))))⟩

set_option maxHeartbeats 600000 in
set_option maxRecDepth 100000 in
theorem fitsSum_any (F : List Int) (hF : Fr F) (w : World) :
    Calls Tryd.prog 90 #[.agg (fc F)] w fun e w' => e = .returned (.bool (sumOk F)) ∧ ∃ x, w' = gx w x := by
  have hl := hF.len
  have k1 : 0 ≤ gw F 61 := (hF.bd _).1
  have k2 : gw F 61 ≤ 65535 := (hF.bd _).2
  have e : (gw F 61 % 2048 == sumI F) = sumOk F := rfl
  go_enter Tryd.func90, Tryd.ntmps90
  go_wp2
  first | (with_reducible refine region_gxx (by kernel_rfl) (by kernel_rfl) ?_) | (with_reducible refine region_gx (by kernel_rfl) (by kernel_rfl) ?_)
  repeat (any_goals (first | (refine quiet_fr rfl _ rfl _ rfl ?_ ?_ ?_ ?_; rotate_left; (focus (rintro _ ⟨x, rfl⟩; (focus (repeat (first | (with_reducible exact At.new _ _) | (with_reducible refine At.row ?_) | (with_reducible refine At.gx ?_) | ((with_reducible refine At.new' ?_); focus (simp; done)) | (with_reducible refine At.alloc ?_) | (with_reducible refine At.drew ?_) | (with_reducible exact Is.new _ _ _) | (with_reducible refine Is.row ?_) | (with_reducible refine Is.gx ?_) | ((with_reducible refine Is.new' ?_); focus (simp; done)) | (with_reducible refine Is.alloc ?_) | (with_reducible refine Is.drew ?_)))))); (focus (with_reducible (first | exact hl | exact hl1 | exact hl2 | exact hl3 | exact hl4 | exact zeroF_len)))) | go_big_quiet_step ((first | (go_at_call 75; exact calls_gx_same (dataOf_any _ k1 k2 _)) | (go_at_call 114; exact calls_gx (sumOf_any F hF _)))) | quiet_step ((first | (go_at_call 75; exact calls_gx_same (dataOf_any _ k1 k2 _)) | (go_at_call 114; exact calls_gx (sumOf_any F hF _))))))
  refine wpQuiet_nil ?_
  rintro _ ⟨x, rfl⟩
  go_wp2
  go_ret
  exact ⟨rfl, (by repeat (first | (with_reducible exact Gx.refl _) | (with_reducible assumption) | (with_reducible refine Gx.gx ?_) | (with_reducible refine Gx.alloc ?_) | (with_reducible refine Gx.drew ?_) | (with_reducible refine Gx.drewN ?_) | (with_reducible refine Gx.setRow ?_ (by simp)) | (with_reducible refine Gx.setCell ?_ (by simp))))⟩

theorem hi_bd (F : List Int) : 0 ≤ hiI F ∧ hiI F ≤ 4095 := wordI_bd _
theorem lo_bd (F : List Int) : 0 ≤ loI F ∧ loI F ≤ 4095 := wordI_bd _

set_option maxHeartbeats 600000 in
set_option maxRecDepth 100000 in
theorem fitsCheck_any (F : List Int) (hF : Fr F) (hn : Narrow F) (w : World) :
    Calls Tryd.prog 91 #[.agg (fc F)] w fun e w' => e = .returned (.bool (chkOk F)) ∧ ∃ x, w' = gx w x := by
  have hl := hF.len
  have k1 : 0 ≤ gw F 62 := (hF.bd _).1
  have k2 : gw F 62 ≤ 65535 := (hF.bd _).2
  have k3 : 0 ≤ gw F 63 := (hF.bd _).1
  have k4 : gw F 63 ≤ 65535 := (hF.bd _).2
  have q1 := (hi_bd F).1
  have q2 : hiI F ≤ 65535 := by have := (hi_bd F).2; omega
  have q3 := (lo_bd F).1
  have q4 : loI F ≤ 65535 := by have := (lo_bd F).2; omega
  have e1 : (gw F 62 % 2048 == hiI F % 2048) = hiOk F := rfl
  have e2 : (gw F 63 % 2048 == loI F % 2048) = loOk F := rfl
  cases h : hiOk F
  all_goals
    go_enter Tryd.func91, Tryd.ntmps91
    go_wp2_with (first | (refine load_fr rfl _ rfl _ rfl ?_ ?_ ?_ ?_; rotate_left; (focus (repeat (first | (with_reducible exact At.new _ _) | (with_reducible refine At.row ?_) | (with_reducible refine At.gx ?_) | ((with_reducible refine At.new' ?_); focus (simp; done)) | (with_reducible refine At.alloc ?_) | (with_reducible refine At.drew ?_) | (with_reducible exact Is.new _ _ _) | (with_reducible refine Is.row ?_) | (with_reducible refine Is.gx ?_) | ((with_reducible refine Is.new' ?_); focus (simp; done)) | (with_reducible refine Is.alloc ?_) | (with_reducible refine Is.drew ?_)))); (focus (with_reducible (first | exact hl | exact hl1 | exact hl2 | exact hl3 | exact hl4 | exact zeroF_len)))) | (go_at_call 115; refine (checkWords_any F hF hn _).mono ?_; rintro e w' ⟨rfl, z, rfl⟩) | (go_at_call 75; refine (dataOf_any _ (by assumption) (by assumption) _).mono ?_; rintro e w' ⟨rfl, rfl⟩))
    go_ret
    exact ⟨by unfold chkOk; rw [h]; rfl, (by repeat (first | (with_reducible exact Gx.refl _) | (with_reducible assumption) | (with_reducible refine Gx.gx ?_) | (with_reducible refine Gx.alloc ?_) | (with_reducible refine Gx.drew ?_) | (with_reducible refine Gx.drewN ?_) | (with_reducible refine Gx.setRow ?_ (by simp)) | (with_reducible refine Gx.setCell ?_ (by simp))))⟩

set_option maxHeartbeats 1000000 in
set_option maxRecDepth 100000 in
theorem isSound_any (F : List Int) (hF : Fr F) (hn : Narrow F) (w : World) (hT : Tab w) :
    Calls Tryd.prog 97 #[.agg (fc F)] w fun e w' => e = .returned (.bool (soundB F)) ∧ ∃ x, w' = gx w x := by
  have hl := hF.len
  have hs : soundB F = (syncOk F && (parOk F 63 && (sumOk F && chkOk F))) := rfl
  have Hs := Lib.hid hs
  clear hs
  cases h1 : syncOk F
  · go_enter Tryd.func97, Tryd.ntmps97
    go_wp2_with (first | (refine load_fr rfl _ rfl _ rfl ?_ ?_ ?_ ?_; rotate_left; (focus (repeat (first | (with_reducible exact At.new _ _) | (with_reducible refine At.row ?_) | (with_reducible refine At.gx ?_) | ((with_reducible refine At.new' ?_); focus (simp; done)) | (with_reducible refine At.alloc ?_) | (with_reducible refine At.drew ?_) | (with_reducible exact Is.new _ _ _) | (with_reducible refine Is.row ?_) | (with_reducible refine Is.gx ?_) | ((with_reducible refine Is.new' ?_); focus (simp; done)) | (with_reducible refine Is.alloc ?_) | (with_reducible refine Is.drew ?_)))); (focus (with_reducible (first | exact hl | exact hl1 | exact hl2 | exact hl3 | exact hl4 | exact zeroF_len)))) | (go_at_call 88; refine (fitsSync_any F hF _ ?_).mono ?_; (focus (repeat (first | (with_reducible exact hT) | (with_reducible assumption) | (with_reducible refine Tab.gx ?_ _) | (with_reducible refine Tab.alloc ?_ _)))); rintro e w' ⟨rfl, z, rfl⟩))
    go_ret
    exact ⟨by rw [Hs.out, h1]; rfl, (by repeat (first | (with_reducible exact Gx.refl _) | (with_reducible assumption) | (with_reducible refine Gx.gx ?_) | (with_reducible refine Gx.alloc ?_) | (with_reducible refine Gx.drew ?_) | (with_reducible refine Gx.drewN ?_) | (with_reducible refine Gx.setRow ?_ (by simp)) | (with_reducible refine Gx.setCell ?_ (by simp))))⟩
  · go_enter Tryd.func97, Tryd.ntmps97
    go_wp2_with (first | (refine load_fr rfl _ rfl _ rfl ?_ ?_ ?_ ?_; rotate_left; (focus (repeat (first | (with_reducible exact At.new _ _) | (with_reducible refine At.row ?_) | (with_reducible refine At.gx ?_) | ((with_reducible refine At.new' ?_); focus (simp; done)) | (with_reducible refine At.alloc ?_) | (with_reducible refine At.drew ?_) | (with_reducible exact Is.new _ _ _) | (with_reducible refine Is.row ?_) | (with_reducible refine Is.gx ?_) | ((with_reducible refine Is.new' ?_); focus (simp; done)) | (with_reducible refine Is.alloc ?_) | (with_reducible refine Is.drew ?_)))); (focus (with_reducible (first | exact hl | exact hl1 | exact hl2 | exact hl3 | exact hl4 | exact zeroF_len)))) | (go_at_call 88; refine (fitsSync_any F hF _ ?_).mono ?_; (focus (repeat (first | (with_reducible exact hT) | (with_reducible assumption) | (with_reducible refine Tab.gx ?_ _) | (with_reducible refine Tab.alloc ?_ _)))); rintro e w' ⟨rfl, z, rfl⟩))
    go_loopw [3] (fun i wr => ∃ (k : Nat) (x : Ext), k ≤ 63 ∧ i = .int .i64 (k + 1 : Nat) ∧ parOk F k = true ∧ wr = gx (w.alloc (.cells (fc F) 32)) x) (fun i _ => 65 - (intOf i).toNat)
    case atStart => exact ⟨0, _, Nat.zero_le _, rfl, rfl, rfl⟩
    case round =>
      obtain ⟨k, y, hk, rfl, hp, rfl⟩ := hrel
      by_cases hlt : k < 63
      · have hlt' : k + 1 < 64 := by omega
        have k1 : 0 ≤ gw F (k + 1) := (hF.bd _).1
        have k2 : gw F (k + 1) ≤ 65535 := (hF.bd _).2
        cases ho : oddI (gw F (k + 1))
        · have hnp : parOk F 63 = false := by
            cases h : parOk F 63 with
            | false => rfl
            | true => rw [(parOk_true F 63).1 h (k + 1) (by omega) (by omega)] at ho; cases ho
          have Hp := Lib.hid hnp
          clear hnp hp
          go_wp2_with (go_at_call 89; refine (isEven_any _ k1 k2 _).mono ?_; rintro e w' ⟨rfl, z, rfl⟩)
          go_ret
          exact ⟨by rw [Hs.out, h1, Hp.out]; rfl, (by repeat (first | (with_reducible exact Gx.refl _) | (with_reducible assumption) | (with_reducible refine Gx.gx ?_) | (with_reducible refine Gx.alloc ?_) | (with_reducible refine Gx.drew ?_) | (with_reducible refine Gx.drewN ?_) | (with_reducible refine Gx.setRow ?_ (by simp)) | (with_reducible refine Gx.setCell ?_ (by simp))))⟩
        · have Hp : Hid (parOk F (k + 1) = true) := by show (parOk F k && _) = true; rw [hp, ho]; rfl
          clear hp
          go_wp2_with (go_at_call 89; refine (isEven_any _ k1 k2 _).mono ?_; rintro e w' ⟨rfl, z, rfl⟩)
          go_roundw
          case rel => exact ⟨k + 1, _, by omega, by go_num, Hp.out, rfl⟩
          case measure => simp [intOf]; omega
      · obtain rfl : k = 63 := by omega
        have Hp := Lib.hid hp
        clear hp
        cases h3 : sumOk F
        all_goals
          go_wp2_with (first | (refine load_fr rfl _ rfl _ rfl ?_ ?_ ?_ ?_; rotate_left; (focus (repeat (first | (with_reducible exact At.new _ _) | (with_reducible refine At.row ?_) | (with_reducible refine At.gx ?_) | ((with_reducible refine At.new' ?_); focus (simp; done)) | (with_reducible refine At.alloc ?_) | (with_reducible refine At.drew ?_) | (with_reducible exact Is.new _ _ _) | (with_reducible refine Is.row ?_) | (with_reducible refine Is.gx ?_) | ((with_reducible refine Is.new' ?_); focus (simp; done)) | (with_reducible refine Is.alloc ?_) | (with_reducible refine Is.drew ?_)))); (focus (with_reducible (first | exact hl | exact hl1 | exact hl2 | exact hl3 | exact hl4 | exact zeroF_len)))) | (go_at_call 90; refine (fitsSum_any F hF _).mono ?_; rintro e w' ⟨rfl, z, rfl⟩) | (go_at_call 91; refine (fitsCheck_any F hF hn _).mono ?_; rintro e w' ⟨rfl, z, rfl⟩))
          go_ret
          exact ⟨by rw [Hs.out, h1, Hp.out, h3]; rfl, (by repeat (first | (with_reducible exact Gx.refl _) | (with_reducible assumption) | (with_reducible refine Gx.gx ?_) | (with_reducible refine Gx.alloc ?_) | (with_reducible refine Gx.drew ?_) | (with_reducible refine Gx.drewN ?_) | (with_reducible refine Gx.setRow ?_ (by simp)) | (with_reducible refine Gx.setCell ?_ (by simp))))⟩

set_option maxHeartbeats 1000000 in
set_option maxRecDepth 100000 in
theorem wordsThat_wide (F : List Int) (hF : Fr F) (hn : Narrow F) (w : World) :
    Calls Tryd.prog 86 #[.agg (fc F), .int .i64 0, .int .i64 5, .func (.func 87) #[] #[]] w fun e w' => e = .returned (.slice none 0 0) ∧ ∃ x, w' = gx w x := by
  have hl := hF.len
  go_enter Tryd.func86, Tryd.ntmps86
  go_wp2
  go_loop [9, 10] (fun fl i => ∃ k : Nat, k ≤ 64 ∧ fl = .slice none 0 0 ∧ i = .int .i64 k) (fun _ i => 64 - (intOf i).toNat)
  case atStart => exact ⟨0, Nat.zero_le _, rfl, rfl⟩
  case round =>
    obtain ⟨k, hk, rfl, rfl⟩ := hrel
    by_cases hlt : k < 64
    · have k2 : gw F k ≤ 4095 := hn k hlt
      have hd : decide (4096 ≤ gw F k) = false := decide_eq_false (by omega)
      go_wp2_with (go_at_call 87; refine (isTooWide_any _ _).mono ?_; rintro e w' ⟨rfl, rfl⟩)
      go_round
      case rel => exact ⟨k + 1, by omega, rfl, by go_num⟩
      case measure => simp [intOf]; omega
    · obtain rfl : k = 64 := by omega
      go_wp2
      go_ret
      exact ⟨rfl, (by repeat (first | (with_reducible exact Gx.refl _) | (with_reducible assumption) | (with_reducible refine Gx.gx ?_) | (with_reducible refine Gx.alloc ?_) | (with_reducible refine Gx.drew ?_) | (with_reducible refine Gx.drewN ?_) | (with_reducible refine Gx.setRow ?_ (by simp)) | (with_reducible refine Gx.setCell ?_ (by simp))))⟩

set_option maxHeartbeats 1000000 in
set_option maxRecDepth 100000 in
theorem wordsThat_even (F : List Int) (hF : Fr F) (hp : parOk F 63 = true) (w : World) :
    Calls Tryd.prog 86 #[.agg (fc F), .int .i64 1, .int .i64 2, .func (.func 89) #[] #[]] w fun e w' => e = .returned (.slice none 0 0) ∧ ∃ x, w' = gx w x := by
  have hl := hF.len
  have hpp := (parOk_true F 63).1 hp
  have Hp := Lib.hid hpp
  clear hp hpp
  go_enter Tryd.func86, Tryd.ntmps86
  go_wp2
  go_loopw [9, 10] (fun fl i wr => ∃ (k : Nat) (x : Ext), k ≤ 63 ∧ fl = .slice none 0 0 ∧ i = .int .i64 (k + 1 : Nat) ∧ wr = gx (w.alloc (.cells (fc F) 32)) x) (fun _ i _ => 65 - (intOf i).toNat)
  case atStart => exact ⟨0, _, Nat.zero_le _, rfl, rfl, (gx_none _).symm⟩
  case round =>
    obtain ⟨k, y, hk, rfl, rfl, rfl⟩ := hrel
    by_cases hlt : k < 63
    · have hlt' : k + 1 < 64 := by omega
      have k1 : 0 ≤ gw F (k + 1) := (hF.bd _).1
      have k2 : gw F (k + 1) ≤ 65535 := (hF.bd _).2
      have ho : oddI (gw F (k + 1)) = true := Hp.out (k + 1) (by omega) (by omega)
      go_wp2_with (go_at_call 89; refine (isEven_any _ k1 k2 _).mono ?_; rintro e w' ⟨rfl, z, rfl⟩)
      go_roundw
      case rel => exact ⟨k + 1, _, by omega, rfl, by go_num, rfl⟩
      case measure => simp [intOf]; omega
    · obtain rfl : k = 63 := by omega
      go_wp2
      go_ret
      exact ⟨rfl, (by repeat (first | (with_reducible exact Gx.refl _) | (with_reducible assumption) | (with_reducible refine Gx.gx ?_) | (with_reducible refine Gx.alloc ?_) | (with_reducible refine Gx.drew ?_) | (with_reducible refine Gx.drewN ?_) | (with_reducible refine Gx.setRow ?_ (by simp)) | (with_reducible refine Gx.setCell ?_ (by simp))))⟩

set_option maxHeartbeats 1000000 in
set_option maxRecDepth 100000 in
theorem Flaws_sound (F : List Int) (hF : Fr F) (hn : Narrow F) (hs : soundB F = true) (w : World) (hT : Tab w) :
    Calls Tryd.prog 30 #[.agg (fc F)] w fun e w' => e = .returned (.slice none 0 0) ∧ ∃ x, w' = gx w x := by
  have hl := hF.len
  obtain ⟨h1, h2, h3, h4⟩ := (soundB_true F).1 hs
  clear hs
  have H2 := Lib.hid h2
  clear h2
  go_enter Tryd.func30, Tryd.ntmps30
  go_wp2_with (first | (refine load_fr rfl _ rfl _ rfl ?_ ?_ ?_ ?_; rotate_left; (focus (repeat (first | (with_reducible exact At.new _ _) | (with_reducible refine At.row ?_) | (with_reducible refine At.gx ?_) | ((with_reducible refine At.new' ?_); focus (simp; done)) | (with_reducible refine At.alloc ?_) | (with_reducible refine At.drew ?_) | (with_reducible exact Is.new _ _ _) | (with_reducible refine Is.row ?_) | (with_reducible refine Is.gx ?_) | ((with_reducible refine Is.new' ?_); focus (simp; done)) | (with_reducible refine Is.alloc ?_) | (with_reducible refine Is.drew ?_)))); (focus (with_reducible (first | exact hl | exact hl1 | exact hl2 | exact hl3 | exact hl4 | exact zeroF_len)))) | (go_at_call 88; refine (fitsSync_any F hF _ ?_).mono ?_; (focus (repeat (first | (with_reducible exact hT) | (with_reducible assumption) | (with_reducible refine Tab.gx ?_ _) | (with_reducible refine Tab.alloc ?_ _)))); rintro e w' ⟨rfl, z, rfl⟩) | (go_at_call 90; refine (fitsSum_any F hF _).mono ?_; rintro e w' ⟨rfl, z, rfl⟩) | (go_at_call 91; refine (fitsCheck_any F hF hn _).mono ?_; rintro e w' ⟨rfl, z, rfl⟩) | (go_at_call_of 86 (Value.int .i64 0); refine (wordsThat_wide F hF hn _).mono ?_; rintro e w' ⟨rfl, z, rfl⟩) | (go_at_call_of 86 (Value.int .i64 1); refine (wordsThat_even F hF H2.out _).mono ?_; rintro e w' ⟨rfl, z, rfl⟩))
  go_ret
  exact ⟨rfl, (by repeat (first | (with_reducible exact Gx.refl _) | (with_reducible assumption) | (with_reducible refine Gx.gx ?_) | (with_reducible refine Gx.alloc ?_) | (with_reducible refine Gx.drew ?_) | (with_reducible refine Gx.drewN ?_) | (with_reducible refine Gx.setRow ?_ (by simp)) | (with_reducible refine Gx.setCell ?_ (by simp))))⟩
end Go.Proofs.YtllahhmonoedmaaDoor
