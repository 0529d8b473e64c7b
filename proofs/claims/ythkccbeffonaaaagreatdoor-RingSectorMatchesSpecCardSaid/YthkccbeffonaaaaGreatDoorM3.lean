/-
  Texts that this claim leans on, merged: ToBytes, Row, GLeaf, LawBytes, Own, GTargets, Inside, GWrite, GMem, GSlot, With, LawPut.
-/
import Derived.Laws.BytesString
import Derived.Laws.OwnMore
import Derived.ArgAppend
import Derived.OpenShut
import Derived.Test.YthkccbeffonaaaaGreatDoorM2

/-
  ToBytes, the program's and the reference's; bytes compared.
-/
namespace Go.Proofs.YthkccbeffonaaaaGreatDoor
open Go.RowKit

-- AT2
theorem At.app {w : World} {g : Nat} {o : Obj} {x y : Ext} (h : At (Go.Proofs.YthkccbeffonaaaaGreatDoor.gx w x) g o) : At (Go.Proofs.YthkccbeffonaaaaGreatDoor.gx w (x.app y)) g o := by rw [← gx_gx]; exact h.gx
theorem At.tick {w : World} {g : Nat} {o : Obj} {x : Ext} {n : Nat} (h : At (Go.Proofs.YthkccbeffonaaaaGreatDoor.gx w x) g o) : At (Go.Proofs.YthkccbeffonaaaaGreatDoor.gx w (x.tick n)) g o := by rw [← drewN_gx]; exact h
theorem region_w_tail {P : Program} {id : Nat} {Q : Exit → Act → World → Prop} {a : Act} {w : World} {l : List Oper} (n : Nat) (hm : P.follows .mixedOrders = true) (hB : Region.lexTailB .any l.toArray n = true)
    (h : wpQuiet P l.toArray (fun w' => ∃ x, w' = gx w x) (fun a' => ∀ w', (∃ x, w' = gx w x) → wpList P l.toArray Q (l.drop n) a' w') (l.take n) a) : (Code.region id l.toArray true).wp P Q a w :=
  region_quiet_tail n hm hB (Gx.drew (Gx.refl w)) h
@[go_sem high] theorem make96 (w : World) : (Instr.makeSlice 39 (.int .i64 96) (.int .i64 96)).run Tryz.prog w = .ok (.slice (some ⟨w.heap.size, 0, none⟩) 96 96) (w.alloc (.cells (bc (zerosI 96)) 5)) := by
  unfold zerosI
  kernel_rfl

/-- What ToBytes gives: a new block with the frame's bytes. -/
def packF (F : List Int) : List Int := wrF (zerosI 96) 0 F
theorem packF_len (F : List Int) : (packF F).length = 96 := by unfold packF; rw [wrF_len, zerosI_len]
theorem gw_packF (F : List Int) (j : Nat) (hj : j < 96) : gw (packF F) j = byI F j := by
  unfold packF; rw [gw_wrF _ _ _ (by rw [zerosI_len]; decide), if_pos (by omega)]; rfl
attribute [irreducible] packF

set_option maxHeartbeats 600000 in
set_option maxRecDepth 100000 in
theorem ToBytes_wide (F : List Int) (hF : Fr F) (hw : wideB F = true) (w : World) :
    Calls Tryz.prog 116 #[.agg (fc F)] w fun e w' => e = .returned (.tuple #[.slice none 0 0, .int .i64 9]) ∧ ∃ x, w' = gx w x := by
  have hl := hF.len
  go_enter Tryz.func116, Tryz.ntmps116
  go_wp2_with (first | (refine load_fr rfl _ rfl _ rfl ?_ ?_ ?_ ?_; rotate_left; (focus (repeat (first | (with_reducible assumption) | (with_reducible exact At.new _ _) | (with_reducible refine At.row ?_) | (with_reducible refine At.app ?_) | (with_reducible refine At.tick ?_) | (with_reducible refine At.gx ?_) | ((with_reducible refine At.new' ?_); focus (simp; done)) | (with_reducible refine At.alloc ?_) | (with_reducible refine At.drew ?_) | (with_reducible exact Is.new _ _ _) | (with_reducible refine Is.row ?_) | (with_reducible refine Is.gx ?_) | ((with_reducible refine Is.new' ?_); focus (simp; done)) | (with_reducible refine Is.alloc ?_) | (with_reducible refine Is.drew ?_)))); (focus (with_reducible (first | exact hl | exact hl1 | exact hl2 | exact hl3 | exact hl4 | exact zeroF_len)))) | (go_at_call 139; refine (isWide_any F hF _).mono ?_; rintro e w' ⟨rfl, z, rfl⟩))
  go_ret2
  exact ⟨rfl, (by repeat (first | (with_reducible exact Gx.refl _) | (with_reducible assumption) | (with_reducible refine Gx.gx ?_) | (with_reducible refine Gx.alloc ?_) | (with_reducible refine Gx.drew ?_) | (with_reducible refine Gx.drewN ?_) | (with_reducible refine Gx.setRow ?_ (by simp)) | (with_reducible refine Gx.setCell ?_ (by simp))))⟩

set_option maxHeartbeats 600000 in
set_option maxRecDepth 100000 in
theorem ToBytes_good (F : List Int) (hF : Fr F) (hw : wideB F = false) (w : World) :
    Calls Tryz.prog 116 #[.agg (fc F)] w fun e w' => ∃ g x, e = .returned (.tuple #[.slice (some ⟨g, 0, none⟩) 96 96, .int .i64 0]) ∧ w' = gx w x ∧ At (gx w x) g (.cells (bc (packF F)) 5 (0, 0)) := by
  have hl := hF.len
  have hn := wideB_false.1 hw
  have hz := zerosI_len 96
  have hp : wrF (zerosI 96) 0 F = packF F := by unfold packF; rfl
  have key : ∀ W g, (∃ x, W = gx w x) → At W g (.cells (bc (packF F)) 5 (0, 0)) → ∃ g' x, Ending.returned (.tuple #[.slice (some ⟨g, 0, none⟩) 96 96, .int .i64 0]) = .returned (.tuple #[.slice (some ⟨g', 0, none⟩) 96 96, .int .i64 0]) ∧ W = gx w x ∧ At (gx w x) g' (.cells (bc (packF F)) 5 (0, 0)) := fun W g ⟨x, h⟩ hA => ⟨g, x, rfl, h, h ▸ hA⟩
  have Key := Lib.hid key
  clear key
  have hat : ∀ w b, (Instr.arrayAt 258 (.slice (some ⟨b, 0, none⟩) 96 96)).run Tryz.prog w = .ok (.pointer (some ⟨b, 0, none⟩)) w := fun w b => run_arrayAt _ _ _ _ _ _ _ Tryz.underlying258 (by omega)
  go_enter Tryz.func116, Tryz.ntmps116
  go_wp2_with (first | (refine load_fr rfl _ rfl _ rfl ?_ ?_ ?_ ?_; rotate_left; (focus (repeat (first | (with_reducible assumption) | (with_reducible exact At.new _ _) | (with_reducible refine At.row ?_) | (with_reducible refine At.app ?_) | (with_reducible refine At.tick ?_) | (with_reducible refine At.gx ?_) | ((with_reducible refine At.new' ?_); focus (simp; done)) | (with_reducible refine At.alloc ?_) | (with_reducible refine At.drew ?_) | (with_reducible exact Is.new _ _ _) | (with_reducible refine Is.row ?_) | (with_reducible refine Is.gx ?_) | ((with_reducible refine Is.new' ?_); focus (simp; done)) | (with_reducible refine Is.alloc ?_) | (with_reducible refine Is.drew ?_)))); (focus (with_reducible (first | exact hl | exact hl1 | exact hl2 | exact hl3 | exact hl4 | exact zeroF_len)))) | (go_at_call 139; refine (isWide_any F hF _).mono ?_; rintro e w' ⟨rfl, z, rfl⟩))
  first | (with_reducible refine region_gx_tail 3 (by kernel_rfl) (by kernel_rfl) ?_) | (with_reducible refine region_w_tail 3 (by kernel_rfl) (by kernel_rfl) ?_)
  simp only [List.take_succ_cons, List.take_zero, List.drop_succ_cons, List.drop_zero]
  repeat (any_goals (first | (refine quiet_fr rfl _ rfl _ rfl ?_ ?_ ?_ ?_; rotate_left; (focus (rintro _ ⟨x, rfl⟩; (focus (repeat (first | (with_reducible assumption) | (with_reducible exact At.new _ _) | (with_reducible refine At.row ?_) | (with_reducible refine At.app ?_) | (with_reducible refine At.tick ?_) | (with_reducible refine At.gx ?_) | ((with_reducible refine At.new' ?_); focus (simp; done)) | (with_reducible refine At.alloc ?_) | (with_reducible refine At.drew ?_) | (with_reducible exact Is.new _ _ _) | (with_reducible refine Is.row ?_) | (with_reducible refine Is.gx ?_) | ((with_reducible refine Is.new' ?_); focus (simp; done)) | (with_reducible refine Is.alloc ?_) | (with_reducible refine Is.drew ?_)))))); (focus (with_reducible (first | exact hl | exact hl1 | exact hl2 | exact hl3 | exact hl4 | exact zeroF_len)))) | go_big_quiet_step ((first | fail)) | quiet_step ((first | fail))))
  refine wpQuiet_nil ?_
  rintro _ ⟨x, rfl⟩
  go_wp2_with (go_at_call 149; refine (write_any (zerosI 96) (zeros_bs 96) 0 (by rw [zerosI_len]; decide) F hF hn _ _ ?_).mono ?_; (focus (repeat (first | (with_reducible assumption) | (with_reducible exact At.new _ _) | (with_reducible refine At.row ?_) | (with_reducible refine At.app ?_) | (with_reducible refine At.tick ?_) | (with_reducible refine At.gx ?_) | ((with_reducible refine At.new' ?_); focus (simp; done)) | (with_reducible refine At.alloc ?_) | (with_reducible refine At.drew ?_) | (with_reducible exact Is.new _ _ _) | (with_reducible refine Is.row ?_) | (with_reducible refine Is.gx ?_) | ((with_reducible refine Is.new' ?_); focus (simp; done)) | (with_reducible refine Is.alloc ?_) | (with_reducible refine Is.drew ?_)))); rintro e w' ⟨rfl, z, rfl⟩)
  go_wp2
  go_ret2
  exact Key.out _ _ (by repeat (first | (with_reducible exact Gx.refl _) | (with_reducible assumption) | (with_reducible refine Gx.gx ?_) | (with_reducible refine Gx.alloc ?_) | (with_reducible refine Gx.drew ?_) | (with_reducible refine Gx.drewN ?_) | (with_reducible refine Gx.setRow ?_ (by simp)) | (with_reducible refine Gx.setCell ?_ (by simp)))) (by (focus (repeat (first | (with_reducible assumption) | (with_reducible exact At.new _ _) | (with_reducible refine At.row ?_) | (with_reducible refine At.app ?_) | (with_reducible refine At.tick ?_) | (with_reducible refine At.gx ?_) | ((with_reducible refine At.new' ?_); focus (simp; done)) | (with_reducible refine At.alloc ?_) | (with_reducible refine At.drew ?_) | (with_reducible exact Is.new _ _ _) | (with_reducible refine Is.row ?_) | (with_reducible refine Is.gx ?_) | ((with_reducible refine Is.new' ?_); focus (simp; done)) | (with_reducible refine Is.alloc ?_) | (with_reducible refine Is.drew ?_)))))

set_option maxHeartbeats 600000 in
set_option maxRecDepth 100000 in
theorem Half_any (F : List Int) (hF : Fr F) (n : Nat) (hn : n < 192) (w : World) :
    Calls Tryz.prog 202 #[.agg (fc F), .int .i64 n] w fun e w' => e = .returned (.int .i64 (halfI F n)) ∧ ∃ x, w' = gx w x := by
  have hl := hF.len
  have h0 := (hF.bd (n / 3)).1
  have h1 := (hF.bd (n / 3)).2
  have h3 : n / 3 < 64 := by omega
  have c : n % 3 = 0 ∨ n % 3 = 1 ∨ n % 3 = 2 := by omega
  have hh : halfI F n = gw F (n / 3) / 2 ^ (8 - n % 3 * 4) % 16 := halfI_is F n
  rcases c with c | c | c
  · have c' : (n : Int) % 3 = 0 := by omega
    have e : (2 : Int) ^ (8 - 0 * 4) = 256 := rfl
    rw [c, e] at hh
    have hb : bits .and .i64 (gw F (n / 3) / 256) 15 = gw F (n / 3) / 256 % 16 := bits_mask .i64 63 (by decide) wraps_i64 4 (by decide) _ (by omega) (by omega)
    have Hh := Lib.hid hh
    clear hh
    go_enter Tryz.func202, Tryz.ntmps202
    go_wp2
    go_ret
    exact ⟨by rw [Hh.out]; rfl, (by repeat (first | (with_reducible exact Gx.refl _) | (with_reducible assumption) | (with_reducible refine Gx.gx ?_) | (with_reducible refine Gx.alloc ?_) | (with_reducible refine Gx.drew ?_) | (with_reducible refine Gx.drewN ?_) | (with_reducible refine Gx.setRow ?_ (by simp)) | (with_reducible refine Gx.setCell ?_ (by simp))))⟩
  · have c' : (n : Int) % 3 = 1 := by omega
    have e : (2 : Int) ^ (8 - 1 * 4) = 16 := rfl
    rw [c, e] at hh
    have hb : bits .and .i64 (gw F (n / 3) / 16) 15 = gw F (n / 3) / 16 % 16 := bits_mask .i64 63 (by decide) wraps_i64 4 (by decide) _ (by omega) (by omega)
    have Hh := Lib.hid hh
    clear hh
    go_enter Tryz.func202, Tryz.ntmps202
    go_wp2
    go_ret
    exact ⟨by rw [Hh.out]; rfl, (by repeat (first | (with_reducible exact Gx.refl _) | (with_reducible assumption) | (with_reducible refine Gx.gx ?_) | (with_reducible refine Gx.alloc ?_) | (with_reducible refine Gx.drew ?_) | (with_reducible refine Gx.drewN ?_) | (with_reducible refine Gx.setRow ?_ (by simp)) | (with_reducible refine Gx.setCell ?_ (by simp))))⟩
  · have c' : (n : Int) % 3 = 2 := by omega
    have e : (2 : Int) ^ (8 - 2 * 4) = 1 := rfl
    rw [c, e, Int.ediv_one] at hh
    have hb : bits .and .i64 (gw F (n / 3)) 15 = gw F (n / 3) % 16 := bits_mask .i64 63 (by decide) wraps_i64 4 (by decide) _ (by omega) (by omega)
    have Hh := Lib.hid hh
    clear hh
    go_enter Tryz.func202, Tryz.ntmps202
    go_wp2
    go_ret
    exact ⟨by rw [Hh.out]; rfl, (by repeat (first | (with_reducible exact Gx.refl _) | (with_reducible assumption) | (with_reducible refine Gx.gx ?_) | (with_reducible refine Gx.alloc ?_) | (with_reducible refine Gx.drew ?_) | (with_reducible refine Gx.drewN ?_) | (with_reducible refine Gx.setRow ?_ (by simp)) | (with_reducible refine Gx.setCell ?_ (by simp))))⟩

theorem HalfZ_any (F : List Int) (hF : Fr F) (m : Int) (n : Nat) (h : m = n) (hn : n < 192) (w : World) :
    Calls Tryz.prog 202 #[.agg (fc F), .int .i64 m] w fun e w' => e = .returned (.int .i64 (halfI F n)) ∧ ∃ x, w' = gx w x := by subst h; exact Half_any F hF n hn w
/-- The first k bytes. -/
def packTo (F : List Int) : Nat → List Int
  | 0 => zerosI 96
  | k + 1 => (packTo F k).set k (byI F k)
theorem packTo_len (F : List Int) : ∀ k, (packTo F k).length = 96
  | 0 => by unfold packTo; exact zerosI_len 96
  | k + 1 => by unfold packTo; rw [List.length_set, packTo_len F k]
theorem gw_packTo (F : List Int) : ∀ k, k ≤ 96 → ∀ j, j < k → gw (packTo F k) j = byI F j
  | k + 1, hk, j, hj => by
    unfold packTo
    rw [gw_set _ _ _ _ (by rw [packTo_len]; omega)]
    by_cases e : j = k
    · rw [if_pos e, e]
    · rw [if_neg e]; exact gw_packTo F k (by omega) j (by omega)
theorem packTo_end (F : List Int) : packTo F 96 = packF F := ext_gw (by rw [packTo_len, packF_len]) fun k hk => by
  rw [packTo_len] at hk
  rw [gw_packTo F 96 (by omega) k hk, gw_packF F k hk]
attribute [irreducible] packTo

set_option maxHeartbeats 1000000 in
set_option maxRecDepth 100000 in
theorem bytes_any (F : List Int) (hF : Fr F) (hn : Narrow F) (w : World) :
    Calls Tryz.prog 178 #[.agg (fc F)] w fun e w' => ∃ g x, e = .returned (.slice (some ⟨g, 0, none⟩) 96 96) ∧ w' = gx w x ∧ At (gx w x) g (.cells (bc (packF F)) 5 (0, 0)) := by
  have hl := hF.len
  have z1 : zerosI 96 = packTo F 0 := by rw [packTo]
  have key : ∀ W g, (∃ x, W = gx w x) → At W g (.cells (bc (packF F)) 5 (0, 0)) → ∃ g' x, Ending.returned (.slice (some ⟨g, 0, none⟩) 96 96) = .returned (.slice (some ⟨g', 0, none⟩) 96 96) ∧ W = gx w x ∧ At (gx w x) g' (.cells (bc (packF F)) 5 (0, 0)) := fun W g ⟨x, h⟩ hA => ⟨g, x, rfl, h, h ▸ hA⟩
  have Key := Lib.hid key
  clear key
  have he := Lib.hid (packTo_end F)
  go_enter Tryz.func178, Tryz.ntmps178
  go_wp2
  go_loopw [8] (fun i wr => ∃ (k : Nat) (x : Ext), k ≤ 96 ∧ i = .int .i64 k ∧ wr = gx ((w.alloc (.cells (fc F) 57)).alloc (.cells (bc (packTo F k)) 5)) x) (fun i _ => 96 - (intOf i).toNat)
  case atStart => exact ⟨0, _, Nat.zero_le _, rfl, (gx_none _).symm⟩
  case round =>
    obtain ⟨k, y, hk, rfl, rfl⟩ := hrel
    by_cases hlt : k < 96
    · have a0 := (halfI_bd F (2 * k)).1
      have a1 := (halfI_bd F (2 * k)).2
      have b0 := (halfI_bd F (2 * k + 1)).1
      have b1 := (halfI_bd F (2 * k + 1)).2
      have hb : 16 * halfI F (2 * k) + halfI F (2 * k + 1) = byI F k := by rw [Int.mul_comm]; exact half_by hF hn k hlt
      have c0 := (byI_bd hF hn k hlt).1
      have c1 := (byI_bd hF hn k hlt).2
      have lp := packTo_len F k
      have e : (packTo F k).set k (byI F k) = packTo F (k + 1) := by rw [packTo]
      go_wp2
      first | (with_reducible refine region_gx_tail 15 (by kernel_rfl) (by kernel_rfl) ?_) | (with_reducible refine region_w_tail 15 (by kernel_rfl) (by kernel_rfl) ?_)
      simp only [List.take_succ_cons, List.take_zero, List.drop_succ_cons, List.drop_zero]
      repeat (any_goals (first | (refine quiet_fr rfl _ rfl _ rfl ?_ ?_ ?_ ?_; rotate_left; (focus (rintro _ ⟨x, rfl⟩; (focus (repeat (first | (with_reducible assumption) | (with_reducible exact At.new _ _) | (with_reducible refine At.row ?_) | (with_reducible refine At.app ?_) | (with_reducible refine At.tick ?_) | (with_reducible refine At.gx ?_) | ((with_reducible refine At.new' ?_); focus (simp; done)) | (with_reducible refine At.alloc ?_) | (with_reducible refine At.drew ?_) | (with_reducible exact Is.new _ _ _) | (with_reducible refine Is.row ?_) | (with_reducible refine Is.gx ?_) | ((with_reducible refine Is.new' ?_); focus (simp; done)) | (with_reducible refine Is.alloc ?_) | (with_reducible refine Is.drew ?_)))))); (focus (with_reducible (first | exact hl | exact hl1 | exact hl2 | exact hl3 | exact hl4 | exact zeroF_len)))) | go_big_quiet_step ((first | (go_at_call 202; exact calls_gx (HalfZ_any F hF _ (2 * k) (by omega) (by omega) _)) | (go_at_call 202; exact calls_gx (HalfZ_any F hF _ (2 * k + 1) (by omega) (by omega) _)))) | quiet_step ((first | (go_at_call 202; exact calls_gx (HalfZ_any F hF _ (2 * k) (by omega) (by omega) _)) | (go_at_call 202; exact calls_gx (HalfZ_any F hF _ (2 * k + 1) (by omega) (by omega) _))))))
      refine wpQuiet_nil ?_
      rintro _ ⟨x, rfl⟩
      go_wp2
      go_roundw
      case rel => exact ⟨k + 1, _, by omega, by go_num, rfl⟩
      case measure => simp [intOf]; omega
    · obtain rfl : k = 96 := by omega
      rw [he.out]
      go_wp2
      go_ret
      exact Key.out _ _ (by repeat (first | (with_reducible exact Gx.refl _) | (with_reducible assumption) | (with_reducible refine Gx.gx ?_) | (with_reducible refine Gx.alloc ?_) | (with_reducible refine Gx.drew ?_) | (with_reducible refine Gx.drewN ?_) | (with_reducible refine Gx.setRow ?_ (by simp)) | (with_reducible refine Gx.setCell ?_ (by simp)))) (by (focus (repeat (first | (with_reducible assumption) | (with_reducible exact At.new _ _) | (with_reducible refine At.row ?_) | (with_reducible refine At.app ?_) | (with_reducible refine At.tick ?_) | (with_reducible refine At.gx ?_) | ((with_reducible refine At.new' ?_); focus (simp; done)) | (with_reducible refine At.alloc ?_) | (with_reducible refine At.drew ?_) | (with_reducible exact Is.new _ _ _) | (with_reducible refine Is.row ?_) | (with_reducible refine Is.gx ?_) | ((with_reducible refine Is.new' ?_); focus (simp; done)) | (with_reducible refine Is.alloc ?_) | (with_reducible refine Is.drew ?_)))))

set_option maxHeartbeats 600000 in
set_option maxRecDepth 100000 in
theorem RToBytes_wide (F : List Int) (hF : Fr F) (hw : wideB F = true) (w : World) :
    Calls Tryz.prog 151 #[.agg (fc F)] w fun e w' => e = .returned (.tuple #[.slice none 0 0, .int .i64 9]) ∧ ∃ x, w' = gx w x := by
  have hl := hF.len
  go_enter Tryz.func151, Tryz.ntmps151
  go_wp2_with (first | (refine load_fr rfl _ rfl _ rfl ?_ ?_ ?_ ?_; rotate_left; (focus (repeat (first | (with_reducible assumption) | (with_reducible exact At.new _ _) | (with_reducible refine At.row ?_) | (with_reducible refine At.app ?_) | (with_reducible refine At.tick ?_) | (with_reducible refine At.gx ?_) | ((with_reducible refine At.new' ?_); focus (simp; done)) | (with_reducible refine At.alloc ?_) | (with_reducible refine At.drew ?_) | (with_reducible exact Is.new _ _ _) | (with_reducible refine Is.row ?_) | (with_reducible refine Is.gx ?_) | ((with_reducible refine Is.new' ?_); focus (simp; done)) | (with_reducible refine Is.alloc ?_) | (with_reducible refine Is.drew ?_)))); (focus (with_reducible (first | exact hl | exact hl1 | exact hl2 | exact hl3 | exact hl4 | exact zeroF_len)))) | (go_at_call 177; refine (Wide_any F hF _).mono ?_; rintro e w' ⟨rfl, z, rfl⟩))
  go_ret2
  exact ⟨rfl, (by repeat (first | (with_reducible exact Gx.refl _) | (with_reducible assumption) | (with_reducible refine Gx.gx ?_) | (with_reducible refine Gx.alloc ?_) | (with_reducible refine Gx.drew ?_) | (with_reducible refine Gx.drewN ?_) | (with_reducible refine Gx.setRow ?_ (by simp)) | (with_reducible refine Gx.setCell ?_ (by simp))))⟩

set_option maxHeartbeats 600000 in
set_option maxRecDepth 100000 in
theorem RToBytes_good (F : List Int) (hF : Fr F) (hw : wideB F = false) (w : World) :
    Calls Tryz.prog 151 #[.agg (fc F)] w fun e w' => ∃ g x, e = .returned (.tuple #[.slice (some ⟨g, 0, none⟩) 96 96, .int .i64 0]) ∧ w' = gx w x ∧ At (gx w x) g (.cells (bc (packF F)) 5 (0, 0)) := by
  have hl := hF.len
  have hn := wideB_false.1 hw
  have key : ∀ W g, (∃ x, W = gx w x) → At W g (.cells (bc (packF F)) 5 (0, 0)) → ∃ g' x, Ending.returned (.tuple #[.slice (some ⟨g, 0, none⟩) 96 96, .int .i64 0]) = .returned (.tuple #[.slice (some ⟨g', 0, none⟩) 96 96, .int .i64 0]) ∧ W = gx w x ∧ At (gx w x) g' (.cells (bc (packF F)) 5 (0, 0)) := fun W g ⟨x, h⟩ hA => ⟨g, x, rfl, h, h ▸ hA⟩
  have Key := Lib.hid key
  clear key
  go_enter Tryz.func151, Tryz.ntmps151
  go_wp2_with (first | (refine load_fr rfl _ rfl _ rfl ?_ ?_ ?_ ?_; rotate_left; (focus (repeat (first | (with_reducible assumption) | (with_reducible exact At.new _ _) | (with_reducible refine At.row ?_) | (with_reducible refine At.app ?_) | (with_reducible refine At.tick ?_) | (with_reducible refine At.gx ?_) | ((with_reducible refine At.new' ?_); focus (simp; done)) | (with_reducible refine At.alloc ?_) | (with_reducible refine At.drew ?_) | (with_reducible exact Is.new _ _ _) | (with_reducible refine Is.row ?_) | (with_reducible refine Is.gx ?_) | ((with_reducible refine Is.new' ?_); focus (simp; done)) | (with_reducible refine Is.alloc ?_) | (with_reducible refine Is.drew ?_)))); (focus (with_reducible (first | exact hl | exact hl1 | exact hl2 | exact hl3 | exact hl4 | exact zeroF_len)))) | (go_at_call 177; refine (Wide_any F hF _).mono ?_; rintro e w' ⟨rfl, z, rfl⟩) | (go_at_call 178; refine (bytes_any F hF hn _).mono ?_; rintro e w' ⟨g, z, rfl, rfl, hA⟩; (try simp only [gx_gx] at hA)))
  go_ret2
  exact Key.out _ _ (by repeat (first | (with_reducible exact Gx.refl _) | (with_reducible assumption) | (with_reducible refine Gx.gx ?_) | (with_reducible refine Gx.alloc ?_) | (with_reducible refine Gx.drew ?_) | (with_reducible refine Gx.drewN ?_) | (with_reducible refine Gx.setRow ?_ (by simp)) | (with_reducible refine Gx.setCell ?_ (by simp)))) (by (focus (repeat (first | (with_reducible assumption) | (with_reducible exact At.new _ _) | (with_reducible refine At.row ?_) | (with_reducible refine At.app ?_) | (with_reducible refine At.tick ?_) | (with_reducible refine At.gx ?_) | ((with_reducible refine At.new' ?_); focus (simp; done)) | (with_reducible refine At.alloc ?_) | (with_reducible refine At.drew ?_) | (with_reducible exact Is.new _ _ _) | (with_reducible refine Is.row ?_) | (with_reducible refine Is.gx ?_) | ((with_reducible refine Is.new' ?_); focus (simp; done)) | (with_reducible refine Is.alloc ?_) | (with_reducible refine Is.drew ?_)))))

/-- The string of the first n of these bytes. -/
@[irreducible] def strB (B : List Int) (n : Nat) : ByteArray := ((List.range n).map (gw B)).foldl (fun r x => r.push (UInt8.ofNat x.toNat)) ByteArray.empty
/-- A slice holds these bytes, if it has any. -/
@[irreducible] def HeldB (B : List Int) (A : Option Addr) (n : Nat) (w : World) : Prop :=
  0 < n → ∃ b o, A = some ⟨b, o, none⟩ ∧ ∀ j, j < n → w.cell? ⟨b, o + j, none⟩ = some (.int .u8 (gw B j))
theorem HeldB.gx {B : List Int} {A : Option Addr} {n : Nat} {w : World} {x : Ext} (h : HeldB B A n w) : HeldB B A n (Go.Proofs.YthkccbeffonaaaaGreatDoor.gx w x) := by
  unfold HeldB at *
  intro hD
  obtain ⟨b, o, h1, h2⟩ := h hD
  exact ⟨b, o, h1, fun j hj => cell_keep_gx (h2 j hj)⟩
theorem HeldB.alloc {B : List Int} {A : Option Addr} {n : Nat} {w : World} {o : Obj} (h : HeldB B A n w) : HeldB B A n (w.alloc o) := by
  unfold HeldB at *
  intro hD
  obtain ⟨b, o, h1, h2⟩ := h hD
  exact ⟨b, o, h1, fun j hj => cell_keep_alloc (h2 j hj)⟩
theorem HeldB.of_at {B : List Int} {g n : Nat} {w : World} (hA : At w g (.cells (bc B) 5 (0, 0))) (h : n ≤ B.length) : HeldB B (some ⟨g, 0, none⟩) n w := by
  unfold HeldB
  intro _
  refine ⟨g, 0, rfl, fun j hj => ?_⟩
  rw [Nat.zero_add, cell_of_row w g j _ _ _ hA, bc_get B j (by omega)]
theorem HeldB.none_zero {B : List Int} {w : World} {A : Option Addr} : HeldB B A 0 w := by unfold HeldB; intro h; omega
theorem conv_held (B : List Int) (A : Option Addr) (n c : Nat) (w : World) (h : HeldB B A n w) (hA : A = none → n = 0) :
    (convert 39 9 (.slice A n c)).run Tryz.prog w = .ok (.string (strB B n)) w := by
  rw [run_convert_bytes_string w _ _ 5 A n c Tryz.underlying39 Tryz.underlying5 Tryz.underlying9]
  cases A with
  | none =>
    obtain rfl := hA rfl
    unfold strB
    simp [Conv.bytesToString]
  | some a =>
    have hl : (loadCells a n).run Tryz.prog w = .ok (((List.range n).map (gw B)).map (Value.int .u8)).toArray w := by
      rw [List.map_map]
      refine run_loadCells w a n (fun j => Value.int .u8 (gw B j)) fun j hj => ?_
      unfold HeldB at h
      obtain ⟨b, o, e, hc⟩ := h (by omega)
      obtain rfl := Option.some.inj e
      rw [Addr.add_lit]
      exact hc j hj
    rw [run_bytesToString w a n c _ hl]
    unfold strB
    rfl

set_option maxHeartbeats 400000 in
set_option maxRecDepth 100000 in
theorem EqualB_same (B : List Int) (n : Nat) (A A' : Option Addr) (c c' : Nat) (w : World) (h : HeldB B A n w) (hA : A = none → n = 0) (h' : HeldB B A' n w) (hA' : A' = none → n = 0) :
    Calls Tryz.prog 29 #[.slice A n c, .slice A' n c'] w fun e w' => e = .returned (.bool true) ∧ w = w' := by
  have q1 := conv_held B A n c w h hA
  have q2 := conv_held B A' n c' w h' hA'
  clear h h' hA hA'
  go_enter Tryz.func29, Tryz.ntmps29
  go_wp2
  go_ret
  exact ⟨rfl, rfl⟩
end Go.Proofs.YthkccbeffonaaaaGreatDoor

/-
  Slices of the call's own memory, of elements of any type: what is appended to them, and what they hold where they are read.
-/
namespace Go.Proofs.YthkccbeffonaaaaGreatDoor
open Go.RowKit
-- AT2

/-- A slice of the call's own memory (blocks from b on), with n elements of the type e, whose cells are xs. -/
@[irreducible] def Own (b : Nat) (W : World) (e : TypeId) (size : Nat) (v : Value) (n : Nat) (xs : List Value) : Prop := W.ownsRow b e size v n xs

section
variable {b : Nat} {W : World} {e : TypeId} {size : Nat} {v : Value} {n : Nat} {xs : List Value}
theorem Own.out (h : Own b W e size v n xs) : W.ownsRow b e size v n xs := by unfold Own at h; exact h
theorem Own.mk' (h : W.ownsRow b e size v n xs) : Own b W e size v n xs := by unfold Own; exact h
theorem Own.len (h : Own b W e size v n xs) : xs.length = n * size := h.out.1
theorem Own.nil (b : Nat) (W : World) (e : TypeId) (size : Nat) : Own b W e size (.slice none 0 0) 0 [] := Own.mk' (World.ownsRow_nil W b e size)
theorem Own.kept {W' : World} {row : Option Nat} (h : Own b W e size v n xs) (hg : W.grownBy W' row) (hne : v.ownBlock = none ∨ v.ownBlock ≠ row) : Own b W' e size v n xs := Own.mk' (h.out.kept hg hne)
theorem grown_gx (W : World) (x : Ext) : W.grownBy (gx W x) (some W.heap.size) := ⟨rfl, rfl, rfl, by rw [size_gx]; omega, fun k hk _ => heap_gx W x k hk⟩
theorem Own.lt (h : Own b W e size v n xs) : ∀ k, v.ownBlock = some k → b ≤ k ∧ k < W.heap.size := h.out.lt
theorem Own.gx {x : Ext} (h : Own b W e size v n xs) : Own b (gx W x) e size v n xs :=
  h.kept (grown_gx W x) (.inr fun e => by have := h.lt _ e; omega)
theorem Own.alloc {o : Obj} (h : Own b W e size v n xs) : Own b (W.alloc o) e size v n xs := by rw [alloc_is]; exact h.gx
theorem Own.drew (h : Own b W e size v n xs) : Own b W.drew e size v n xs := by rw [drew_is]; exact h.gx
theorem Own.drewN {k : Nat} (h : Own b W e size v n xs) : Own b (W.drewN k) e size v n xs := by rw [drewN_is]; exact h.gx
theorem Own.app {x y : Ext} (h : Own b (Go.Proofs.YthkccbeffonaaaaGreatDoor.gx W x) e size v n xs) : Own b (Go.Proofs.YthkccbeffonaaaaGreatDoor.gx W (x.app y)) e size v n xs := by rw [← gx_gx]; exact h.gx
theorem Own.tick {x : Ext} {k : Nat} (h : Own b (Go.Proofs.YthkccbeffonaaaaGreatDoor.gx W x) e size v n xs) : Own b (Go.Proofs.YthkccbeffonaaaaGreatDoor.gx W (x.tick k)) e size v n xs := by rw [← drewN_gx]; exact h.drewN
theorem Own.row {g : Nat} {cs : Array Value} (h : Own b W e size v n xs) (hg : g < b) : Own b (W.setRow g cs) e size v n xs := by
  refine h.kept (row := some g) ⟨rfl, rfl, rfl, by simp, fun k _ hk => setRow_other W g k _ (fun e => hk (by rw [e]))⟩ (.inr fun e => ?_)
  have := h.lt _ e; omega
theorem Own.base {b' : Nat} (h : Own b W e size v n xs) (hb : b' ≤ b) : Own b' W e size v n xs := by
  have h' := h.out
  refine Own.mk' ⟨h'.1, h'.2.imp id ?_⟩
  rintro ⟨g, cap, cur, e1, e2, r⟩
  exact ⟨g, cap, cur, e1, by omega, r⟩
/-- The cells that a slice shows. -/
@[irreducible] def Shows (xs : List Value) (A : Option Addr) (w : World) : Prop := 0 < xs.length → ∃ g o, A = some ⟨g, o, none⟩ ∧ ∀ j u, xs[j]? = some u → w.cell? ⟨g, o + j, none⟩ = some u
/-- What an own slice is. -/
theorem Own.is (h : Own b W e size v n xs) : ∃ A c, v = .slice A n c ∧ n ≤ c ∧ c ≤ maxLen ∧ (A = none → n = 0) ∧ Shows xs A W := by
  have h' := h.out
  rcases h'.2 with ⟨rfl, rfl⟩ | ⟨g, cap, cur, rfl, hb, hg, hnc, hcm, hcs, htake⟩
  · exact ⟨none, 0, rfl, Nat.le_refl _, Nat.zero_le _, fun _ => rfl, by unfold Shows; intro h0; have := h'.1; omega⟩
  · refine ⟨_, cap, rfl, hnc, hcm, (fun h => by cases h), ?_⟩
    unfold Shows
    intro _
    refine ⟨g, 0, rfl, fun j u hu => ?_⟩
    have hj : j < n * size := by rw [← h'.1]; exact (List.getElem?_eq_some_iff.1 hu).1
    rw [Nat.zero_add, h'.cellAt j hj, hu]
theorem Shows.gx {A : Option Addr} {w : World} {x : Ext} (h : Shows xs A w) : Shows xs A (Go.Proofs.YthkccbeffonaaaaGreatDoor.gx w x) := by
  unfold Shows at *
  intro h0
  obtain ⟨g, o, e1, hc⟩ := h h0
  exact ⟨g, o, e1, fun j u hu => cell_keep_gx (hc j u hu)⟩
theorem Shows.alloc {A : Option Addr} {w : World} {o : Obj} (h : Shows xs A w) : Shows xs A (w.alloc o) := by rw [alloc_is]; exact h.gx
theorem Shows.drew {A : Option Addr} {w : World} (h : Shows xs A w) : Shows xs A w.drew := by rw [drew_is]; exact h.gx
theorem Shows.app {A : Option Addr} {w : World} {x y : Ext} (h : Shows xs A (Go.Proofs.YthkccbeffonaaaaGreatDoor.gx w x)) : Shows xs A (Go.Proofs.YthkccbeffonaaaaGreatDoor.gx w (x.app y)) := by rw [← gx_gx]; exact h.gx
theorem Shows.tick {A : Option Addr} {w : World} {x : Ext} {k : Nat} (h : Shows xs A (Go.Proofs.YthkccbeffonaaaaGreatDoor.gx w x)) : Shows xs A (Go.Proofs.YthkccbeffonaaaaGreatDoor.gx w (x.tick k)) := by
  rw [← drewN_gx, drewN_is]; exact h.gx
/-- .. of a whole block. -/
theorem Shows.of_at {w : World} {g : Nat} {C : Array Value} {t : TypeId} {fr : Nat × Nat} (hA : w.heap[g]? = some (.cells C t fr)) {o : Nat} (h : ∀ j u, xs[j]? = some u → C[o + j]? = some u) : Shows xs (some ⟨g, o, none⟩) w := by
  unfold Shows
  intro _
  refine ⟨g, o, rfl, fun j u hu => ?_⟩
  rw [cell_of_row w g _ _ _ _ hA, h j u hu]
end

theorem Shows.whole {w : World} {g : Nat} {xs : List Value} {t : TypeId} (hA : At w g (.cells xs.toArray t (0, 0))) : Shows xs (some ⟨g, 0, none⟩) w :=
  Shows.of_at hA fun j u hu => by simpa using hu

theorem gx_of_grown {w W W' : World} {row : Option Nat} (hW : ∃ x, W = gx w x) (hg : W.grownBy W' row) (hrow : ∀ k, row = some k → w.heap.size ≤ k) : ∃ x, W' = gx w x := by
  obtain ⟨x, rfl⟩ := hW
  refine gx_of_below ⟨hg.os, hg.tape, hg.output, by have := hg.size; simp at this; omega, fun k hk => ?_⟩
  rw [hg.block k (by simp; omega) (fun e => by have := hrow k e.symm; omega)]
  exact heap_gx w x k hk

theorem HeldB.drew {B : List Int} {A : Option Addr} {n : Nat} {w : World} (h : HeldB B A n w) : HeldB B A n w.drew := by rw [drew_is]; exact h.gx

theorem Gx.trans {w w1 w2 : World} (h : ∃ x, w2 = Go.Proofs.YthkccbeffonaaaaGreatDoor.gx w1 x) (h' : ∃ x, w1 = Go.Proofs.YthkccbeffonaaaaGreatDoor.gx w x) : ∃ x, w2 = Go.Proofs.YthkccbeffonaaaaGreatDoor.gx w x := by
  obtain ⟨x, rfl⟩ := h'
  obtain ⟨y, rfl⟩ := h
  exact ⟨_, gx_gx _ _ _⟩
theorem Gx.one {w : World} {o : Obj} : ∃ x, w.alloc o = Go.Proofs.YthkccbeffonaaaaGreatDoor.gx w x := ⟨_, alloc_is _ _⟩

/-- A type of elements, as append wants it: its slice type, how many cells an element has, and how many bytes. -/
structure Elem (t e : TypeId) (size bytes : Nat) : Prop where
  under : Tryz.prog.underlying t = some (.slice e)
  pos : 0 < size
  info : ∃ (i : TypeInfo) (z : Value), Tryz.prog.info? e = some i ∧ i.zero = some z ∧ i.size = size ∧ i.bytes = bytes ∧ z.cells.size = size
theorem elem_of {t e : TypeId} {size bytes : Nat} {z : Value} (ht : Tryz.prog.underlying t = some (.slice e)) (hp : 0 < size) (h : (Tryz.prog.info? e).map (fun i => (i.zero, i.size, i.bytes)) = some (some z, size, bytes)) (hz : z.cells.size = size) : Elem t e size bytes := by
  obtain ⟨i, h1, h2⟩ := Option.map_eq_some_iff.1 h
  simp only [Prod.mk.injEq] at h2
  exact ⟨ht, hp, i, z, h1, h2.1, h2.2.1, h2.2.2, hz⟩

/-- Elements appended to an own slice. -/
theorem append_el {t e : TypeId} {size bytes : Nat} (hE : Elem t e size bytes) {ops : Array Oper} {rest : List Oper} {o : Oper} {a : Act} {Q : Exit → Act → World → Prop} {W : World} (w : World) (b : Nat) (hgd : o.guard = none) (s x : Operand)
    (ho : o.op = .call { callee := .builtin .append, args := #[s, x], argTypes := #[t, t] }) (v : Value) (n : Nat) (xs : List Value) (hs : a.eval s = v) (A : Option Addr) (m c : Nat) (news : List Value) (hx : a.eval x = .slice A m c)
    (hb : w.heap.size ≤ b) (hown : Own b W e size v n xs) (hW : ∃ x, W = gx w x) (hbW : b ≤ W.heap.size) (hl : news.length = m * size) (hN : A = none → m = 0 ∧ c = 0) (hnews : Shows news A W) (h1 : ∀ u ∈ news, u.oneCell' = true) (h63 : n + m ≤ maxLen) (hbytes : (n + m) * bytes ≤ 140737488355328)
    (h : ∀ v' W', (∃ x, W' = gx w x) → Own b W' e size v' (n + m) (xs ++ news) → W.grownBy W' v.ownBlock → wpList Tryz.prog ops Q rest (a.put o.dst v') W') : wpList Tryz.prog ops Q (o :: rest) a W := by
  obtain ⟨ht, hp, i, z, hi, hz, hsize, hby, hzs⟩ := hE
  have own := hown.out
  have gxw : ∀ W' , W.grownBy W' v.ownBlock → ∃ x, W' = gx w x := fun W' hg => gx_of_grown hW hg fun k hk => by have := hown.lt k hk; omega
  cases A with
  | none =>
    obtain ⟨rfl, rfl⟩ := hN rfl
    have hn : news = [] := List.eq_nil_of_length_eq_zero (by simpa using hl)
    subst hn
    refine wpList_plain hgd fun K hK => ?_
    have hr := run_append_owned_none (P := Tryz.prog) W b t o.type e i size ht hi v n xs own
    unfold Oper.wp execOp
    simp only [ho, resolve, invoke, builtin, Sem.run_bind, Sem.run_pure, Result.andThen_ok, List.map_toArray, List.map_cons, List.map_nil, hs, hx, hr]
    exact hK _ _ (h v W hW (by simpa using hown) ⟨rfl, rfl, rfl, Nat.le_refl _, fun _ _ _ => rfl⟩)
  | some ad =>
    refine wpList_append_own W hgd s x t ho b e i z size bytes ht hi hz hsize hby hzs hp v n xs hs own ad m c news hx hl ?_ h1 h63 hbytes hbW fun v' W' h2 h3 _ => h v' W' (gxw W' h3) (Own.mk' h2) h3
    intro j u hu
    unfold Shows at hnews
    obtain ⟨g, o', e1, hc⟩ := hnews (by have := (List.getElem?_eq_some_iff.1 hu).1; omega)
    obtain rfl := Option.some.inj e1
    rw [Addr.add_lit]
    exact hc j u hu
/-- .. elements that the call has just made. -/
theorem append_new {t e : TypeId} {size bytes : Nat} (hE : Elem t e size bytes) {ops : Array Oper} {rest : List Oper} {o : Oper} {a : Act} {Q : Exit → Act → World → Prop} {W : World} (w : World) (b : Nat) {s x : Operand} {v : Value} {n : Nat} {xs : List Value} {g m : Nat} {news : List Value}
    (ho : o.op = .call { callee := .builtin .append, args := #[s, x], argTypes := #[t, t] }) (hgd : o.guard = none) (hs : a.eval s = v) (hx : a.eval x = .slice (some ⟨g, 0, none⟩) m m)
    (hb : w.heap.size ≤ b) (hown : Own b W e size v n xs) (hW : ∃ x, W = gx w x) (hbW : b ≤ W.heap.size) (hl : news.length = m * size) (hnews : Shows news (some ⟨g, 0, none⟩) W) (h1 : ∀ u ∈ news, u.oneCell' = true) (h63 : n + m ≤ maxLen) (hbytes : (n + m) * bytes ≤ 140737488355328)
    (h : ∀ v' W', (∃ x, W' = gx w x) → Own b W' e size v' (n + m) (xs ++ news) → W.grownBy W' v.ownBlock → wpList Tryz.prog ops Q rest (a.put o.dst v') W') : wpList Tryz.prog ops Q (o :: rest) a W :=
  append_el hE w b hgd s x ho v n xs hs (some ⟨g, 0, none⟩) m m news hx hb hown hW hbW hl (fun h => by cases h) hnews h1 h63 hbytes h
/-- .. the elements of a slice that is shown. -/
theorem append_all {t e : TypeId} {size bytes : Nat} (hE : Elem t e size bytes) {ops : Array Oper} {rest : List Oper} {o : Oper} {a : Act} {Q : Exit → Act → World → Prop} {W : World} (w : World) (b : Nat) {s x : Operand} {v : Value} {n : Nat} {xs : List Value} {A : Option Addr} {m c : Nat} {news : List Value}
    (ho : o.op = .call { callee := .builtin .append, args := #[s, x], argTypes := #[t, t] }) (hgd : o.guard = none) (hs : a.eval s = v) (hx : a.eval x = .slice A m c) (hN : A = none → m = 0 ∧ c = 0)
    (hb : w.heap.size ≤ b) (hown : Own b W e size v n xs) (hW : ∃ x, W = gx w x) (hbW : b ≤ W.heap.size) (hl : news.length = m * size) (hnews : Shows news A W) (h1 : ∀ u ∈ news, u.oneCell' = true) (h63 : n + m ≤ maxLen) (hbytes : (n + m) * bytes ≤ 140737488355328)
    (h : ∀ v' W', (∃ x, W' = gx w x) → Own b W' e size v' (n + m) (xs ++ news) → W.grownBy W' v.ownBlock → wpList Tryz.prog ops Q rest (a.put o.dst v') W') : wpList Tryz.prog ops Q (o :: rest) a W :=
  append_el hE w b hgd s x ho v n xs hs A m c news hx hb hown hW hbW hl hN hnews h1 h63 hbytes h
theorem own_ret {w W : World} {e : TypeId} {size : Nat} {v : Value} {n : Nat} {xs : List Value} {b : Nat} (hW : ∃ x, W = gx w x) (hb : w.heap.size ≤ b) (h : Own b W e size v n xs) : ∃ v' x, Ending.returned v = .returned v' ∧ W = gx w x ∧ Own w.heap.size (gx w x) e size v' n xs := by
  obtain ⟨x, rfl⟩ := hW
  exact ⟨v, x, rfl, rfl, h.base hb⟩
theorem Own.nilc {b : Nat} {W : World} {e : TypeId} {size : Nat} {A : Option Addr} {n c : Nat} {xs : List Value} (h : Own b W e size (.slice A n c) n xs) : A = none → n = 0 ∧ c = 0 := by
  rintro rfl
  rcases h.out.2 with ⟨e, rfl⟩ | ⟨g, cap, cur, e, _⟩
  · simp at e; exact ⟨rfl, e⟩
  · simp at e
end Go.Proofs.YthkccbeffonaaaaGreatDoor

/-
  Package ring, the smallest functions: contracts.
-/
namespace Go.Proofs.YthkccbeffonaaaaGreatDoor
open Go.RowKit
-- AT2

theorem cell_row_ne {w : World} {g b o : Nat} {cs : Array Value} (h : b ≠ g) : (w.setRow g cs).cell? ⟨b, o, none⟩ = w.cell? ⟨b, o, none⟩ := by
  have e := setRow_other w g b cs h
  simp [World.cell?, e]

/-! fill -/
/-- The first k bytes from q on are 255. -/
def fillTo (C : List Int) (q : Nat) : Nat → List Int
  | 0 => C
  | k + 1 => (fillTo C q k).set (q + k) 255
theorem fillTo_len (C : List Int) (q : Nat) : ∀ k, (fillTo C q k).length = C.length
  | 0 => rfl
  | k + 1 => by simp only [fillTo]; rw [List.length_set, fillTo_len C q k]
theorem gw_fillTo (C : List Int) (q : Nat) : ∀ k, q + k ≤ C.length → ∀ x, gw (fillTo C q k) x = if q ≤ x ∧ x < q + k then 255 else gw C x
  | 0, _, x => by rw [if_neg (by omega)]; rfl
  | k + 1, h, x => by
    simp only [fillTo]
    rw [gw_set _ _ _ _ (by rw [fillTo_len]; omega), gw_fillTo C q k (by omega) x]
    by_cases e : x = q + k
    · rw [if_pos e, if_pos (by omega)]
    · rw [if_neg e]
      by_cases c : q ≤ x ∧ x < q + k
      · rw [if_pos c, if_pos (by omega)]
      · rw [if_neg c, if_neg (by omega)]
set_option maxHeartbeats 400000 in
set_option maxRecDepth 100000 in
theorem fill_any (C : List Int) (g o n c : Nat) (h : o + n ≤ C.length) (hm : n ≤ 9223372036854775807) (w : World) (hA : At w g (.cells (bc C) 5 (0, 0))) :
    Calls Tryz.prog 75 #[.slice (some ⟨g, o, none⟩) n c] w fun e w' => e = .returned (.tuple #[]) ∧ ∃ x, w' = gx (w.setRow g (bc (fillTo C o n))) x := by
  have hg := hA.lt
  have hI : Is w g 5 := ⟨_, hA⟩
  have e0 : w.setRow g (bc C) = w := hA.self
  have E0 := Lib.hid e0
  clear e0
  go_enter Tryz.func75, Tryz.ntmps75
  go_wp2
  go_loopw [5] (fun i wr => ∃ k : Nat, k ≤ n ∧ i = .int .i64 k ∧ wr = w.setRow g (bc (fillTo C o k))) (fun i _ => n - (intOf i).toNat)
  case atStart => exact ⟨0, Nat.zero_le _, rfl, by show w = w.setRow g (bc C); exact E0.out.symm⟩
  case round =>
    obtain ⟨k, hk, rfl, rfl⟩ := hrel
    by_cases hlt : k < n
    · have hlf : o + k < (fillTo C o k).length := by rw [fillTo_len]; omega
      have e : (fillTo C o k).set (o + k) 255 = fillTo C o (k + 1) := rfl
      have hA' : At (w.setRow g (bc (fillTo C o k))) g (.cells (bc (fillTo C o k)) 5 (0, 0)) := At.row hI
      go_wp2
      go_roundw
      case rel => exact ⟨k + 1, by omega, by go_num, rfl⟩
      case measure => simp [intOf]; omega
    · obtain rfl : k = n := by omega
      go_wp2
      go_end0
      exact ⟨rfl, (by repeat (first | (with_reducible exact Gx.refl _) | (with_reducible assumption) | (with_reducible refine Gx.gx ?_) | (with_reducible refine Gx.alloc ?_) | (with_reducible refine Gx.drew ?_) | (with_reducible refine Gx.drewN ?_) | (with_reducible refine Gx.setRow ?_ (by simp)) | (with_reducible refine Gx.setCell ?_ (by simp))))⟩

set_option maxHeartbeats 400000 in
theorem sectorBytes_any (n : Nat) (h : n ≤ 64) (w : World) :
    Calls Tryz.prog 74 #[.int .i64 n] w fun e w' => e = .returned (.int .i64 ((16 + 97 * n : Nat) : Int)) ∧ w = w' := by
  have h1 : IntKind.i64.wrap ((n : Int) * 97) = (n : Int) * 97 := IntWalk.i64_in _ (by omega)
  have h2 : IntKind.i64.wrap (16 + (n : Int) * 97) = ((16 + 97 * n : Nat) : Int) := by rw [IntWalk.i64_in _ (by omega)]; omega
  go_enter Tryz.func74, Tryz.ntmps74
  go_wp2
  go_ret
  exact ⟨rfl, rfl⟩

/-! checkSizes, outside -/
/-- Are the numbers of a memory right? -/
def sizesOk (a b c : Int) : Prop := 2 ≤ a ∧ a ≤ 64 ∧ 1 ≤ b ∧ b ≤ 64 ∧ 1 ≤ c ∧ c ≤ 1000000
instance (a b c : Int) : Decidable (sizesOk a b c) := by unfold sizesOk; infer_instance
set_option maxHeartbeats 400000 in
theorem checkSizes_ok (a b c : Int) (h : sizesOk a b c) (w : World) :
    Calls Tryz.prog 73 #[.int .i64 a, .int .i64 b, .int .i64 c] w fun e w' => e = .returned (.int .i64 0) ∧ w = w' := by
  obtain ⟨h1, h2, h3, h4, h5, h6⟩ := h
  have g1 : decide (a < 2) = false := decide_eq_false (by omega)
  have g2 : decide (64 < a) = false := decide_eq_false (by omega)
  have g3 : decide (b < 1) = false := decide_eq_false (by omega)
  have g4 : decide (64 < b) = false := decide_eq_false (by omega)
  have g5 : decide (c < 1) = false := decide_eq_false (by omega)
  have g6 : decide (1000000 < c) = false := decide_eq_false (by omega)
  go_enter Tryz.func73, Tryz.ntmps73
  go_wp2
  go_ret
  exact ⟨rfl, rfl⟩
set_option maxHeartbeats 400000 in
theorem checkSizes_bad (a b c : Int) (h : ¬ sizesOk a b c) (w : World) :
    Calls Tryz.prog 73 #[.int .i64 a, .int .i64 b, .int .i64 c] w fun e w' => e = .returned (.int .i64 9) ∧ w = w' := by
  unfold sizesOk at h
  go_enter Tryz.func73, Tryz.ntmps73
  go_wp2
  all_goals first | (exfalso; omega) | (go_ret; exact ⟨rfl, rfl⟩)
set_option maxHeartbeats 400000 in
theorem outside_any (n a b : Int) (w : World) :
    Calls Tryz.prog 76 #[.int .i64 n, .int .i64 a, .int .i64 b] w fun e w' => e = .returned (.bool (decide (n < a) || decide (b < n))) ∧ w = w' := by
  by_cases h1 : n < a
  · have g1 : decide (n < a) = true := decide_eq_true h1
    go_enter Tryz.func76, Tryz.ntmps76
    go_wp2
    go_ret
    first | exact ⟨rfl, rfl⟩ | exact ⟨by rw [g1]; rfl, rfl⟩
  · have g1 : decide (n < a) = false := decide_eq_false h1
    go_enter Tryz.func76, Tryz.ntmps76
    go_wp2
    go_ret
    first | exact ⟨rfl, rfl⟩ | exact ⟨by rw [g1]; rfl, rfl⟩
end Go.Proofs.YthkccbeffonaaaaGreatDoor

/-
  FrameBytesRoundTrip: the walk.
-/
namespace Go.Proofs.YthkccbeffonaaaaGreatDoor
open Go.RowKit
-- AT2

theorem FromBytes_any (B : List Int) (hB : Bs B) (b n c : Nat) (hnc : n ≤ c) (hcm : c ≤ 9223372036854775807) (h : 96 ≤ n) (w : World) (hH : HeldB B (some ⟨b, 0, none⟩) 96 w) :
    Calls Tryz.prog 98 #[.slice (some ⟨b, 0, none⟩) n c] w fun e w' => e = .returned (.tuple #[.agg (fc (rdF B)), .int .i64 0]) ∧ ∃ x, w' = gx w x := by
  have hl := zeroF_len
  have hl1 := rdF_len B
  unfold HeldB at hH
  obtain ⟨b', o', e, hc⟩ := hH (by omega)
  obtain ⟨rfl, rfl⟩ : b' = b ∧ o' = 0 := by simpa using (Option.some.inj e).symm
  have hg : ∀ w, (∀ j, j < 96 → w.cell? ⟨b', 0 + j, none⟩ = some (.int .u8 (gw B j))) → Calls Tryz.prog 135 #[.slice (some ⟨b', 0, none⟩) n c, .int .i64 0] w fun e w' => e = .returned (.tuple #[.agg (fc (rdF B)), .int .i64 0]) ∧ ∃ x, w' = gx w x := fun w hc =>
    Get_good B hB b' 0 n c 0 (by omega) hnc hcm (by omega) w hc
  have Hg := Lib.hid hg
  have hc' := Lib.hid hc
  clear hc hg
  go_enter Tryz.func98, Tryz.ntmps98
  go_wp2_with (first | (refine load_fr rfl _ rfl _ rfl ?_ ?_ ?_ ?_; rotate_left; (focus (repeat (first | (with_reducible assumption) | (with_reducible exact At.new _ _) | (with_reducible refine At.row ?_) | (with_reducible refine At.app ?_) | (with_reducible refine At.tick ?_) | (with_reducible refine At.gx ?_) | ((with_reducible refine At.new' ?_); focus (simp; done)) | (with_reducible refine At.alloc ?_) | (with_reducible refine At.drew ?_) | (with_reducible exact Is.new _ _ _) | (with_reducible refine Is.row ?_) | (with_reducible refine Is.gx ?_) | ((with_reducible refine Is.new' ?_); focus (simp; done)) | (with_reducible refine Is.alloc ?_) | (with_reducible refine Is.drew ?_)))); (focus (with_reducible (first | exact hl | exact hl1 | exact hl2 | exact hl3 | exact hl4 | exact zeroF_len)))) | (refine store_fr rfl _ _ rfl _ rfl _ rfl ?_ ?_ ?_ ?_ ?_; rotate_left; (focus (repeat (first | (with_reducible assumption) | (with_reducible exact At.new _ _) | (with_reducible refine At.row ?_) | (with_reducible refine At.app ?_) | (with_reducible refine At.tick ?_) | (with_reducible refine At.gx ?_) | ((with_reducible refine At.new' ?_); focus (simp; done)) | (with_reducible refine At.alloc ?_) | (with_reducible refine At.drew ?_) | (with_reducible exact Is.new _ _ _) | (with_reducible refine Is.row ?_) | (with_reducible refine Is.gx ?_) | ((with_reducible refine Is.new' ?_); focus (simp; done)) | (with_reducible refine Is.alloc ?_) | (with_reducible refine Is.drew ?_)))); (focus (with_reducible (first | exact hl | exact hl1 | exact hl2 | exact hl3 | exact hl4 | exact zeroF_len))); (focus (with_reducible (first | exact hl | exact hl1 | exact hl2 | exact hl3 | exact hl4 | exact zeroF_len)))) | (go_at_call 135; refine (Hg.out _ ?_).mono ?_; (focus (intro j hj; repeat (first | (with_reducible exact hc'.out j hj) | (with_reducible refine cell_keep_gx ?_) | (with_reducible refine cell_keep_alloc ?_)))); rintro e w' ⟨rfl, z, rfl⟩))
  (refine ret_fr_tmp rfl _ _ _ ?_ rfl rfl ?_ ?_ ?_; rotate_left; (focus (repeat (first | (with_reducible assumption) | (with_reducible exact At.new _ _) | (with_reducible refine At.row ?_) | (with_reducible refine At.app ?_) | (with_reducible refine At.tick ?_) | (with_reducible refine At.gx ?_) | ((with_reducible refine At.new' ?_); focus (simp; done)) | (with_reducible refine At.alloc ?_) | (with_reducible refine At.drew ?_) | (with_reducible exact Is.new _ _ _) | (with_reducible refine Is.row ?_) | (with_reducible refine Is.gx ?_) | ((with_reducible refine Is.new' ?_); focus (simp; done)) | (with_reducible refine Is.alloc ?_) | (with_reducible refine Is.drew ?_)))); (focus (with_reducible (first | exact hl | exact hl1 | exact hl2 | exact hl3 | exact hl4 | exact zeroF_len))))
  exact ⟨rfl, (by repeat (first | (with_reducible exact Gx.refl _) | (with_reducible assumption) | (with_reducible refine Gx.gx ?_) | (with_reducible refine Gx.alloc ?_) | (with_reducible refine Gx.drew ?_) | (with_reducible refine Gx.drewN ?_) | (with_reducible refine Gx.setRow ?_ (by simp)) | (with_reducible refine Gx.setCell ?_ (by simp))))⟩

theorem infoByte : ∃ i z, Tryz.prog.info? 5 = some i ∧ i.size = 1 ∧ i.bytes = 1 ∧ i.zero = some z ∧ z.cells.size = 1 := by
  have h : (Tryz.prog.info? 5).map (fun i => (i.size, i.bytes, i.zero.map fun z => z.cells.size)) = some (1, 1, some 1) := by kernel_rfl
  obtain ⟨i, h1, h2⟩ := Option.map_eq_some_iff.1 h
  simp only [Prod.mk.injEq] at h2
  obtain ⟨z, h3, h4⟩ := Option.map_eq_some_iff.1 h2.2.2
  exact ⟨i, z, h1, h2.1, h2.2.1, h3, h4⟩

theorem append_zero (g : Nat) (A : Option Addr) (n c c' : Nat) (hc : n ≤ c) (w : World) :
    (Builtin.append_ #[39, 39] 39 #[.slice (some ⟨g, 0, none⟩) n c, .slice A 0 c']).run Tryz.prog w = .ok (.slice (some ⟨g, 0, none⟩) n c) w := by
  obtain ⟨i, z, h1, h2, h3, h4, h5⟩ := infoByte
  cases A with
  | none => simp [Builtin.append_, run_underlying Tryz.underlying39, sizeOf, typeInfo, h1, Builtin.lenOf, hc, run_firstCells_none, storeCells]
  | some a =>
    have hf := run_firstCells_some (P := Tryz.prog) w i.size 0 a 0 c' [] (by simp) (by simp)
    simp [Builtin.append_, run_underlying Tryz.underlying39, sizeOf, typeInfo, h1, Builtin.lenOf, hc, hf, storeCells]

/-- Bytes appended to a full slice of the call's own. -/
theorem append_more {ops : Array Oper} {rest : List Oper} {o : Oper} {a : Act} {Q : Exit → Act → World → Prop} {w : World} (B M : List Int) (g : Nat) (A : Option Addr) (c : Nat) (hg : o.guard = none) (s x : Operand)
    (hop : o.op = Op.call { callee := Callee.builtin Builtin.append, args := #[s, x], argTypes := #[39, 39] }) (hty : o.type = 39) (hs : a.eval s = .slice (some ⟨g, 0, none⟩) 96 96) (hx : a.eval x = .slice A M.length c)
    (hB : B.length = 96) (hA : At w g (.cells (bc B) 5 (0, 0))) (hH : HeldB M A M.length w) (hm : 96 + M.length ≤ 140737488355328)
    (h : ∀ b' cap w', (∃ x, w' = gx w x) → 96 + M.length ≤ cap → cap ≤ maxLen → HeldB B (some ⟨b', 0, none⟩) 96 w' → wpList Tryz.prog ops Q rest (a.put o.dst (.slice (some ⟨b', 0, none⟩) (96 + M.length) cap)) w') :
    wpList Tryz.prog ops Q (o :: rest) a w := by
  have hHB := HeldB.of_at hA (show 96 ≤ B.length by omega)
  refine wpList_plain hg fun K hK => ?_
  by_cases h0 : M.length = 0
  · have hrun := append_zero g A 96 96 c (Nat.le_refl _) w
    unfold Oper.wp
    rw [h0] at hx h
    simp [execOp, hop, resolve, invoke, builtin, hs, hx, hty, hrun, Result.andThen]
    exact hK _ _ (h g 96 w (Gx.refl w) (by omega) (by decide) hHB)
  · unfold HeldB at hH
    obtain ⟨b, off, rfl, hc⟩ := hH (by omega)
    obtain ⟨i, z, h1, h2, h3, h4, h5⟩ := infoByte
    have hrun := run_append_grow (P := Tryz.prog) w 39 39 5 i z Tryz.underlying39 h1 h4 ⟨g, 0, none⟩ 96 96 (B.map (Value.int .u8)) (by simp [hB, h2]) (fun j v hj => by
        rw [List.getElem?_map] at hj
        obtain ⟨y, hy1, rfl⟩ := Option.map_eq_some_iff.1 hj
        obtain ⟨hj', e⟩ := List.getElem?_eq_some_iff.1 hy1
        rw [Addr.add_lit, Nat.zero_add, cell_of_row w g j _ _ _ hA, bc_get B j hj', ← e]
        simp [gw, List.getD, hj']) ⟨b, off, none⟩ M.length c (M.map (Value.int .u8)) (by simp [h2]) (fun j v hj => by
        rw [List.getElem?_map] at hj
        obtain ⟨y, hy1, rfl⟩ := Option.map_eq_some_iff.1 hj
        obtain ⟨hj', e⟩ := List.getElem?_eq_some_iff.1 hy1
        rw [Addr.add_lit, hc j hj', ← e]
        simp [gw, List.getD, hj']) (by omega) (by omega) (growslice_fits (by omega) (by rw [h3]; omega))
    have hge := grownCap_ge w (96 + M.length) 96 5
    have hle : grownCap w (96 + M.length) 96 5 ≤ maxLen := grownCap_le_maxLen w _ _ _ (by simp only [maxLen]; omega)
    unfold Oper.wp
    simp [execOp, hop, resolve, invoke, builtin, hs, hx, hty, hrun, Result.andThen]
    refine hK _ _ (h w.heap.size _ _ (Gx.alloc (Gx.drew (Gx.refl w))) hge hle ?_)
    unfold HeldB
    intro _
    refine ⟨_, _, rfl, fun j hj => ?_⟩
    rw [Nat.zero_add, cell_of_row (w.drew.alloc _) w.heap.size j _ _ _ (At.new w.drew _), Array.getElem?_append_left (by simp; omega), List.getElem?_toArray, List.getElem?_append_left (by simp; omega)]
    simpa [bc] using bc_get B j (by omega)

theorem FrBs {F : List Int} (hF : Fr F) (hn : Narrow F) : Bs (packF F) := by
  intro k
  rcases Nat.lt_or_ge k 96 with h | h
  · rw [gw_packF F k h]; exact byI_bd hF hn k h
  · have : gw (packF F) k = 0 := by unfold gw; simp [List.getD, List.getElem?_eq_none (show (packF F).length ≤ k by rw [packF_len]; exact h)]
    rw [this]; decide

end Go.Proofs.YthkccbeffonaaaaGreatDoor

/-
  Bytes appended to a slice of the call's own memory: in place where there is room, in a new block where there is none.
-/
namespace Go.Proofs.YthkccbeffonaaaaGreatDoor
open Go.RowKit
-- AT2

theorem gx_row {w : World} {x : Ext} {g : Nat} {cs : Array Value} (h : w.heap.size ≤ g) : ∃ y, (gx w x).setRow g cs = gx w y := by
  refine gx_of_below ⟨rfl, rfl, rfl, by simp [gx], fun k hk => ?_⟩
  rw [setRow_other _ _ _ _ (by omega)]
  exact heap_gx w x k hk
/-- The numbers M laid over C from o on. -/
def putAt : List Int → Nat → List Int → List Int
  | C, _, [] => C
  | C, o, v :: r => putAt (C.set o v) (o + 1) r
theorem putAt_len : ∀ (M C : List Int) (o : Nat), (putAt C o M).length = C.length
  | [], _, _ => rfl
  | v :: r, C, o => by unfold putAt; rw [putAt_len r, List.length_set]
theorem gw_cons (v : Int) (r : List Int) (j : Nat) : gw (v :: r) j = if j = 0 then v else gw r (j - 1) := by
  unfold gw
  cases j <;> simp [List.getD]
theorem gw_putAt : ∀ (M C : List Int) (o j : Nat), o + M.length ≤ C.length → gw (putAt C o M) j = if o ≤ j ∧ j < o + M.length then gw M (j - o) else gw C j
  | [], C, o, j, _ => by rw [if_neg (by simp only [List.length_nil]; omega)]; rfl
  | v :: r, C, o, j, h => by
    simp only [List.length_cons] at h
    unfold putAt
    rw [gw_putAt r (C.set o v) (o + 1) j (by rw [List.length_set]; omega), gw_set _ _ _ _ (by omega), gw_cons]
    simp only [List.length_cons]
    by_cases e : j = o
    · subst e
      rw [if_neg (by omega), if_pos rfl, if_pos (by omega), if_pos (by omega)]
    · by_cases h1 : o + 1 ≤ j ∧ j < o + 1 + r.length
      · rw [if_pos h1, if_pos (by omega), if_neg (by omega)]; congr 1 <;> omega
      · rw [if_neg h1, if_neg e, if_neg (by omega)]
theorem setCells_row (g : Nat) : ∀ (M C : List Int) (o : Nat) (w : World), At w g (.cells (bc C) 5 (0, 0)) → w.setCells g o (M.map (Value.int .u8)) = w.setRow g (bc (putAt C o M))
  | [], C, o, w, h => by
    show w = w.setRow g (bc C)
    exact h.self.symm
  | v :: r, C, o, w, h => by
    have hI : Is w g 5 := ⟨_, h⟩
    show (w.setCell ⟨g, o, none⟩ (.int .u8 v)).setCells g (o + 1) (r.map (Value.int .u8)) = _
    rw [setCell_eq_setRow _ g o _ _ _ _ h, bc_set, setCells_row g r (C.set o v) (o + 1) _ (At.row hI), setRow_setRow]
    rfl

theorem infoByte0 : ∃ i, Tryz.prog.info? 5 = some i ∧ i.size = 1 ∧ i.bytes = 1 ∧ i.zero = some (.int .u8 0) := by
  have h : (Tryz.prog.info? 5).map (fun i => (i.size, i.bytes, i.zero)) = some (1, 1, some (.int .u8 0)) := by kernel_rfl
  obtain ⟨i, h1, h2⟩ := Option.map_eq_some_iff.1 h
  simp only [Prod.mk.injEq] at h2
  exact ⟨i, h1, h2.1, h2.2.1, h2.2.2⟩
theorem zeros_bc (k : Nat) : Builtin.zeroCells (Value.int .u8 0).cells k = bc (List.replicate k 0) := by
  simp only [Builtin.zeroCells, Value.cells, bc]
  apply Array.ext (by simp)
  intro i h1 h2
  simp [Nat.mod_one]
theorem gw_append (C D : List Int) (j : Nat) : gw (C ++ D) j = if j < C.length then gw C j else gw D (j - C.length) := by
  unfold gw
  by_cases h : j < C.length
  · rw [if_pos h]; simp [List.getD, List.getElem?_append_left h]
  · rw [if_neg h]; simp [List.getD, List.getElem?_append_right (by omega : C.length ≤ j)]
theorem gw_take (C : List Int) (n j : Nat) (h : j < n) : gw (C.take n) j = gw C j := by
  unfold gw; simp [List.getD, List.getElem?_take_of_lt h]
theorem gw_zeros (k j : Nat) : gw (List.replicate k 0) j = 0 := by unfold gw; exact getD_zeros k j
theorem bc_append (C D : List Int) : bc C ++ bc D = bc (C ++ D) := by simp [bc]

set_option maxRecDepth 100000 in
theorem append_own {ops : Array Oper} {rest : List Oper} {o : Oper} {a : Act} {Q : Exit → Act → World → Prop} {W : World} (w : World) (C M : List Int) (g n : Nat) (A : Option Addr) (c' : Nat) (hg : o.guard = none) (s x : Operand)
    (hop : o.op = Op.call { callee := Callee.builtin Builtin.append, args := #[s, x], argTypes := #[39, 39] }) (hty : o.type = 39) (hs : a.eval s = .slice (some ⟨g, 0, none⟩) n C.length) (hx : a.eval x = .slice A M.length c')
    (hA : At W g (.cells (bc C) 5 (0, 0))) (hW : ∃ x, W = gx w x) (hgw : w.heap.size ≤ g) (hn : n ≤ C.length) (hcm : C.length ≤ maxLen) (hbC : Bs C) (hbM : Bs M) (hH : HeldB M A M.length W) (hm : n + M.length ≤ 140737488355328)
    (h : ∀ g' C' W', (∃ x, W' = gx w x) → w.heap.size ≤ g' → At W' g' (.cells (bc C') 5 (0, 0)) → n + M.length ≤ C'.length → C'.length ≤ maxLen → Bs C' → (∀ j, j < n → gw C' j = gw C j) → (∀ j, j < M.length → gw C' (n + j) = gw M j) →
      wpList Tryz.prog ops Q rest (a.put o.dst (.slice (some ⟨g', 0, none⟩) (n + M.length) C'.length)) W') :
    wpList Tryz.prog ops Q (o :: rest) a W := by
  refine wpList_plain hg fun K hK => ?_
  by_cases h0 : M.length = 0
  · have hrun := append_zero g A n C.length c' hn W
    unfold Oper.wp
    have h' := h g C W hW hgw hA (by omega) hcm hbC (fun j _ => rfl) (fun j hj => by omega)
    rw [h0] at hx h'
    simp [execOp, hop, resolve, invoke, builtin, hs, hx, hty, hrun, Result.andThen]
    exact hK _ _ h'
  · unfold HeldB at hH
    obtain ⟨b, off, rfl, hc⟩ := hH (by omega)
    obtain ⟨i, h1, h2, h3, h4⟩ := infoByte0
    have hnews : ∀ j v, (M.map (Value.int .u8))[j]? = some v → W.cell? ((⟨b, off, none⟩ : Addr).add j) = some v := fun j v hj => by
      rw [List.getElem?_map] at hj
      obtain ⟨y, hy1, rfl⟩ := Option.map_eq_some_iff.1 hj
      obtain ⟨hj', e⟩ := List.getElem?_eq_some_iff.1 hy1
      rw [Addr.add_lit, hc j hj', ← e]
      simp [gw, List.getD, hj']
    by_cases hr : n + M.length ≤ C.length
    · have hrun := run_append_room_cells (P := Tryz.prog) W 39 39 5 i Tryz.underlying39 h1 g 0 n C.length ⟨b, off, none⟩ M.length c' (M.map (Value.int .u8)) (by simp [h2]) hnews (fun u hu => by
          obtain ⟨y, _, rfl⟩ := List.mem_map.1 hu
          rfl) hr (fun j hj => by
          rw [List.length_map] at hj
          rw [h2, cell_of_row W g _ _ _ _ hA, bc_get C _ (by omega)]; rfl) (fun j hj => frozen_of_row _ g _ _ _ hA)
      unfold Oper.wp
      simp [execOp, hop, resolve, invoke, builtin, hs, hx, hty, hrun, Result.andThen]
      rw [h2, Nat.mul_one, setCells_row g M C n W hA]
      obtain ⟨y, rfl⟩ := hW
      have hl := putAt_len M C n
      have := h g (putAt C n M) _ (gx_row hgw) hgw (At.row ⟨_, hA⟩) (by omega) (by omega) (fun k => by
        rw [gw_putAt M C n k hr]; split
        · exact hbM _
        · exact hbC _) (fun j hj => by rw [gw_putAt M C n j hr, if_neg (by omega)]) (fun j hj => by rw [gw_putAt M C n _ hr, if_pos (by omega)]; congr 1 <;> omega)
      rw [hl] at this
      exact hK _ _ this
    · have hrun := run_append_grow (P := Tryz.prog) W 39 39 5 i (.int .u8 0) Tryz.underlying39 h1 h4 ⟨g, 0, none⟩ n C.length ((C.take n).map (Value.int .u8)) (by simp [h2]; omega) (fun j v hj => by
        rw [List.getElem?_map] at hj
        obtain ⟨y, hy1, rfl⟩ := Option.map_eq_some_iff.1 hj
        obtain ⟨hj', e⟩ := List.getElem?_eq_some_iff.1 hy1
        rw [List.length_take] at hj'
        rw [Addr.add_lit, Nat.zero_add, cell_of_row W g j _ _ _ hA, bc_get C j (by omega), ← e]
        simp [gw, List.getD, show j < C.length by omega]) ⟨b, off, none⟩ M.length c' (M.map (Value.int .u8)) (by simp [h2]) hnews (by omega) (by omega) (growslice_fits (by omega) (by rw [h3]; omega))
      have hge := grownCap_ge W (n + M.length) C.length 5
      have hle : grownCap W (n + M.length) C.length 5 ≤ maxLen := grownCap_le_maxLen W _ _ _ (by simp only [maxLen]; omega)
      generalize grownCap W (n + M.length) C.length 5 = cap at *
      have e : ((C.take n).map (Value.int .u8)).toArray ++ (M.map (Value.int .u8)).toArray ++ Builtin.zeroCells (Value.int .u8 0).cells (cap - (n + M.length)) = bc (C.take n ++ M ++ List.replicate (cap - (n + M.length)) 0) := by
        rw [zeros_bc, ← bc_append, ← bc_append]; rfl
      rw [e] at hrun
      have ll : (C.take n ++ M ++ List.replicate (cap - (n + M.length)) 0).length = cap := by simp; omega
      have l1 : (C.take n).length = n := by simp; omega
      unfold Oper.wp
      simp [execOp, hop, resolve, invoke, builtin, hs, hx, hty, hrun, Result.andThen]
      obtain ⟨y, rfl⟩ := hW
      have := h (gx w y).heap.size (C.take n ++ M ++ List.replicate (cap - (n + M.length)) 0) _ (Gx.alloc (Gx.drew ⟨y, rfl⟩)) (by rw [size_gx]; omega) (At.new (gx w y).drew _) (by omega) (by omega) (fun k => by
        rw [gw_append, gw_append, l1]; split
        · split
          · rw [gw_take _ _ _ (by omega)]; exact hbC _
          · exact hbM _
        · rw [gw_zeros]; decide) (fun j hj => by rw [gw_append, if_pos (by simp; omega), gw_append, l1, if_pos hj, gw_take _ _ _ hj]) (fun j hj => by rw [gw_append, if_pos (by simp; omega), gw_append, l1, if_neg (by omega)]; congr 1 <;> omega)
      rw [ll] at this
      simp only [List.append_assoc] at this ⊢
      exact hK _ _ this
end Go.Proofs.YthkccbeffonaaaaGreatDoor

/-
  Targets, the program's and the reference's: contracts.
-/
namespace Go.Proofs.YthkccbeffonaaaaGreatDoor
open Go.RowKit
-- AT2

/-- The number of the target k. -/
def tgI (number memories : Int) (k : Nat) : Int := (number + k) % memories
def tgTo (number memories : Int) (c : Nat) : Nat → List Int
  | 0 => zerosI c
  | k + 1 => (tgTo number memories c k).set k (tgI number memories k)
theorem tgTo_len (a b : Int) (c : Nat) : ∀ k, (tgTo a b c k).length = c
  | 0 => zerosI_len c
  | k + 1 => by unfold tgTo; rw [List.length_set, tgTo_len a b c k]
theorem tgTo_0 (a b : Int) (c : Nat) : tgTo a b c 0 = zerosI c := rfl
theorem tgTo_succ (a b : Int) (c k : Nat) : (tgTo a b c k).set k (tgI a b k) = tgTo a b c (k + 1) := rfl
theorem gw_tgTo (a b : Int) (c : Nat) : ∀ k, k ≤ c → ∀ j, j < k → gw (tgTo a b c k) j = tgI a b j
  | 0, _, j, h => absurd h (by omega)
  | k + 1, hk, j, hj => by
    rw [← tgTo_succ, gw_set _ _ _ _ (by rw [tgTo_len]; omega)]
    by_cases e : j = k
    · subst e; rw [if_pos rfl]
    · rw [if_neg e]; exact gw_tgTo a b c k (by omega) j (by omega)
attribute [irreducible] tgTo
/-- .. as a list that grows. -/
def tgL (a b : Int) : Nat → List Int
  | 0 => []
  | k + 1 => tgL a b k ++ [tgI a b k]
theorem tgL_len (a b : Int) : ∀ k, (tgL a b k).length = k
  | 0 => rfl
  | k + 1 => by unfold tgL; rw [List.length_append, tgL_len a b k]; rfl
theorem tgL_0 (a b : Int) : tgL a b 0 = [] := rfl
theorem tgL_succ (a b : Int) (k : Nat) : tgL a b k ++ [tgI a b k] = tgL a b (k + 1) := rfl
theorem gw_tgL (a b : Int) : ∀ k j, j < k → gw (tgL a b k) j = tgI a b j
  | 0, j, h => absurd h (by omega)
  | k + 1, j, hj => by
    rw [← tgL_succ, gw_append, tgL_len]
    by_cases e : j < k
    · rw [if_pos e]; exact gw_tgL a b k j e
    · rw [if_neg e]
      obtain rfl : j = k := by omega
      rw [Nat.sub_self]
      unfold gw
      rfl
attribute [irreducible] tgL tgI
theorem tg_end (a b : Int) (c : Nat) : tgTo a b c c = tgL a b c := ext_gw (by rw [tgTo_len, tgL_len]) fun k hk => by
  rw [tgTo_len] at hk
  rw [gw_tgTo a b c c (Nat.le_refl _) k hk, gw_tgL a b c k hk]
theorem tgI_eq {a b : Int} {k : Nat} : (a + (k : Int)) % b = tgI a b k := by unfold tgI; rfl
def iC (B : List Int) : List Value := B.map (Value.int .i64)
theorem iC_arr (B : List Int) : (iC B).toArray = ic B := rfl
theorem iC_len (B : List Int) : (iC B).length = B.length := by unfold iC; simp
theorem el_int : Elem 23 3 1 8 := elem_of Tryz.underlying23 (by decide) (z := .int .i64 0) (by kernel_rfl) (by simp [Value.cells])
theorem make_ints (n : Nat) (hn : n ≤ 4194304) (w : World) : (Instr.makeSlice 23 (.int .i64 (n : Int)) (.int .i64 (n : Int))).run Tryz.prog w = .ok (.slice (some ⟨w.heap.size, 0, none⟩) n n) (w.alloc (.cells (ic (zerosI n)) 3)) := by
  obtain ⟨ht, hp, i, z, hi, hz, hsize, hby, hzs⟩ := el_int
  have hzz : z = .int .i64 0 := by
    have h : (Tryz.prog.info? 3).map (·.zero) = some (some (.int .i64 0)) := by kernel_rfl
    rw [hi] at h
    simp only [Option.map_some, Option.some.injEq, hz] at h
    exact h
  have := run_make (P := Tryz.prog) w 23 3 i z ht hi hz .i64 .i64 n n (by omega) (Int.le_refl _) (by rw [hby]; omega) (by omega)
  rw [this, hsize, hzz]
  simp only [Int.toNat_natCast, Value.cells, Nat.mul_one]
  have e : madeCells #[Value.int .i64 0] n = ic (zerosI n) := by
    apply Array.toList_inj.1
    rw [toList_madeCells_one]
    unfold ic zerosI
    simp
  rw [e]

set_option maxHeartbeats 400000 in
set_option maxRecDepth 100000 in
theorem targets_any (a b : Int) (c : Nat) (ha : 0 ≤ a) (ha' : a < 4194304) (hb : 1 ≤ b) (hb' : b ≤ 8) (hc : c ≤ 8) (w : World) :
    Calls Tryz.prog 110 #[.int .i64 a, .int .i64 b, .int .i64 c] w fun e w' => ∃ g x, e = .returned (.slice (some ⟨g, 0, none⟩) c c) ∧ w' = gx w x ∧ w.heap.size ≤ g ∧ At (gx w x) g (.cells (ic (tgL a b c)) 3 (0, 0)) := by
  have hmk := make_ints c (by omega)
  have E0 := Lib.hid (tgTo_0 a b c)
  have key : ∀ g W, (∃ x, W = gx w x) → w.heap.size ≤ g → At W g (.cells (ic (tgTo a b c c)) 3 (0, 0)) → ∃ g' x, Ending.returned (.slice (some ⟨g, 0, none⟩) c c) = .returned (.slice (some ⟨g', 0, none⟩) c c) ∧ W = gx w x ∧ w.heap.size ≤ g' ∧ At (gx w x) g' (.cells (ic (tgL a b c)) 3 (0, 0)) := by
    rintro g _ ⟨x, rfl⟩ hg h
    exact ⟨g, x, rfl, rfl, hg, by rw [tg_end] at h; exact h⟩
  have Key := Lib.hid key
  clear key
  have hb0 : ¬ b = 0 := by omega
  go_enter Tryz.func110, Tryz.ntmps110
  go_wp2
  go_loopw [13] (fun i wr => ∃ k : Nat, k ≤ c ∧ i = .int .i64 k ∧ ∃ y, wr = gx (w.alloc (.cells (ic (tgTo a b c k)) 3)) y) (fun i _ => c - (intOf i).toNat)
  case atStart => exact ⟨0, by omega, rfl, by rw [E0.out]; exact ⟨_, (gx_none _).symm⟩⟩
  case round =>
    obtain ⟨k, hk, rfl, y, rfl⟩ := hrel
    have hlk := tgTo_len a b c k
    by_cases hlt : k < c
    · have hs := tgTo_succ a b c k
      have h1 : IntKind.i64.wrap (a + (k : Int)) = a + (k : Int) := IntWalk.i64_in _ (by omega)
      have h2 : IntKind.i64.wrap ((a + (k : Int)).tmod b) = tgI a b k := by
        rw [Int.tmod_eq_emod_of_nonneg (by omega), tgI_eq]
        unfold tgI
        have := Int.emod_nonneg (a + (k : Int)) hb0
        have := Int.emod_lt_of_pos (a + (k : Int)) (show 0 < b by omega)
        exact IntWalk.i64_in _ (by omega)
      have h3 : (a + (k : Int)) % b = tgI a b k := tgI_eq
      go_wp2
      go_roundw
      case rel => exact ⟨k + 1, by omega, by go_num, ⟨_, rfl⟩⟩
      case measure => simp [intOf]; omega
    · obtain rfl : k = c := by omega
      go_wp2
      go_ret
      refine Key.out w.heap.size _ ?_ (Nat.le_refl _) ?_
      · exact (by repeat (first | (with_reducible exact Gx.refl _) | (with_reducible assumption) | (with_reducible refine Gx.gx ?_) | (with_reducible refine Gx.alloc ?_) | (with_reducible refine Gx.drew ?_) | (with_reducible refine Gx.drewN ?_) | (with_reducible refine Gx.setRow ?_ (by simp)) | (with_reducible refine Gx.setCell ?_ (by simp))))
      · (focus (repeat (first | (with_reducible assumption) | (with_reducible exact At.new _ _) | (with_reducible refine At.row ?_) | (with_reducible refine At.app ?_) | (with_reducible refine At.tick ?_) | (with_reducible refine At.gx ?_) | ((with_reducible refine At.new' ?_); focus (simp; done)) | (with_reducible refine At.alloc ?_) | (with_reducible refine At.drew ?_) | (with_reducible exact Is.new _ _ _) | (with_reducible refine Is.row ?_) | (with_reducible refine Is.gx ?_) | ((with_reducible refine Is.new' ?_); focus (simp; done)) | (with_reducible refine Is.alloc ?_) | (with_reducible refine Is.drew ?_))))

def tgOk (a b c : Int) : Prop := 0 ≤ a ∧ a < 4194304 ∧ 1 ≤ b ∧ b ≤ 8 ∧ 1 ≤ c ∧ c ≤ b
set_option maxHeartbeats 400000 in
theorem Targets_bad (a b c : Int) (h : ¬ tgOk a b c) (w : World) :
    Calls Tryz.prog 48 #[.int .i64 a, .int .i64 b, .int .i64 c] w fun e w' => e = .returned (.tuple #[.slice none 0 0, .int .i64 9]) ∧ ∃ x, w' = gx w x := by
  unfold tgOk at h
  go_enter Tryz.func48, Tryz.ntmps48
  go_wp2
  all_goals first | (exfalso; omega) | (go_ret2; exact ⟨rfl, (by repeat (first | (with_reducible exact Gx.refl _) | (with_reducible assumption) | (with_reducible refine Gx.gx ?_) | (with_reducible refine Gx.alloc ?_) | (with_reducible refine Gx.drew ?_) | (with_reducible refine Gx.drewN ?_) | (with_reducible refine Gx.setRow ?_ (by simp)) | (with_reducible refine Gx.setCell ?_ (by simp))))⟩)
set_option maxHeartbeats 400000 in
theorem Targets_ok (a b : Int) (c : Nat) (h : tgOk a b c) (w : World) :
    Calls Tryz.prog 48 #[.int .i64 a, .int .i64 b, .int .i64 c] w fun e w' => ∃ g x, e = .returned (.tuple #[.slice (some ⟨g, 0, none⟩) c c, .int .i64 0]) ∧ w' = gx w x ∧ w.heap.size ≤ g ∧ At (gx w x) g (.cells (ic (tgL a b c)) 3 (0, 0)) := by
  obtain ⟨h1, h2, h3, h4, h5, h6⟩ := h
  have g1 : decide (a < 0) = false := decide_eq_false (by omega)
  have g2 : decide (4194304 ≤ a) = false := decide_eq_false (by omega)
  have g3 : decide (b < 1) = false := decide_eq_false (by omega)
  have g4 : decide (8 < b) = false := decide_eq_false (by omega)
  have g5 : decide ((c : Int) < 1) = false := decide_eq_false (by omega)
  have g6 : decide (b < (c : Int)) = false := decide_eq_false (by omega)
  go_enter Tryz.func48, Tryz.ntmps48
  go_wp2_with (go_at_call 110; refine (targets_any a b c h1 h2 h3 h4 (by omega) _).mono ?_; rintro e w' ⟨g, z, rfl, rfl, hg, hA⟩)
  go_ret2
  exact ⟨g, z, rfl, rfl, hg, hA⟩
set_option maxHeartbeats 400000 in
theorem RTargets_bad (a b c : Int) (h : ¬ tgOk a b c) (w : World) :
    Calls Tryz.prog 49 #[.int .i64 a, .int .i64 b, .int .i64 c] w fun e w' => e = .returned (.tuple #[.slice none 0 0, .int .i64 9]) ∧ ∃ x, w' = gx w x := by
  unfold tgOk at h
  go_enter Tryz.func49, Tryz.ntmps49
  go_wp2_with (go_at_call 76; refine (outside_any _ _ _ _).mono ?_; rintro e w' ⟨rfl, rfl⟩)
  all_goals first | (exfalso; omega) | (go_ret2; exact ⟨rfl, (by repeat (first | (with_reducible exact Gx.refl _) | (with_reducible assumption) | (with_reducible refine Gx.gx ?_) | (with_reducible refine Gx.alloc ?_) | (with_reducible refine Gx.drew ?_) | (with_reducible refine Gx.drewN ?_) | (with_reducible refine Gx.setRow ?_ (by simp)) | (with_reducible refine Gx.setCell ?_ (by simp))))⟩)
theorem outside_no (n a b : Int) (h : a ≤ n) (h' : n ≤ b) (w : World) :
    Calls Tryz.prog 76 #[.int .i64 n, .int .i64 a, .int .i64 b] w fun e w' => e = .returned (.bool false) ∧ w = w' := by
  refine (outside_any n a b w).mono ?_
  rintro e w' ⟨rfl, rfl⟩
  rw [decide_eq_false (show ¬ n < a by omega), decide_eq_false (show ¬ b < n by omega)]
  exact ⟨rfl, rfl⟩
set_option maxHeartbeats 400000 in
set_option maxRecDepth 100000 in
theorem RTargets_ok (a b : Int) (c : Nat) (h : tgOk a b c) (w : World) :
    Calls Tryz.prog 49 #[.int .i64 a, .int .i64 b, .int .i64 c] w fun e w' => ∃ v x, e = .returned (.tuple #[v, .int .i64 0]) ∧ w' = gx w x ∧ Own w.heap.size (gx w x) 3 1 v c (iC (tgL a b c)) := by
  obtain ⟨h1, h2, h3, h4, h5, h6⟩ := h
  have key : ∀ v W, (∃ x, W = gx w x) → Own w.heap.size W 3 1 v c (iC (tgL a b c)) → ∃ v' x, Ending.returned (.tuple #[v, .int .i64 0]) = .returned (.tuple #[v', .int .i64 0]) ∧ W = gx w x ∧ Own w.heap.size (gx w x) 3 1 v' c (iC (tgL a b c)) := by
    rintro v _ ⟨x, rfl⟩ h
    exact ⟨v, x, rfl, rfl, h⟩
  have Key := Lib.hid key
  have E0 : Hid (iC (tgL a b 0) = []) := Lib.hid (by rw [tgL_0]; rfl)
  have hb0 : ¬ b = 0 := by omega
  clear key
  go_enter Tryz.func49, Tryz.ntmps49
  go_wp2_with (go_at_call 76; refine (outside_no _ _ _ ?_ ?_ _).mono ?_; (focus omega); (focus omega); rintro e w' ⟨rfl, rfl⟩)
  go_loopw [22, 8] (fun i v wr => ∃ k : Nat, k ≤ c ∧ i = .int .i64 k ∧ (∃ x, wr = gx w x) ∧ Own w.heap.size wr 3 1 v k (iC (tgL a b k))) (fun i _ _ => c - (intOf i).toNat)
  case atStart => exact ⟨0, by omega, rfl, Gx.refl _, by rw [E0.out]; exact Own.nil _ _ _ _⟩
  case round =>
    obtain ⟨k, hk, rfl, ⟨y, rfl⟩, hO⟩ := hrel
    by_cases hlt : k < c
    · have hs : Hid (iC (tgL a b k) ++ [.int .i64 (tgI a b k)] = iC (tgL a b (k + 1))) := Lib.hid (by rw [← tgL_succ]; unfold iC; simp)
      have g1 : IntKind.i64.wrap (a + (k : Int)) = a + (k : Int) := IntWalk.i64_in _ (by omega)
      have g2 : IntKind.i64.wrap ((a + (k : Int)).tmod b) = tgI a b k := by
        rw [Int.tmod_eq_emod_of_nonneg (by omega), tgI_eq]
        unfold tgI
        have := Int.emod_nonneg (a + (k : Int)) hb0
        have := Int.emod_lt_of_pos (a + (k : Int)) (show 0 < b by omega)
        exact IntWalk.i64_in _ (by omega)
      have g3 : (a + (k : Int)) % b = tgI a b k := tgI_eq
      go_wp2_with (first | (at_builtin; (with_reducible apply append_new (o := ⟨some 32, _, _, _, _, _⟩) el_int w w.heap.size (v := u8) (n := k) (xs := iC (tgL a b k)) (m := 1) (news := [.int .i64 (tgI a b k)])); go_loud ((exact rfl; exact rfl; exact rfl; exact rfl; (focus (exact Nat.le_refl _)); (focus (repeat (first | (with_reducible assumption) | (with_reducible exact Own.nil _ _ _ _) | (with_reducible refine Own.app ?_) | (with_reducible refine Own.tick ?_) | (with_reducible refine Own.gx ?_) | (with_reducible refine Own.alloc ?_) | (with_reducible refine Own.drew ?_) | (with_reducible refine Own.row ?_ (by omega))))); exact (by repeat (first | (with_reducible exact Gx.refl _) | (with_reducible assumption) | (with_reducible refine Gx.gx ?_) | (with_reducible refine Gx.alloc ?_) | (with_reducible refine Gx.drew ?_) | (with_reducible refine Gx.drewN ?_) | (with_reducible refine Gx.setRow ?_ (by simp)) | (with_reducible refine Gx.setCell ?_ (by simp)))); (focus (simp <;> omega)); exact rfl; (focus (repeat (first | (with_reducible assumption) | ((with_reducible apply Shows.whole); focus ((focus (repeat (first | (with_reducible assumption) | (with_reducible exact At.new _ _) | (with_reducible refine At.row ?_) | (with_reducible refine At.app ?_) | (with_reducible refine At.tick ?_) | (with_reducible refine At.gx ?_) | ((with_reducible refine At.new' ?_); focus (simp; done)) | (with_reducible refine At.alloc ?_) | (with_reducible refine At.drew ?_) | (with_reducible exact Is.new _ _ _) | (with_reducible refine Is.row ?_) | (with_reducible refine Is.gx ?_) | ((with_reducible refine Is.new' ?_); focus (simp; done)) | (with_reducible refine Is.alloc ?_) | (with_reducible refine Is.drew ?_)))); done)) | (with_reducible refine Shows.app ?_) | (with_reducible refine Shows.tick ?_) | (with_reducible refine Shows.gx ?_) | (with_reducible refine Shows.alloc ?_) | (with_reducible refine Shows.drew ?_)))); (focus (simp [Value.oneCell']; done)); (focus (simp only [maxLen]; omega)); (focus omega); (rintro v' W' hW' hO' hg')))))
      go_roundw
      case rel => exact ⟨k + 1, by omega, by go_num, hW', by rw [← hs.out]; exact hO'⟩
      case measure => simp [intOf]; omega
    · obtain rfl : k = c := by omega
      go_wp2
      go_ret2
      exact Key.out _ _ (by repeat (first | (with_reducible exact Gx.refl _) | (with_reducible assumption) | (with_reducible refine Gx.gx ?_) | (with_reducible refine Gx.alloc ?_) | (with_reducible refine Gx.drew ?_) | (with_reducible refine Gx.drewN ?_) | (with_reducible refine Gx.setRow ?_ (by simp)) | (with_reducible refine Gx.setCell ?_ (by simp)))) hO
end Go.Proofs.YthkccbeffonaaaaGreatDoor

/-
  The laws' own helpers: a slice inside a longer one, and whether the bytes around it are kept.
-/
namespace Go.Proofs.YthkccbeffonaaaaGreatDoor
open Go.RowKit
-- AT2

@[go_sem high] theorem fold_pre : (#[Value.int .u8 1, Value.int .u8 2, Value.int .u8 3, Value.int .u8 4, Value.int .u8 5] : Array Value) = bc [1, 2, 3, 4, 5] := rfl
@[go_sem high] theorem fold_post : (#[Value.int .u8 9, Value.int .u8 8, Value.int .u8 7, Value.int .u8 6, Value.int .u8 5, Value.int .u8 4, Value.int .u8 3] : Array Value) = bc [9, 8, 7, 6, 5, 4, 3] := rfl
theorem lit_bs (l : List Int) (h : ∀ x ∈ l, 0 ≤ x ∧ x ≤ 255) : Bs l := fun k => by
  unfold gw
  rcases Nat.lt_or_ge k l.length with hk | hk
  · have := h l[k] (List.getElem_mem hk)
    simpa [List.getD, List.getElem?_eq_getElem hk] using this
  · simp [List.getD, List.getElem?_eq_none hk]
theorem pre_bs : Bs [1, 2, 3, 4, 5] := lit_bs _ (by decide)
theorem post_bs : Bs [9, 8, 7, 6, 5, 4, 3] := lit_bs _ (by decide)
theorem sizeByte (w : World) : (Go.sizeOf 5).run Tryz.prog w = .ok 1 w := by
  obtain ⟨i, h1, h2, _⟩ := infoByte0
  simp [sizeOf, typeInfo, h1, h2]
theorem slice_part (g o n cap l h : Nat) (hlh : l ≤ h) (hh : h ≤ cap) (hl : l < cap) (W : World) :
    (Instr.slice 39 (.slice (some ⟨g, o, none⟩) n cap) (some (.int .i64 (l : Int))) (some (.int .i64 (h : Int))) none).run Tryz.prog W = .ok (.slice (some ⟨g, o + l, none⟩) (h - l) (cap - l)) W := by
  have ht' : Tryz.prog.underlying 39 = some (.slice (Tryz.prog.elem 39)) := by simp [Program.elem, Tryz.underlying39]
  have he : Tryz.prog.elem 39 = 5 := by simp [Program.elem, Tryz.underlying39]
  rw [run_slice_lh W 39 _ _ _ ht' .i64 .i64 _ _ (by omega) (by omega) (by omega), he, sizeByte]
  have hne : ¬ cap = l := by omega
  by_cases h0 : l = 0
  · subst h0; simp [Result.andThen, sliced, Addr.add, hne]
  · simp [Result.andThen, sliced, Addr.add, hne, h0]

/-- A slice inside a longer one: five bytes ahead of it, seven behind it. -/
structure Around (M C : List Int) : Prop where
  bs : Bs C
  max : C.length ≤ maxLen
  len : 5 + M.length + 7 ≤ C.length
  pre : ∀ j, j < 5 → gw C j = gw [1, 2, 3, 4, 5] j
  mid : ∀ j, j < M.length → gw C (5 + j) = gw M j
  post : ∀ j, j < 7 → gw C (5 + M.length + j) = gw [9, 8, 7, 6, 5, 4, 3] j

theorem HeldB.part {B C : List Int} {g o n : Nat} {w : World} (hA : At w g (.cells (bc C) 5 (0, 0))) (h : o + n ≤ C.length) (hB : ∀ j, j < n → gw C (o + j) = gw B j) : HeldB B (some ⟨g, o, none⟩) n w := by
  unfold HeldB
  intro _
  refine ⟨g, o, rfl, fun j hj => ?_⟩
  rw [cell_of_row w g _ _ _ _ hA, bc_get C _ (by omega), hB j hj]
theorem slice_head (g o n cap h : Nat) (hh : h ≤ cap) (hc : 0 < cap) (W : World) :
    (Instr.slice 39 (.slice (some ⟨g, o, none⟩) n cap) none (some (.int .i64 (h : Int))) none).run Tryz.prog W = .ok (.slice (some ⟨g, o, none⟩) h cap) W := by
  have ht' : Tryz.prog.underlying 39 = some (.slice (Tryz.prog.elem 39)) := by simp [Program.elem, Tryz.underlying39]
  have he : Tryz.prog.elem 39 = 5 := by simp [Program.elem, Tryz.underlying39]
  rw [run_slice_h W 39 _ _ _ ht' .i64 _ (by omega) (by omega), he, sizeByte]
  have hne : ¬ cap = 0 := by omega
  simp [Result.andThen, sliced, Addr.add, hne]
theorem slice_tail (g o n cap l : Nat) (hl : l ≤ n) (hc : l < cap) (W : World) :
    (Instr.slice 39 (.slice (some ⟨g, o, none⟩) n cap) (some (.int .i64 (l : Int))) none none).run Tryz.prog W = .ok (.slice (some ⟨g, o + l, none⟩) (n - l) (cap - l)) W := by
  have ht' : Tryz.prog.underlying 39 = some (.slice (Tryz.prog.elem 39)) := by simp [Program.elem, Tryz.underlying39]
  have he : Tryz.prog.elem 39 = 5 := by simp [Program.elem, Tryz.underlying39]
  rw [run_slice_l W 39 _ _ _ ht' .i64 _ (by omega) (by omega), he, sizeByte]
  have hne : ¬ cap = l := by omega
  by_cases h0 : l = 0
  · subst h0; simp [Result.andThen, sliced, Addr.add, hne]
  · simp [Result.andThen, sliced, Addr.add, hne, h0]

end Go.Proofs.YthkccbeffonaaaaGreatDoor

/-
  Package ring: write and erase: contracts.
-/
namespace Go.Proofs.YthkccbeffonaaaaGreatDoor
open Go.RowKit
-- AT2

/-- What a byte is behind writing another one. -/
@[irreducible] def andB (a b : Int) : Int := bits .and .u8 a b
@[irreducible] def tornB (a b : Int) : Int := bits .and .u8 a (bits .or .u8 b 15)
theorem andB_eq (a b : Int) : bits .and .u8 a b = andB a b := by unfold andB; rfl
theorem tornB_eq (a b : Int) : bits .and .u8 a (bits .or .u8 b 15) = tornB a b := by unfold tornB; rfl
/-- The first k bytes of D are written into C from q on. -/
def wrB (C D : List Int) (q : Nat) : Nat → List Int
  | 0 => C
  | k + 1 => (wrB C D q k).set (q + k) (andB (gw C (q + k)) (gw D k))
theorem wrB_len (C D : List Int) (q : Nat) : ∀ k, (wrB C D q k).length = C.length
  | 0 => rfl
  | k + 1 => by simp only [wrB]; rw [List.length_set, wrB_len C D q k]
theorem gw_wrB (C D : List Int) (q : Nat) : ∀ k, q + k ≤ C.length → ∀ x, gw (wrB C D q k) x = if q ≤ x ∧ x < q + k then andB (gw C x) (gw D (x - q)) else gw C x
  | 0, _, x => by rw [if_neg (by omega)]; rfl
  | k + 1, h, x => by
    simp only [wrB]
    rw [gw_set _ _ _ _ (by rw [wrB_len]; omega), gw_wrB C D q k (by omega) x]
    by_cases e : x = q + k
    · subst e
      rw [if_pos rfl, if_pos (by omega), show q + k - q = k by omega]
    · rw [if_neg e]
      by_cases c : q ≤ x ∧ x < q + k
      · rw [if_pos c, if_pos (by omega)]
      · rw [if_neg c, if_neg (by omega)]
theorem wrB_0 (C D : List Int) (q : Nat) : wrB C D q 0 = C := rfl
theorem wrB_succ (C D : List Int) (q k : Nat) : (wrB C D q k).set (q + k) (andB (gw C (q + k)) (gw D k)) = wrB C D q (k + 1) := rfl
theorem wrB_at (C D : List Int) (q k : Nat) (h : q + k ≤ C.length) : gw (wrB C D q k) (q + k) = gw C (q + k) := by
  rw [gw_wrB C D q k h, if_neg (by omega)]
/-- .. and the next one is torn. -/
def wrT (C D : List Int) (q k : Nat) : List Int := (wrB C D q k).set (q + k) (tornB (gw C (q + k)) (gw D k))
theorem wrT_len (C D : List Int) (q k : Nat) : (wrT C D q k).length = C.length := by unfold wrT; rw [List.length_set, wrB_len]
theorem wrT_is (C D : List Int) (q k : Nat) : (wrB C D q k).set (q + k) (tornB (gw C (q + k)) (gw D k)) = wrT C D q k := rfl
attribute [irreducible] wrB wrT

set_option maxHeartbeats 400000 in
set_option maxRecDepth 100000 in
theorem write_full (C D : List Int) (g q n c g2 q2 c2 : Nat) (p : Int) (hD : D.length ≤ n) (hq : q + D.length ≤ C.length) (hm : n ≤ 9223372036854775807) (hne : g2 ≠ g) (hp : (D.length : Int) ≤ p) (hp' : p ≤ 9223372036854775807) (w : World) (hA : At w g (.cells (bc C) 5 (0, 0)))
    (hd : ∀ j, j < D.length → w.cell? ⟨g2, q2 + j, none⟩ = some (.int .u8 (gw D j))) :
    Calls Tryz.prog 86 #[.slice (some ⟨g, q, none⟩) n c, .slice (some ⟨g2, q2, none⟩) D.length c2, .int .i64 p] w fun e w' => e = .returned (.tuple #[.int .i64 (p - D.length), .bool true]) ∧ ∃ x, w' = gx (w.setRow g (bc (wrB C D q D.length))) x := by
  have hg := hA.lt
  have hI : Is w g 5 := ⟨_, hA⟩
  have e0 : w.setRow g (bc C) = w := hA.self
  have E0 := Lib.hid e0
  have W0 := Lib.hid (wrB_0 C D q)
  have Hd := Lib.hid hd
  have hps : IntKind.i64.wrap (p - (D.length : Int)) = p - (D.length : Int) := IntWalk.i64_in _ (by omega)
  clear e0 hd
  go_enter Tryz.func86, Tryz.ntmps86
  go_wp2
  go_loopw [12] (fun i wr => ∃ k : Nat, k ≤ D.length ∧ i = .int .i64 k ∧ wr = w.setRow g (bc (wrB C D q k))) (fun i _ => D.length - (intOf i).toNat)
  case atStart => exact ⟨0, Nat.zero_le _, rfl, by rw [W0.out]; exact E0.out.symm⟩
  case round =>
    obtain ⟨k, hk, rfl, rfl⟩ := hrel
    have hlk := wrB_len C D q k
    by_cases hlt : k < D.length
    · have hg2 : g2 < w.heap.size := World.block_lt_of_cell? w _ (Hd.out k hlt)
      have hc : (w.setRow g (bc (wrB C D q k))).cell? ⟨g2, q2 + k, none⟩ = some (.int .u8 (gw D k)) := by rw [cell_row_ne hne]; exact Hd.out k hlt
      have hA' : At (w.setRow g (bc (wrB C D q k))) g (.cells (bc (wrB C D q k)) 5 (0, 0)) := At.row hI
      have h0 := wrB_at C D q k (by omega)
      have hca : (w.setRow g (bc (wrB C D q k))).cell? ⟨g, q + k, none⟩ = some (.int .u8 (gw C (q + k))) := by rw [cell_of_row _ g _ _ _ _ hA', bc_get _ _ (by omega), h0]
      have h1 := andB_eq (gw C (q + k)) (gw D k)
      have h2 := wrB_succ C D q k
      have hne' : ¬ (k : Int) = p := by omega
      go_wp2
      go_roundw
      case rel => exact ⟨k + 1, by omega, by go_num, rfl⟩
      case measure => simp [intOf]; omega
    · obtain rfl : k = D.length := by omega
      go_wp2
      go_ret2
      exact ⟨rfl, (by repeat (first | (with_reducible exact Gx.refl _) | (with_reducible assumption) | (with_reducible refine Gx.gx ?_) | (with_reducible refine Gx.alloc ?_) | (with_reducible refine Gx.drew ?_) | (with_reducible refine Gx.drewN ?_) | (with_reducible refine Gx.setRow ?_ (by simp)) | (with_reducible refine Gx.setCell ?_ (by simp))))⟩
set_option maxHeartbeats 400000 in
set_option maxRecDepth 100000 in
theorem write_torn (C D : List Int) (g q n c g2 q2 c2 p : Nat) (hD : D.length ≤ n) (hq : q + D.length ≤ C.length) (hm : n ≤ 9223372036854775807) (hne : g2 ≠ g) (hp : p < D.length) (w : World) (hA : At w g (.cells (bc C) 5 (0, 0)))
    (hd : ∀ j, j < D.length → w.cell? ⟨g2, q2 + j, none⟩ = some (.int .u8 (gw D j))) :
    Calls Tryz.prog 86 #[.slice (some ⟨g, q, none⟩) n c, .slice (some ⟨g2, q2, none⟩) D.length c2, .int .i64 p] w fun e w' => e = .returned (.tuple #[.int .i64 0, .bool false]) ∧ ∃ x, w' = gx (w.setRow g (bc (wrT C D q p))) x := by
  have hg := hA.lt
  have hI : Is w g 5 := ⟨_, hA⟩
  have e0 : w.setRow g (bc C) = w := hA.self
  have E0 := Lib.hid e0
  have W0 := Lib.hid (wrB_0 C D q)
  have Hd := Lib.hid hd
  clear e0 hd
  go_enter Tryz.func86, Tryz.ntmps86
  go_wp2
  go_loopw [12] (fun i wr => ∃ k : Nat, k ≤ p ∧ i = .int .i64 k ∧ wr = w.setRow g (bc (wrB C D q k))) (fun i _ => D.length - (intOf i).toNat)
  case atStart => exact ⟨0, Nat.zero_le _, rfl, by rw [W0.out]; exact E0.out.symm⟩
  case round =>
    obtain ⟨k, hk, rfl, rfl⟩ := hrel
    have hlk := wrB_len C D q k
    have hlt : k < D.length := by omega
    have hg2 : g2 < w.heap.size := World.block_lt_of_cell? w _ (Hd.out k hlt)
    have hc : (w.setRow g (bc (wrB C D q k))).cell? ⟨g2, q2 + k, none⟩ = some (.int .u8 (gw D k)) := by rw [cell_row_ne hne]; exact Hd.out k hlt
    have hA' : At (w.setRow g (bc (wrB C D q k))) g (.cells (bc (wrB C D q k)) 5 (0, 0)) := At.row hI
    have h0 := wrB_at C D q k (by omega)
    have hca : (w.setRow g (bc (wrB C D q k))).cell? ⟨g, q + k, none⟩ = some (.int .u8 (gw C (q + k))) := by rw [cell_of_row _ g _ _ _ _ hA', bc_get _ _ (by omega), h0]
    by_cases hp2 : k < p
    · have h1 := andB_eq (gw C (q + k)) (gw D k)
      have h2 := wrB_succ C D q k
      have hne' : ¬ (k : Int) = (p : Int) := by omega
      go_wp2
      go_roundw
      case rel => exact ⟨k + 1, by omega, by go_num, rfl⟩
      case measure => simp [intOf]; omega
    · obtain rfl : k = p := by omega
      have h1 := tornB_eq (gw C (q + k)) (gw D k)
      have h2 := wrT_is C D q k
      go_wp2
      go_ret2
      exact ⟨rfl, (by repeat (first | (with_reducible exact Gx.refl _) | (with_reducible assumption) | (with_reducible refine Gx.gx ?_) | (with_reducible refine Gx.alloc ?_) | (with_reducible refine Gx.drew ?_) | (with_reducible refine Gx.drewN ?_) | (with_reducible refine Gx.setRow ?_ (by simp)) | (with_reducible refine Gx.setCell ?_ (by simp))))⟩

set_option maxHeartbeats 400000 in
set_option maxRecDepth 100000 in
theorem erase_full (C : List Int) (g o n c : Nat) (h : o + n ≤ C.length) (hm : n ≤ 9223372036854775807) (p : Int) (hp : 0 < p) (hp' : p ≤ 9223372036854775807) (w : World) (hA : At w g (.cells (bc C) 5 (0, 0))) :
    Calls Tryz.prog 88 #[.slice (some ⟨g, o, none⟩) n c, .int .i64 p] w fun e w' => e = .returned (.tuple #[.int .i64 (p - 1), .bool true]) ∧ ∃ x, w' = gx (w.setRow g (bc (fillTo C o n))) x := by
  have hps : IntKind.i64.wrap (p - 1) = p - 1 := IntWalk.i64_in _ (by omega)
  have hne : ¬ p = 0 := by omega
  go_enter Tryz.func88, Tryz.ntmps88
  go_wp2_with (go_at_call 75; refine (fill_any C g o n c h hm _ ?_).mono ?_; (focus (repeat (first | (with_reducible assumption) | (with_reducible exact At.new _ _) | (with_reducible refine At.row ?_) | (with_reducible refine At.app ?_) | (with_reducible refine At.tick ?_) | (with_reducible refine At.gx ?_) | ((with_reducible refine At.new' ?_); focus (simp; done)) | (with_reducible refine At.alloc ?_) | (with_reducible refine At.drew ?_) | (with_reducible exact Is.new _ _ _) | (with_reducible refine Is.row ?_) | (with_reducible refine Is.gx ?_) | ((with_reducible refine Is.new' ?_); focus (simp; done)) | (with_reducible refine Is.alloc ?_) | (with_reducible refine Is.drew ?_)))); rintro e w' ⟨rfl, z, rfl⟩)
  go_ret2
  exact ⟨rfl, (by repeat (first | (with_reducible exact Gx.refl _) | (with_reducible assumption) | (with_reducible refine Gx.gx ?_) | (with_reducible refine Gx.alloc ?_) | (with_reducible refine Gx.drew ?_) | (with_reducible refine Gx.drewN ?_) | (with_reducible refine Gx.setRow ?_ (by simp)) | (with_reducible refine Gx.setCell ?_ (by simp))))⟩
set_option maxHeartbeats 400000 in
set_option maxRecDepth 100000 in
theorem erase_torn (C : List Int) (g o n c m : Nat) (hmn : m = n / 2) (h : o + n ≤ C.length) (hnc : n ≤ c) (hc0 : 0 < c) (hm : c ≤ 9223372036854775807) (w : World) (hA : At w g (.cells (bc C) 5 (0, 0))) :
    Calls Tryz.prog 88 #[.slice (some ⟨g, o, none⟩) n c, .int .i64 0] w fun e w' => e = .returned (.tuple #[.int .i64 0, .bool false]) ∧ ∃ x, w' = gx (w.setRow g (bc (fillTo C o m))) x := by
  have hd2 : (n : Int) / 2 = (m : Int) := by omega
  have hd3 : IntKind.i64.wrap ((n : Int).tdiv 2) = (m : Int) := by rw [Int.tdiv_eq_ediv_of_nonneg (by omega), IntKind.wrap_i64]; omega
  have hs : ∀ W, (Instr.slice 39 (.slice (some ⟨g, o, none⟩) n c) none (some (.int .i64 (m : Int))) none).run Tryz.prog W = .ok (.slice (some ⟨g, o, none⟩) m c) W := fun W => slice_head g o n c m (by omega) hc0 W
  have hm1 : o + m ≤ C.length := by omega
  have hm2 : m ≤ 9223372036854775807 := by omega
  clear hmn
  go_enter Tryz.func88, Tryz.ntmps88
  go_wp2_with (go_at_call 75; refine (fill_any C g o m c hm1 hm2 _ ?_).mono ?_; (focus (repeat (first | (with_reducible assumption) | (with_reducible exact At.new _ _) | (with_reducible refine At.row ?_) | (with_reducible refine At.app ?_) | (with_reducible refine At.tick ?_) | (with_reducible refine At.gx ?_) | ((with_reducible refine At.new' ?_); focus (simp; done)) | (with_reducible refine At.alloc ?_) | (with_reducible refine At.drew ?_) | (with_reducible exact Is.new _ _ _) | (with_reducible refine Is.row ?_) | (with_reducible refine Is.gx ?_) | ((with_reducible refine Is.new' ?_); focus (simp; done)) | (with_reducible refine Is.alloc ?_) | (with_reducible refine Is.drew ?_)))); rintro e w' ⟨rfl, z, rfl⟩)
  go_ret2
  exact ⟨rfl, (by repeat (first | (with_reducible exact Gx.refl _) | (with_reducible assumption) | (with_reducible refine Gx.gx ?_) | (with_reducible refine Gx.alloc ?_) | (with_reducible refine Gx.drew ?_) | (with_reducible refine Gx.drewN ?_) | (with_reducible refine Gx.setRow ?_ (by simp)) | (with_reducible refine Gx.setCell ?_ (by simp))))⟩
end Go.Proofs.YthkccbeffonaaaaGreatDoor

/-
  Memories: what it means that a value is one; CheckMemory of a right one.
-/
namespace Go.Proofs.YthkccbeffonaaaaGreatDoor
open Go.RowKit
-- AT2

/-- A memory, as plain data. -/
structure PM where
  slots : Nat
  limit : Int
  sec : List (List Int)
  wear : List Int
  bad : List Bool
def PM.s (m : PM) (i : Nat) : List Int := m.sec.getD i []
/-- The element i of a list of truths. -/
def gq (P : List Bool) (i : Nat) : Bool := P.getD i false
def qC (P : List Bool) : List Value := P.map Value.bool
theorem qC_get {P : List Bool} {j : Nat} (h : j < P.length) : (qC P)[j]? = some (.bool (gq P j)) := by
  unfold qC gq
  simp [List.getD, List.getElem?_eq_getElem h]
theorem iC_get {P : List Int} {j : Nat} (h : j < P.length) : (iC P)[j]? = some (.int .i64 (gw P j)) := by
  unfold iC gw
  simp [List.getD, List.getElem?_eq_getElem h]
theorem qC_len (P : List Bool) : (qC P).length = P.length := by unfold qC; simp
attribute [irreducible] PM.s gq
/-- The value of a memory is this one. -/
def memV (m : PM) (A B C : Option Addr) (a b c : Nat) : Value := .agg #[.int .i64 m.slots, .int .i64 m.limit, .slice A m.sec.length a, .slice B m.wear.length b, .slice C m.bad.length c]
/-- A sector's slice lies there. -/
def SecAt (W : World) (S : List Int) (v : Value) : Prop := ∃ B c, v = .slice B S.length c ∧ S.length ≤ c ∧ c ≤ 9223372036854775807 ∧ HeldB S B S.length W ∧ (B = none → S.length = 0)
/-- A value of a memory reads as this one. -/
structure RM (W : World) (m : PM) (A B C : Option Addr) : Prop where
  sec : 0 < m.sec.length → ∃ g o, A = some ⟨g, o, none⟩ ∧ ∀ i, i < m.sec.length → ∃ v, W.cell? ⟨g, o + i, none⟩ = some v ∧ SecAt W (m.s i) v
  wear : Shows (iC m.wear) B W
  bad : Shows (qC m.bad) C W
theorem SecAt.gx {W : World} {S : List Int} {v : Value} {x : Ext} (h : SecAt W S v) : SecAt (gx W x) S v := by
  obtain ⟨B, c, h1, h2, h3, h4, h5⟩ := h
  exact ⟨B, c, h1, h2, h3, h4.gx, h5⟩
theorem RM.gx {W : World} {m : PM} {A B C : Option Addr} {x : Ext} (h : RM W m A B C) : RM (gx W x) m A B C := by
  refine ⟨fun h0 => ?_, h.wear.gx, h.bad.gx⟩
  obtain ⟨g, o, e, hc⟩ := h.sec h0
  refine ⟨g, o, e, fun i hi => ?_⟩
  obtain ⟨v, h1, h2⟩ := hc i hi
  exact ⟨v, cell_keep_gx h1, h2.gx⟩
theorem RM.of_gx {W W' : World} {m : PM} {A B C : Option Addr} (h : RM W m A B C) (hW : ∃ x, W' = Go.Proofs.YthkccbeffonaaaaGreatDoor.gx W x) : RM W' m A B C := by
  obtain ⟨x, rfl⟩ := hW
  exact h.gx
/-- A memory without errors. -/
structure Good (m : PM) : Prop where
  sizes : sizesOk m.sec.length m.slots m.limit
  wl : m.wear.length = m.sec.length
  bl : m.bad.length = m.sec.length
  len : ∀ i, i < m.sec.length → (m.s i).length = 16 + 97 * m.slots
  wear : ∀ i, i < m.sec.length → 0 ≤ gw m.wear i ∧ gw m.wear i ≤ m.limit
  bs : ∀ i, Bs (m.s i)
theorem RM.wcell {W : World} {m : PM} {A B C : Option Addr} (h : RM W m A B C) (h0 : 0 < m.wear.length) : ∃ g o, B = some ⟨g, o, none⟩ ∧ ∀ i, i < m.wear.length → W.cell? ⟨g, o + i, none⟩ = some (.int .i64 (gw m.wear i)) := by
  have hw := h.wear
  unfold Shows at hw
  obtain ⟨g, o, e, hc⟩ := hw (by rw [iC_len]; exact h0)
  exact ⟨g, o, e, fun i hi => hc i _ (iC_get hi)⟩
theorem RM.bcell {W : World} {m : PM} {A B C : Option Addr} (h : RM W m A B C) (h0 : 0 < m.bad.length) : ∃ g o, C = some ⟨g, o, none⟩ ∧ ∀ i, i < m.bad.length → W.cell? ⟨g, o + i, none⟩ = some (.bool (gq m.bad i)) := by
  have hw := h.bad
  unfold Shows at hw
  obtain ⟨g, o, e, hc⟩ := hw (by rw [qC_len]; exact h0)
  exact ⟨g, o, e, fun i hi => hc i _ (qC_get hi)⟩

set_option maxHeartbeats 600000 in
set_option maxRecDepth 100000 in
theorem CheckMemory_ok (m : PM) (hm : Good m) (A B C : Option Addr) (a b c : Nat) (w : World) (hR : RM w m A B C) :
    Calls Tryz.prog 21 #[memV m A B C a b c] w fun e w' => e = .returned (.int .i64 0) ∧ ∃ x, w' = gx w x := by
  obtain ⟨hs, hwl, hbl, hlen, hwr, -⟩ := hm
  have hs' := Lib.hid hs
  unfold sizesOk at hs
  have h0 : 0 < m.sec.length := by omega
  obtain ⟨gS, oS, rfl, hSc⟩ := hR.sec h0
  obtain ⟨gW, oW, rfl, hWc⟩ := hR.wcell (by omega)
  have HS := Lib.hid hSc
  have HW := Lib.hid hWc
  have HL := Lib.hid hlen
  have HV := Lib.hid hwr
  have hsl : m.slots ≤ 64 := by omega
  have hn : m.sec.length ≤ 64 := by omega
  clear hR hSc hWc hs hlen hwr
  unfold memV
  rw [hwl, hbl]
  generalize hnn : m.sec.length = n at *
  go_enter Tryz.func21, Tryz.ntmps21
  go_wp2_with (first | (go_at_call 73; refine (checkSizes_ok _ _ _ hs'.out _).mono ?_; rintro e w' ⟨rfl, rfl⟩))
  go_loopw [36] (fun i wr => ∃ (k : Nat) (x : Ext), k ≤ n ∧ i = .int .i64 k ∧ wr = gx (w.alloc (.cells #[.int .i64 m.slots, .int .i64 m.limit, .slice (some ⟨gS, oS, none⟩) n a, .slice (some ⟨gW, oW, none⟩) n b, .slice C n c] 26)) x) (fun i _ => n - (intOf i).toNat)
  case atStart => exact ⟨0, _, Nat.zero_le _, rfl, (gx_none _).symm⟩
  case round =>
    obtain ⟨k, y, hk, rfl, rfl⟩ := hrel
    by_cases hlt : k < n
    · obtain ⟨v, hv, B', c', rfl, -⟩ := HS.out k hlt
      have hwv := HW.out k (by omega)
      have hgS : gS < w.heap.size := World.block_lt_of_cell? w _ hv
      have hgW : gW < w.heap.size := World.block_lt_of_cell? w _ hwv
      have hl := HL.out k hlt
      rw [hl] at hv
      obtain ⟨v1, v2⟩ := HV.out k hlt
      have d1 : decide (gw m.wear k < 0) = false := decide_eq_false (by omega)
      have d2 : decide (m.limit < gw m.wear k) = false := decide_eq_false (by omega)
      clear hl
      go_wp2_with (first | (go_at_call 74; refine (sectorBytes_any m.slots hsl _).mono ?_; rintro e w' ⟨rfl, rfl⟩))
      first | (with_reducible refine region_gxx (by kernel_rfl) (by kernel_rfl) ?_) | (with_reducible refine region_gx (by kernel_rfl) (by kernel_rfl) ?_)
      repeat (any_goals (first | (refine quiet_fr rfl _ rfl _ rfl ?_ ?_ ?_ ?_; rotate_left; (focus (rintro _ ⟨x, rfl⟩; (focus (repeat (first | (with_reducible assumption) | (with_reducible exact At.new _ _) | (with_reducible refine At.row ?_) | (with_reducible refine At.app ?_) | (with_reducible refine At.tick ?_) | (with_reducible refine At.gx ?_) | ((with_reducible refine At.new' ?_); focus (simp; done)) | (with_reducible refine At.alloc ?_) | (with_reducible refine At.drew ?_) | (with_reducible exact Is.new _ _ _) | (with_reducible refine Is.row ?_) | (with_reducible refine Is.gx ?_) | ((with_reducible refine Is.new' ?_); focus (simp; done)) | (with_reducible refine Is.alloc ?_) | (with_reducible refine Is.drew ?_)))))); (focus (with_reducible (first | exact hl | exact hl1 | exact hl2 | exact hl3 | exact hl4 | exact zeroF_len)))) | go_big_quiet_step ((first | fail)) | quiet_step ((first | fail))))
      refine wpQuiet_nil ?_
      rintro _ ⟨x, rfl⟩
      go_wp2
      go_roundw
      case rel => exact ⟨k + 1, _, by omega, by go_num, rfl⟩
      case measure => simp [intOf]; omega
    · obtain rfl : k = n := by omega
      go_wp2
      go_ret
      exact ⟨rfl, (by repeat (first | (with_reducible exact Gx.refl _) | (with_reducible assumption) | (with_reducible refine Gx.gx ?_) | (with_reducible refine Gx.alloc ?_) | (with_reducible refine Gx.drew ?_) | (with_reducible refine Gx.drewN ?_) | (with_reducible refine Gx.setRow ?_ (by simp)) | (with_reducible refine Gx.setCell ?_ (by simp))))⟩
end Go.Proofs.YthkccbeffonaaaaGreatDoor

/-
  Slots of a sector: countSlots, slotOf, stateOf, States: contracts.
-/
namespace Go.Proofs.YthkccbeffonaaaaGreatDoor
open Go.RowKit
-- AT2

set_option maxHeartbeats 400000 in
set_option maxRecDepth 100000 in
theorem countSlots_ok (A : Option Addr) (n c k : Nat) (hn : n = 16 + 97 * k) (hk : 1 ≤ k) (hk' : k ≤ 1048576) (w : World) :
    Calls Tryz.prog 93 #[.slice A n c] w fun e w' => e = .returned (.tuple #[.int .i64 k, .int .i64 0]) ∧ w = w' := by
  obtain ⟨r, hr⟩ : ∃ r : Int, r = 97 * (k : Int) := ⟨_, rfl⟩
  have h1 : IntKind.i64.wrap ((n : Int) - 16) = r := by rw [IntWalk.i64_in _ (by omega)]; omega
  have h2 : decide (r < 97) = false := decide_eq_false (by omega)
  have h3 : IntKind.i64.wrap (r.tmod 97) = 0 := by rw [Int.tmod_eq_emod_of_nonneg (by omega), IntKind.wrap_i64]; omega
  have h4 : IntKind.i64.wrap (r.tdiv 97) = (k : Int) := by rw [Int.tdiv_eq_ediv_of_nonneg (by omega), IntKind.wrap_i64]; omega
  have h5 : r % 97 = 0 := by omega
  have h6 : r / 97 = (k : Int) := by omega
  have h7 : (n : Int) - 16 = r := by omega
  clear hr hn
  go_enter Tryz.func93, Tryz.ntmps93
  go_wp2
  go_ret2
  exact ⟨rfl, rfl⟩
set_option maxHeartbeats 400000 in
set_option maxRecDepth 100000 in
theorem slotOf_any (b o n c k i : Nat) (hn : n = 16 + 97 * k) (hnc : n ≤ c) (_hcm : c ≤ 9223372036854775807) (hk' : k ≤ 1048576) (hi : i < k) (w : World) :
    Calls Tryz.prog 95 #[.slice (some ⟨b, o, none⟩) n c, .int .i64 i] w fun e w' => e = .returned (.pointer (some ⟨b, o + (16 + 97 * i), none⟩)) ∧ w = w' := by
  have h1 : IntKind.i64.wrap ((i : Int) * 97) = (i : Int) * 97 := IntWalk.i64_in _ (by omega)
  have h2 : IntKind.i64.wrap (16 + (i : Int) * 97) = ((16 + 97 * i : Nat) : Int) := by rw [IntWalk.i64_in _ (by omega)]; omega
  have hs : ∀ W, (Instr.slice 39 (.slice (some ⟨b, o, none⟩) n c) (some (.int .i64 ((16 + 97 * i : Nat) : Int))) none none).run Tryz.prog W = .ok (.slice (some ⟨b, o + (16 + 97 * i), none⟩) (n - (16 + 97 * i)) (c - (16 + 97 * i))) W := fun W => slice_tail b o n c (16 + 97 * i) (by omega) (by omega) W
  have hat : ∀ W, (Instr.arrayAt 257 (.slice (some ⟨b, o + (16 + 97 * i), none⟩) (n - (16 + 97 * i)) (c - (16 + 97 * i)))).run Tryz.prog W = .ok (.pointer (some ⟨b, o + (16 + 97 * i), none⟩)) W := fun W => run_arrayAt _ _ _ _ _ _ _ Tryz.underlying257 (by omega)
  generalize hq : 16 + 97 * i = q at *
  clear hq hn
  go_enter Tryz.func95, Tryz.ntmps95
  go_wp2
  go_ret
  exact ⟨rfl, rfl⟩
/-- The state of a slot. -/
def stI (D : List Int) : Int := if gw D 96 = 0 then 1 else if ((List.range 97).all fun j => gw D j == 255) = true then 0 else 2
theorem stI_written {D : List Int} (h : gw D 96 = 0) : stI D = 1 := by unfold stI; rw [if_pos h]
theorem stI_free {D : List Int} (h : ¬ gw D 96 = 0) (h' : ∀ j, j < 97 → gw D j = 255) : stI D = 0 := by
  unfold stI
  rw [if_neg h, if_pos (List.all_eq_true.2 fun j hj => by simpa using h' j (List.mem_range.1 hj))]
theorem stI_torn {D : List Int} (h : ¬ gw D 96 = 0) {k : Nat} (hk : k < 97) (h' : ¬ gw D k = 255) : stI D = 2 := by
  unfold stI
  rw [if_neg h, if_neg fun h2 => h' (by simpa using List.all_eq_true.1 h2 k (List.mem_range.2 hk))]
attribute [irreducible] stI
set_option maxHeartbeats 400000 in
set_option maxRecDepth 100000 in
theorem stateOf_any (D : List Int) (b q : Nat) (w : World) (hc : ∀ j, j < 97 → w.cell? ⟨b, q + j, none⟩ = some (.int .u8 (gw D j))) :
    Calls Tryz.prog 94 #[.pointer (some ⟨b, q, none⟩)] w fun e w' => e = .returned (.int .i64 (stI D)) ∧ ∃ x, w' = gx w x := by
  have c96 := hc 96 (by omega)
  have Hc := Lib.hid hc
  have hb : b < w.heap.size := World.block_lt_of_cell? w _ c96
  clear hc
  by_cases h0 : gw D 96 = 0
  · have hs := stI_written h0
    rw [h0] at c96
    rw [hs]
    clear hs h0
    go_enter Tryz.func94, Tryz.ntmps94
    go_wp2
    go_ret
    exact ⟨rfl, (by repeat (first | (with_reducible exact Gx.refl _) | (with_reducible assumption) | (with_reducible refine Gx.gx ?_) | (with_reducible refine Gx.alloc ?_) | (with_reducible refine Gx.drew ?_) | (with_reducible refine Gx.drewN ?_) | (with_reducible refine Gx.setRow ?_ (by simp)) | (with_reducible refine Gx.setCell ?_ (by simp))))⟩
  · have H0 := Lib.hid h0
    have hb0 : (gw D 96 == 0) = false := by simpa using h0
    clear h0
    generalize gw D 96 = v at c96 hb0
    go_enter Tryz.func94, Tryz.ntmps94
    go_wp2
    go_loopw [11] (fun i wr => ∃ k : Nat, k ≤ 97 ∧ i = .int .i64 k ∧ (∃ x, wr = gx w x) ∧ ∀ j, j < k → gw D j = 255) (fun i _ => 97 - (intOf i).toNat)
    case atStart => exact ⟨0, by omega, rfl, Gx.refl _, fun j h => absurd h (by omega)⟩
    case round =>
      obtain ⟨k, hk, rfl, ⟨x, rfl⟩, hall⟩ := hrel
      have HA := Lib.hid hall
      clear hall
      by_cases hlt : k < 97
      · have ck := Hc.out k hlt
        by_cases he : gw D k = 255
        · have HE := Lib.hid he
          rw [he] at ck
          clear he
          go_wp2
          go_roundw
          case rel => exact ⟨k + 1, by omega, by go_num, (by repeat (first | (with_reducible exact Gx.refl _) | (with_reducible assumption) | (with_reducible refine Gx.gx ?_) | (with_reducible refine Gx.alloc ?_) | (with_reducible refine Gx.drew ?_) | (with_reducible refine Gx.drewN ?_) | (with_reducible refine Gx.setRow ?_ (by simp)) | (with_reducible refine Gx.setCell ?_ (by simp)))), fun j hj => by
            rcases Nat.lt_or_ge j k with h | h
            · exact HA.out j h
            · obtain rfl : j = k := by omega
              exact HE.out⟩
          case measure => simp [intOf]; omega
        · have hbe : (gw D k == 255) = false := by simpa using he
          have hs := Lib.hid (stI_torn H0.out hlt he)
          clear he
          generalize gw D k = u at ck hbe
          go_wp2
          go_ret
          exact ⟨by rw [hs.out]; rfl, (by repeat (first | (with_reducible exact Gx.refl _) | (with_reducible assumption) | (with_reducible refine Gx.gx ?_) | (with_reducible refine Gx.alloc ?_) | (with_reducible refine Gx.drew ?_) | (with_reducible refine Gx.drewN ?_) | (with_reducible refine Gx.setRow ?_ (by simp)) | (with_reducible refine Gx.setCell ?_ (by simp))))⟩
      · obtain rfl : k = 97 := by omega
        have hs := Lib.hid (stI_free H0.out HA.out)
        go_wp2
        go_ret
        exact ⟨by rw [hs.out]; rfl, (by repeat (first | (with_reducible exact Gx.refl _) | (with_reducible assumption) | (with_reducible refine Gx.gx ?_) | (with_reducible refine Gx.alloc ?_) | (with_reducible refine Gx.drew ?_) | (with_reducible refine Gx.drewN ?_) | (with_reducible refine Gx.setRow ?_ (by simp)) | (with_reducible refine Gx.setCell ?_ (by simp))))⟩
end Go.Proofs.YthkccbeffonaaaaGreatDoor

/-
  The reference's helpers for writing: Place, with.
-/
namespace Go.Proofs.YthkccbeffonaaaaGreatDoor
open Go.RowKit
-- AT2

theorem size1 : (Tryz.prog.info? 5).map (·.size) = some 1 := by
  obtain ⟨i, h1, h2, _⟩ := infoByte0
  simp [h1, h2]
set_option maxRecDepth 100000 in
/-- Bytes copied into the call's own memory. -/
theorem copy_own {ops : Array Oper} {rest : List Oper} {o : Oper} {a : Act} {Q : Exit → Act → World → Prop} {W : World} (w : World) (C L : List Int) (g q dn dc : Nat) (A : Option Addr) (c' : Nat) (hg : o.guard = none) (s x : Operand)
    (hop : o.op = Op.call { callee := Callee.builtin Builtin.copy, args := #[s, x], argTypes := #[39, 39] }) (hs : a.eval s = .slice (some ⟨g, q, none⟩) dn dc) (hx : a.eval x = .slice A L.length c')
    (hA : At W g (.cells (bc C) 5 (0, 0))) (hW : ∃ x, W = gx w x) (hgw : w.heap.size ≤ g) (hd : L.length ≤ dn) (hC : q + L.length ≤ C.length) (h0 : 0 < L.length) (hH : HeldB L A L.length W)
    (h : ∀ W', (∃ x, W' = gx w x) → At W' g (.cells (bc (putAt C q L)) 5 (0, 0)) → wpList Tryz.prog ops Q rest (a.put o.dst (.int .i64 L.length)) W') :
    wpList Tryz.prog ops Q (o :: rest) a W := by
  refine wpList_plain hg fun K hK => ?_
  unfold HeldB at hH
  obtain ⟨b, off, rfl, hc⟩ := hH h0
  have hrun := run_copy_cells (P := Tryz.prog) W 39 39 o.type 5 g q dn dc ⟨b, off, none⟩ L.length c' (L.map (Value.int .u8)) Tryz.underlying39 size1 (by simp [Nat.min_eq_left hd]) (fun j v hj => by
      rw [List.getElem?_map] at hj
      obtain ⟨y, hy1, rfl⟩ := Option.map_eq_some_iff.1 hj
      obtain ⟨hj', e⟩ := List.getElem?_eq_some_iff.1 hy1
      rw [Addr.add_lit, hc j hj', ← e]
      simp [gw, List.getD, hj']) (fun j hj => by
      rw [List.length_map] at hj
      rw [cell_of_row W g _ _ _ _ hA, bc_get C _ (by omega)]; rfl) (fun j hj => frozen_of_row _ g _ _ _ hA) (fun u hu => by
      obtain ⟨y, _, rfl⟩ := List.mem_map.1 hu
      rfl)
  rw [setCells_row g L C q W hA] at hrun
  unfold Oper.wp
  simp [execOp, hop, resolve, invoke, builtin, hs, hx, hrun, Result.andThen, goInt]
  obtain ⟨y, rfl⟩ := hW
  exact hK _ _ (h _ (gx_row hgw) (At.row ⟨_, hA⟩))

/-- What with gives. -/
structure With (M L : List Int) (q : Nat) (C : List Int) : Prop where
  len : M.length ≤ C.length
  max : C.length ≤ maxLen
  at_ : ∀ j, j < M.length → gw C j = gw (putAt M q L) j

theorem nil_bs : Bs [] := lit_bs _ (by decide)
theorem with_key {M L C : List Int} {q : Nat} (h : q + L.length ≤ M.length) (hl : M.length ≤ C.length) (hm : C.length ≤ maxLen) (hC : ∀ j, j < M.length → gw C j = gw M j) : With M L q (putAt C q L) :=
  ⟨by rw [putAt_len]; exact hl, by rw [putAt_len]; exact hm, fun j hj => by
    rw [gw_putAt L C q j (by omega), gw_putAt L M q j h, hC j hj]⟩

end Go.Proofs.YthkccbeffonaaaaGreatDoor

/-
  FramePutMatchesSpec: the walk.
-/
namespace Go.Proofs.YthkccbeffonaaaaGreatDoor
open Go.RowKit
-- AT2

theorem HeldB.own_row {B : List Int} {g g2 n : Nat} {w : World} {cs : Array Value} {o : Nat} (h : HeldB B (some ⟨g2, o, none⟩) n w) (hne : g2 ≠ g) : HeldB B (some ⟨g2, o, none⟩) n (w.setRow g cs) := by
  unfold HeldB at *
  intro h0
  obtain ⟨b, o', e, hc⟩ := h h0
  obtain ⟨rfl, rfl⟩ : b = g2 ∧ o' = o := by simpa using (Option.some.inj e).symm
  refine ⟨b, o', rfl, fun j hj => ?_⟩
  rw [← hc j hj]
  simp only [World.cell?, setRow_other _ _ _ _ hne]
theorem Tab.own_row {w : World} {x : Ext} {g : Nat} {cs : Array Value} (h : Tab w) (hg : w.heap.size ≤ g) : Tab ((Go.Proofs.YthkccbeffonaaaaGreatDoor.gx w x).setRow g cs) := by
  obtain ⟨y, hy⟩ := gx_row (x := x) (cs := cs) hg
  rw [hy]
  exact h.gx y

theorem Gx.own_row {w W : World} {x : Ext} {g : Nat} {cs : Array Value} (hg : W.heap.size ≤ g) (h : ∀ y, ∃ x, Go.Proofs.YthkccbeffonaaaaGreatDoor.gx W y = Go.Proofs.YthkccbeffonaaaaGreatDoor.gx w x) : ∃ x', (Go.Proofs.YthkccbeffonaaaaGreatDoor.gx W x).setRow g cs = Go.Proofs.YthkccbeffonaaaaGreatDoor.gx w x' := by
  obtain ⟨y, hy⟩ := gx_row (x := x) (cs := cs) hg
  rw [hy]
  exact h y
/-- What Put leaves of the slice and of the bytes around it. -/
theorem put_around {M C F : List Int} {q : Nat} (hr : Around M C) (h : q + 96 ≤ M.length) :
    (∀ j, j < M.length → gw (wrF C (5 + q) F) (5 + j) = gw (putAt M q (packF F)) j) ∧ (∀ j, j < 5 → gw (wrF C (5 + q) F) j = gw [1, 2, 3, 4, 5] j) ∧ (∀ j, j < 7 → gw (wrF C (5 + q) F) (5 + M.length + j) = gw [9, 8, 7, 6, 5, 4, 3] j) := by
  have hq : 5 + q + 96 ≤ C.length := by have := hr.len; omega
  refine ⟨fun j hj => ?_, fun j hj => ?_, fun j hj => ?_⟩
  · rw [gw_wrF C (5 + q) F hq, gw_putAt (packF F) M q j (by rw [packF_len]; exact h), packF_len]
    by_cases c : q ≤ j ∧ j < q + 96
    · rw [if_pos (by omega), if_pos c, gw_packF F _ (by omega)]
      congr 1
      omega
    · rw [if_neg (by omega), if_neg c]
      exact hr.mid j hj
  · rw [gw_wrF C (5 + q) F hq, if_neg (by omega)]; exact hr.pre j hj
  · rw [gw_wrF C (5 + q) F hq, if_neg (by omega)]; exact hr.post j hj

theorem place_zero {n : Nat} {at_ k : Int} (h : placeE n at_ k = 0) : ∃ q : Nat, at_ = q ∧ (q : Int) + k ≤ n := by
  unfold placeE at h
  by_cases h0 : at_ < 0
  · rw [if_pos h0] at h; omega
  · rw [if_neg h0] at h
    by_cases h1 : (n : Int) - at_ < k
    · rw [if_pos h1] at h; omega
    · exact ⟨at_.toNat, by omega, by omega⟩
theorem bs_of {D : List Int} (h : ∀ n ∈ D, (Lit.int .u8 n).wf = true) : Bs D := fun k => by
  have := range_u8 h k
  unfold gw
  simpa [List.getD] using this
end Go.Proofs.YthkccbeffonaaaaGreatDoor
