/-
  Equality of slices of truths and of flaws, and of digests.
-/
import Derived.Test.YtemgjiajpgepiaaDoorRValues
import Derived.Test.YtemgjiajpgepiaaDoorLawMend
import Derived.Test.YtemgjiajpgepiaaDoorHash
namespace Go.Proofs.YtemgjiajpgepiaaDoor
open Go.RowKit
-- AT2

theorem bL_len (P : List Bool) : (bL P).length = P.length := by unfold bL; simp
theorem bL_get {P : List Bool} {j : Nat} (h : j < P.length) : (bL P)[j]? = some (.bool (gb P j)) := by
  unfold bL gb
  simp [List.getD, List.getElem?_eq_getElem h]
theorem shows_bools {P : List Bool} {A : Option Addr} {w : World} (h : Shows (bL P) A w) (h0 : 0 < P.length) : ∃ g o, A = some ⟨g, o, none⟩ ∧ ∀ j, j < P.length → w.cell? ⟨g, o + j, none⟩ = some (.bool (gb P j)) := by
  unfold Shows at h
  obtain ⟨g, o, e, hc⟩ := h (by rw [bL_len]; exact h0)
  exact ⟨g, o, e, fun j hj => hc j _ (bL_get hj)⟩
set_option maxHeartbeats 400000 in
set_option maxRecDepth 100000 in
theorem EqualT_same (D : List Bool) (n b o c b' o' c' : Nat) (hn : n ≤ 9223372036854775807) (w : World) (hc : ∀ j, j < n → w.cell? ⟨b, o + j, none⟩ = some (.bool (gb D j))) (hc' : ∀ j, j < n → w.cell? ⟨b', o' + j, none⟩ = some (.bool (gb D j))) :
    Calls Tryd.prog 33 #[.slice (some ⟨b, o, none⟩) n c, .slice (some ⟨b', o', none⟩) n c'] w fun e w' => e = .returned (.bool true) ∧ ∃ x, w' = gx w x := by
  have Hc := Lib.hid hc
  have Hc' := Lib.hid hc'
  clear hc hc'
  go_enter Tryd.func33, Tryd.ntmps33
  go_wp2
  go_loopw [13] (fun i wr => ∃ (k : Nat) (x : Ext), k ≤ n ∧ i = .int .i64 k ∧ wr = gx w x) (fun i _ => n - (intOf i).toNat)
  case atStart => exact ⟨0, _, Nat.zero_le _, rfl, (gx_none _).symm⟩
  case round =>
    obtain ⟨k, y, hk, rfl, rfl⟩ := hrel
    by_cases hlt : k < n
    · have c0 := Hc.out k hlt
      have c1 := Hc'.out k hlt
      have hbw : b < w.heap.size := World.block_lt_of_cell? w _ c0
      have hbw' : b' < w.heap.size := World.block_lt_of_cell? w _ c1
      generalize gb D k = q at *
      have hq : (q != q) = false := by cases q <;> rfl
      go_wp2
      first | (with_reducible refine region_gxx (by kernel_rfl) (by kernel_rfl) ?_) | (with_reducible refine region_gx (by kernel_rfl) (by kernel_rfl) ?_)
      repeat (any_goals (first | (refine quiet_fr rfl _ rfl _ rfl ?_ ?_ ?_ ?_; rotate_left; (focus (rintro _ ⟨x, rfl⟩; (focus (repeat (first | (with_reducible assumption) | (with_reducible exact At.new _ _) | (with_reducible refine At.row ?_) | (with_reducible refine At.app ?_) | (with_reducible refine At.tick ?_) | (with_reducible refine At.gx ?_) | ((with_reducible refine At.new' ?_); focus (simp; done)) | (with_reducible refine At.alloc ?_) | (with_reducible refine At.drew ?_) | (with_reducible exact Is.new _ _ _) | (with_reducible refine Is.row ?_) | (with_reducible refine Is.gx ?_) | ((with_reducible refine Is.new' ?_); focus (simp; done)) | (with_reducible refine Is.alloc ?_) | (with_reducible refine Is.drew ?_)))))); (focus (with_reducible (first | exact hl | exact hl1 | exact hl2 | exact hl3 | exact hl4 | exact zeroF_len)))) | go_big_quiet_step ((first | fail)) | quiet_step ((first | fail))))
      refine wpQuiet_nil ?_
      rintro _ ⟨x, rfl⟩
      go_wp2
      go_roundw
      case rel => exact ⟨k + 1, _, by omega, by go_num, rfl⟩
      case measure => simp [intOf]; omega
    · obtain rfl : k = n := by omega
      go_wp2
      go_ret
      exact ⟨rfl, (by repeat (first | (with_reducible exact Gx.refl _) | (with_reducible assumption) | (with_reducible refine Gx.gx ?_) | (with_reducible refine Gx.alloc ?_) | (with_reducible refine Gx.drew ?_) | (with_reducible refine Gx.drewN ?_) | (with_reducible refine Gx.setRow ?_ (by simp)) | (with_reducible refine Gx.setCell ?_ (by simp))))⟩
set_option maxHeartbeats 400000 in
set_option maxRecDepth 100000 in
theorem EqualT_none (A A' : Option Addr) (c c' : Nat) (w : World) :
    Calls Tryd.prog 33 #[.slice A 0 c, .slice A' 0 c'] w fun e w' => e = .returned (.bool true) ∧ ∃ x, w' = gx w x := by
  go_enter Tryd.func33, Tryd.ntmps33
  go_wp2
  go_loopw [13] (fun i wr => i = .int .i64 0 ∧ wr = w) (fun i _ => (intOf i).toNat)
  case atStart => exact ⟨rfl, rfl⟩
  case round =>
    obtain ⟨rfl, rfl⟩ := hrel
    go_wp2
    go_ret
    exact ⟨rfl, (by repeat (first | (with_reducible exact Gx.refl _) | (with_reducible assumption) | (with_reducible refine Gx.gx ?_) | (with_reducible refine Gx.alloc ?_) | (with_reducible refine Gx.drew ?_) | (with_reducible refine Gx.drewN ?_) | (with_reducible refine Gx.setRow ?_ (by simp)) | (with_reducible refine Gx.setCell ?_ (by simp))))⟩
theorem EqualT_shows (P : List Bool) (n : Nat) (hP : P.length = n) (hn : n ≤ 9223372036854775807) (A A' : Option Addr) (c c' : Nat) (w : World) (h : Shows (bL P) A w) (h' : Shows (bL P) A' w) :
    Calls Tryd.prog 33 #[.slice A n c, .slice A' n c'] w fun e w' => e = .returned (.bool true) ∧ ∃ x, w' = gx w x := by
  rcases Nat.eq_zero_or_pos n with rfl | h0
  · exact EqualT_none A A' c c' w
  · obtain ⟨g, o, rfl, hc⟩ := shows_bools h (by omega)
    obtain ⟨g', o', rfl, hc'⟩ := shows_bools h' (by omega)
    exact EqualT_same P n g o c g' o' c' hn w (fun j hj => hc j (by omega)) (fun j hj => hc' j (by omega))

/-- The place and the kind of a flaw. -/
def fA (P : List (Int × Int)) (j : Nat) : Int := (P.getD j (0, 0)).1
def fB (P : List (Int × Int)) (j : Nat) : Int := (P.getD j (0, 0)).2
theorem flC_cons (p : Int × Int) (P : List (Int × Int)) : flC (p :: P) = .int .i64 p.1 :: .int .i64 p.2 :: flC P := by unfold flC; rfl
theorem flC_get0 : ∀ {P : List (Int × Int)} {j : Nat}, j < P.length → (flC P)[j * 2]? = some (.int .i64 (fA P j))
  | p :: P, 0, _ => by rw [flC_cons]; rfl
  | p :: P, j + 1, h => by
    rw [flC_cons, show (j + 1) * 2 = j * 2 + 1 + 1 by omega, List.getElem?_cons_succ, List.getElem?_cons_succ, flC_get0 (by simpa using h)]
    rfl
theorem flC_get1 : ∀ {P : List (Int × Int)} {j : Nat}, j < P.length → (flC P)[j * 2 + 1]? = some (.int .i64 (fB P j))
  | p :: P, 0, _ => by rw [flC_cons]; rfl
  | p :: P, j + 1, h => by
    rw [flC_cons, show (j + 1) * 2 + 1 = j * 2 + 1 + 1 + 1 by omega, List.getElem?_cons_succ, List.getElem?_cons_succ, flC_get1 (by simpa using h)]
    rfl
theorem shows_flaws {P : List (Int × Int)} {A : Option Addr} {w : World} (h : Shows (flC P) A w) (h0 : 0 < P.length) : ∃ g o, A = some ⟨g, o, none⟩ ∧ (∀ j, j < P.length → w.cell? ⟨g, o + j * 2, none⟩ = some (.int .i64 (fA P j))) ∧ ∀ j, j < P.length → w.cell? ⟨g, o + j * 2 + 1, none⟩ = some (.int .i64 (fB P j)) := by
  unfold Shows at h
  obtain ⟨g, o, e, hc⟩ := h (by rw [flC_len]; omega)
  exact ⟨g, o, e, fun j hj => hc _ _ (flC_get0 hj), fun j hj => hc _ _ (flC_get1 hj)⟩
set_option maxHeartbeats 400000 in
set_option maxRecDepth 100000 in
theorem EqualF_same (D : List (Int × Int)) (n b o c b' o' c' : Nat) (hn : n ≤ 9223372036854775807) (w : World) (hc : ∀ j, j < n → w.cell? ⟨b, o + j * 2, none⟩ = some (.int .i64 (fA D j))) (hd : ∀ j, j < n → w.cell? ⟨b, o + j * 2 + 1, none⟩ = some (.int .i64 (fB D j))) (hc' : ∀ j, j < n → w.cell? ⟨b', o' + j * 2, none⟩ = some (.int .i64 (fA D j))) (hd' : ∀ j, j < n → w.cell? ⟨b', o' + j * 2 + 1, none⟩ = some (.int .i64 (fB D j))) :
    Calls Tryd.prog 34 #[.slice (some ⟨b, o, none⟩) n c, .slice (some ⟨b', o', none⟩) n c'] w fun e w' => e = .returned (.bool true) ∧ ∃ x, w' = gx w x := by
  have Hc := Lib.hid hc
  have Hc' := Lib.hid hc'
  have Hd := Lib.hid hd
  have Hd' := Lib.hid hd'
  clear hc hc' hd hd'
  go_enter Tryd.func34, Tryd.ntmps34
  go_wp2
  go_loopw [13] (fun i wr => ∃ (k : Nat) (x : Ext), k ≤ n ∧ i = .int .i64 k ∧ wr = gx w x) (fun i _ => n - (intOf i).toNat)
  case atStart => exact ⟨0, _, Nat.zero_le _, rfl, (gx_none _).symm⟩
  case round =>
    obtain ⟨k, y, hk, rfl, rfl⟩ := hrel
    by_cases hlt : k < n
    · have c0 := Hc.out k hlt
      have c1 := Hc'.out k hlt
      have d0 := Hd.out k hlt
      have d1 := Hd'.out k hlt
      have hbw : b < w.heap.size := World.block_lt_of_cell? w _ c0
      have hbw' : b' < w.heap.size := World.block_lt_of_cell? w _ c1
      generalize fA D k = q at *
      generalize fB D k = r at *
      go_wp2
      first | (with_reducible refine region_gxx (by kernel_rfl) (by kernel_rfl) ?_) | (with_reducible refine region_gx (by kernel_rfl) (by kernel_rfl) ?_)
      repeat (any_goals (first | (refine quiet_fr rfl _ rfl _ rfl ?_ ?_ ?_ ?_; rotate_left; (focus (rintro _ ⟨x, rfl⟩; (focus (repeat (first | (with_reducible assumption) | (with_reducible exact At.new _ _) | (with_reducible refine At.row ?_) | (with_reducible refine At.app ?_) | (with_reducible refine At.tick ?_) | (with_reducible refine At.gx ?_) | ((with_reducible refine At.new' ?_); focus (simp; done)) | (with_reducible refine At.alloc ?_) | (with_reducible refine At.drew ?_) | (with_reducible exact Is.new _ _ _) | (with_reducible refine Is.row ?_) | (with_reducible refine Is.gx ?_) | ((with_reducible refine Is.new' ?_); focus (simp; done)) | (with_reducible refine Is.alloc ?_) | (with_reducible refine Is.drew ?_)))))); (focus (with_reducible (first | exact hl | exact hl1 | exact hl2 | exact hl3 | exact hl4 | exact zeroF_len)))) | go_big_quiet_step ((first | fail)) | quiet_step ((first | fail))))
      refine wpQuiet_nil ?_
      rintro _ ⟨x, rfl⟩
      go_wp2
      go_roundw
      case rel => exact ⟨k + 1, _, by omega, by go_num, rfl⟩
      case measure => simp [intOf]; omega
    · obtain rfl : k = n := by omega
      go_wp2
      go_ret
      exact ⟨rfl, (by repeat (first | (with_reducible exact Gx.refl _) | (with_reducible assumption) | (with_reducible refine Gx.gx ?_) | (with_reducible refine Gx.alloc ?_) | (with_reducible refine Gx.drew ?_) | (with_reducible refine Gx.drewN ?_) | (with_reducible refine Gx.setRow ?_ (by simp)) | (with_reducible refine Gx.setCell ?_ (by simp))))⟩
set_option maxHeartbeats 400000 in
set_option maxRecDepth 100000 in
theorem EqualF_none (A A' : Option Addr) (c c' : Nat) (w : World) :
    Calls Tryd.prog 34 #[.slice A 0 c, .slice A' 0 c'] w fun e w' => e = .returned (.bool true) ∧ ∃ x, w' = gx w x := by
  go_enter Tryd.func34, Tryd.ntmps34
  go_wp2
  go_loopw [13] (fun i wr => i = .int .i64 0 ∧ wr = w) (fun i _ => (intOf i).toNat)
  case atStart => exact ⟨rfl, rfl⟩
  case round =>
    obtain ⟨rfl, rfl⟩ := hrel
    go_wp2
    go_ret
    exact ⟨rfl, (by repeat (first | (with_reducible exact Gx.refl _) | (with_reducible assumption) | (with_reducible refine Gx.gx ?_) | (with_reducible refine Gx.alloc ?_) | (with_reducible refine Gx.drew ?_) | (with_reducible refine Gx.drewN ?_) | (with_reducible refine Gx.setRow ?_ (by simp)) | (with_reducible refine Gx.setCell ?_ (by simp))))⟩
theorem EqualF_shows (P : List (Int × Int)) (n : Nat) (hP : P.length = n) (hn : n ≤ 9223372036854775807) (A A' : Option Addr) (c c' : Nat) (w : World) (h : Shows (flC P) A w) (h' : Shows (flC P) A' w) :
    Calls Tryd.prog 34 #[.slice A n c, .slice A' n c'] w fun e w' => e = .returned (.bool true) ∧ ∃ x, w' = gx w x := by
  rcases Nat.eq_zero_or_pos n with rfl | h0
  · exact EqualF_none A A' c c' w
  · obtain ⟨g, o, rfl, hc, hd⟩ := shows_flaws h (by omega)
    obtain ⟨g', o', rfl, hc', hd'⟩ := shows_flaws h' (by omega)
    exact EqualF_same P n g o c g' o' c' hn w (fun j hj => hc j (by omega)) (fun j hj => hd j (by omega)) (fun j hj => hc' j (by omega)) (fun j hj => hd' j (by omega))
end Go.Proofs.YtemgjiajpgepiaaDoor
