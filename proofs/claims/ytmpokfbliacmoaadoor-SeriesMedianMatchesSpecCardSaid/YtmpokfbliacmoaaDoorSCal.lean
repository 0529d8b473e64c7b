/-
  CheckCalibration, the program's and the reference's: contracts.
-/
import Derived.Test.YtmpokfbliacmoaaDoorSLeaf
namespace Go.Proofs.YtmpokfbliacmoaaDoor
open Go.RowKit
-- AT2

/-- The lines g 0 .. g (n - 1) lie at A. -/
@[irreducible] def LnAt (w : World) (g : Nat → Ln) (n : Nat) (A : Option Addr) : Prop := 0 < n → ∃ b o, A = some ⟨b, o, none⟩ ∧ ∀ k, k < n → w.cell? ⟨b, o + k * 4, none⟩ = some (.int .i64 (g k).f) ∧ w.cell? ⟨b, o + k * 4 + 1, none⟩ = some (.int .i64 (g k).t) ∧ w.cell? ⟨b, o + k * 4 + 2, none⟩ = some (.int .i64 (g k).a) ∧ w.cell? ⟨b, o + k * 4 + 3, none⟩ = some (.int .i64 (g k).b)
theorem LnAt.get {w : World} {g : Nat → Ln} {n : Nat} {A : Option Addr} (h : LnAt w g n A) (h0 : 0 < n) : ∃ b o, A = some ⟨b, o, none⟩ ∧ b < w.heap.size ∧ Hid (∀ k, k < n → w.cell? ⟨b, o + k * 4, none⟩ = some (.int .i64 (g k).f) ∧ w.cell? ⟨b, o + k * 4 + 1, none⟩ = some (.int .i64 (g k).t) ∧ w.cell? ⟨b, o + k * 4 + 2, none⟩ = some (.int .i64 (g k).a) ∧ w.cell? ⟨b, o + k * 4 + 3, none⟩ = some (.int .i64 (g k).b)) := by
  unfold LnAt at h
  obtain ⟨b, o, e, hc⟩ := h h0
  exact ⟨b, o, e, World.block_lt_of_cell? w _ (hc 0 h0).1, Lib.hid hc⟩
theorem LnAt.gx {w : World} {g : Nat → Ln} {n : Nat} {A : Option Addr} {x : Ext} (h : LnAt w g n A) : LnAt (gx w x) g n A := by
  unfold LnAt at *
  intro h0
  obtain ⟨b, o, e, hc⟩ := h h0
  refine ⟨b, o, e, fun k hk => ?_⟩
  obtain ⟨c1, c2, c3, c4⟩ := hc k hk
  exact ⟨cell_keep_gx c1, cell_keep_gx c2, cell_keep_gx c3, cell_keep_gx c4⟩

theorem bad1_line {g : Nat → Ln} {i : Nat} (h : ¬ lnOk (g i)) : bad1 g i = 9 := by unfold bad1; rw [if_pos h]
theorem bad1_order {g : Nat → Ln} {i : Nat} (h : lnOk (g i)) (h0 : 0 < i) (h' : (g i).f ≤ (g (i - 1)).t) : bad1 g i = 10 := by unfold bad1; rw [if_neg (fun h2 => h2 h), if_pos ⟨h0, h'⟩]
theorem bad1_ok {g : Nat → Ln} {i : Nat} (h : lnOk (g i)) (h' : ¬ (0 < i ∧ (g i).f ≤ (g (i - 1)).t)) : bad1 g i = 0 := by unfold bad1; rw [if_neg (fun h2 => h2 h), if_neg h']
theorem bad2_ok {g : Nat → Ln} {i : Nat} (h : isN ((g i).a * (g i).f + (g i).b) ∧ isN ((g i).a * (g i).t + (g i).b)) : bad2 g i = 0 := by unfold bad2; rw [if_pos h]
theorem bad2_no {g : Nat → Ln} {i : Nat} (h : ¬ (isN ((g i).a * (g i).f + (g i).b) ∧ isN ((g i).a * (g i).t + (g i).b))) : bad2 g i = 9 := by unfold bad2; rw [if_neg h]
theorem lnsE_1 {g : Nat → Ln} {n : Nat} {e : Int} (h : firstOf (bad1 g) n = e) (h0 : e ≠ 0) : lnsE g n = e := by unfold lnsE; rw [if_neg (by omega)]; exact h
theorem lnsE_2 {g : Nat → Ln} {n : Nat} (h : firstOf (bad1 g) n = 0) : lnsE g n = firstOf (bad2 g) n := by unfold lnsE; rw [if_pos h]

end Go.Proofs.YtmpokfbliacmoaaDoor
