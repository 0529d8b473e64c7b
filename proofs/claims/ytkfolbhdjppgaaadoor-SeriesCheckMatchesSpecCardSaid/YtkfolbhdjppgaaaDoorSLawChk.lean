/-
  The law SeriesCheckMatchesSpec, walked.
-/
import Derived.Test.YtkfolbhdjppgaaaDoorSEqA
import Derived.Test.YtkfolbhdjppgaaaDoorSRPart
import Derived.Test.YtkfolbhdjppgaaaDoorSRRange
import Derived.Test.YtkfolbhdjppgaaaDoorSLawCalb
namespace Go.Proofs.YtkfolbhdjppgaaaDoor
open Go.RowKit
-- AT2
-- AT3

set_option maxHeartbeats 8000000 in
set_option maxRecDepth 100000 in
theorem chkLaw_core (S : Value) (den : Int) (A : Option Addr) (n c : Nat) (hS : S = serV den A n c) (fr to : Int) (w : World) (ma mb mc md me e0 ra rb re : Int) (d' er : Int) (n' : Nat) (f : Nat → Sm) (T : ByteArray)
    (M1 : Hid (∀ W, (∃ x, W = gx w x) → Calls Tryd.prog 10 #[S] W fun e W' => e = .returned (.tuple #[.agg #[.int .i64 ma, .int .i64 mb, .int .i64 mc, .int .i64 md, .int .i64 me], .int .i64 e0]) ∧ ∃ x, W' = gx W x))
    (M2 : Hid (∀ W, (∃ x, W = gx w x) → Calls Tryd.prog 11 #[S] W fun e W' => e = .returned (.tuple #[.agg #[.int .i64 ma, .int .i64 mb, .int .i64 mc, .int .i64 md, .int .i64 me], .int .i64 e0]) ∧ ∃ x, W' = gx W x))
    (C1 : Hid (∀ W, (∃ x, W = gx w x) → Calls Tryd.prog 12 #[S] W fun e W' => e = .returned (.int .i64 e0) ∧ ∃ x, W' = gx W x))
    (C2 : Hid (∀ W, (∃ x, W = gx w x) → Calls Tryd.prog 13 #[S] W fun e W' => e = .returned (.int .i64 e0) ∧ ∃ x, W' = gx W x))
    (R1 : Hid (∀ W, (∃ x, W = gx w x) → Calls Tryd.prog 14 #[S] W fun e W' => e = .returned (.tuple #[.int .i64 ra, .int .i64 rb, .int .i64 re]) ∧ ∃ x, W' = gx W x))
    (R2 : Hid (∀ W, (∃ x, W = gx w x) → Calls Tryd.prog 15 #[S] W fun e W' => e = .returned (.tuple #[.int .i64 ra, .int .i64 rb, .int .i64 re]) ∧ ∃ x, W' = gx W x))
    (H1 : Hid (∀ W, (∃ x, W = gx w x) → Calls Tryd.prog 17 #[S, .int .i64 fr, .int .i64 to] W (SerPost W d' f n' er)))
    (H2 : Hid (∀ W, (∃ x, W = gx w x) → Calls Tryd.prog 18 #[S, .int .i64 fr, .int .i64 to] W (SerPost W d' f n' er)))
    (H3 : Hid (∀ W A' c', SmAt W f n' A' → (∃ x, W = gx w x) → Calls Tryd.prog 16 #[serV d' A' n' c', .int .i64 er] W fun e W' => e = .returned (.string T) ∧ ∃ x, W' = gx W x)) :
    Calls Tryd.prog 3 #[S, .int .i64 fr, .int .i64 to] w fun e w' => e = .returned (.bool true) ∧ ∃ x, w' = gx w x := by
  subst hS
  go_enter Tryd.func3, Tryd.ntmps3
  go_wp2_with first
    | (go_at_call 10; refine (M1.out _ (by repeat (first | (with_reducible exact Gx.refl _) | (with_reducible assumption) | (with_reducible refine Gx.gx ?_) | (with_reducible refine Gx.alloc ?_) | (with_reducible refine Gx.drew ?_) | (with_reducible refine Gx.drewN ?_) | (with_reducible refine Gx.setRow ?_ (by first | omega | (simp; done) | (simp <;> omega))) | (with_reducible refine Gx.setCell ?_ (by first | omega | (simp; done) | (simp <;> omega)))))).mono ?_; rintro e w' ⟨rfl, x1, rfl⟩)
    | (go_at_call 11; refine (M2.out _ (by repeat (first | (with_reducible exact Gx.refl _) | (with_reducible assumption) | (with_reducible refine Gx.gx ?_) | (with_reducible refine Gx.alloc ?_) | (with_reducible refine Gx.drew ?_) | (with_reducible refine Gx.drewN ?_) | (with_reducible refine Gx.setRow ?_ (by first | omega | (simp; done) | (simp <;> omega))) | (with_reducible refine Gx.setCell ?_ (by first | omega | (simp; done) | (simp <;> omega)))))).mono ?_; rintro e w' ⟨rfl, x2, rfl⟩)
  obtain ⟨W3, hW3⟩ : ∃ W3, W3 = (gx ((gx (w.alloc (.cells #[.int .i64 den, .slice A n c] 24)) x1).alloc (.cells #[.int .i64 ma, .int .i64 mb, .int .i64 mc, .int .i64 md, .int .i64 me] 25)) x2).alloc (.cells #[.int .i64 ma, .int .i64 mb, .int .i64 mc, .int .i64 md, .int .i64 me] 25) := ⟨_, rfl⟩
  rw [← hW3]
  obtain ⟨g1, hg1⟩ : ∃ g1, g1 = w.heap.size + 1 + x1.n := ⟨_, rfl⟩
  obtain ⟨g2, hg2⟩ : ∃ g2, g2 = g1 + 1 + x2.n := ⟨_, rfl⟩
  rw [← hg1, ← hg2]
  have G3 : ∃ x, W3 = gx w x := by rw [hW3]; exact (by repeat (first | (with_reducible exact Gx.refl _) | (with_reducible assumption) | (with_reducible refine Gx.gx ?_) | (with_reducible refine Gx.alloc ?_) | (with_reducible refine Gx.drew ?_) | (with_reducible refine Gx.drewN ?_) | (with_reducible refine Gx.setRow ?_ (by first | omega | (simp; done) | (simp <;> omega))) | (with_reducible refine Gx.setCell ?_ (by first | omega | (simp; done) | (simp <;> omega)))))
  have S3 : At W3 w.heap.size (.cells #[.int .i64 den, .slice A n c] 24 (0, 0)) := by rw [hW3]; (focus (repeat (first | (with_reducible assumption) | (with_reducible exact At.new _ _) | (with_reducible refine At.row ?_) | ((with_reducible refine At.row_other ?_ ?_); rotate_left; (focus (simp <;> omega))) | (with_reducible refine At.app ?_) | (with_reducible refine At.tick ?_) | (with_reducible refine At.gx ?_) | ((with_reducible refine At.new' ?_); focus (simp; done)) | (with_reducible refine At.alloc ?_) | (with_reducible refine At.drew ?_) | (with_reducible exact Is.new _ _ _) | (with_reducible refine Is.row ?_) | ((with_reducible refine Is.row_other ?_ ?_); rotate_left; (focus (simp <;> omega))) | (with_reducible refine Is.gx ?_) | ((with_reducible refine Is.new' ?_); focus (simp; done)) | (with_reducible refine Is.alloc ?_) | (with_reducible refine Is.drew ?_))))
  have N1 : At W3 g1 (.cells #[.int .i64 ma, .int .i64 mb, .int .i64 mc, .int .i64 md, .int .i64 me] 25 (0, 0)) := by
    rw [hW3, hg1]
    refine At.alloc (At.gx (At.new' ?_))
    simp
  have N2 : At W3 g2 (.cells #[.int .i64 ma, .int .i64 mb, .int .i64 mc, .int .i64 md, .int .i64 me] 25 (0, 0)) := by
    rw [hW3, hg2, hg1]
    refine At.new' ?_
    simp
  clear hW3 hg1 hg2
  have l3 : w.heap.size < W3.heap.size := S3.lt
  have s0 : W3.cell? ⟨w.heap.size, 0, none⟩ = some (.int .i64 den) := by rw [cell_of_row W3 _ _ _ _ _ S3]; rfl
  have s1 : W3.cell? ⟨w.heap.size, 1, none⟩ = some (.slice A n c) := by rw [cell_of_row W3 _ _ _ _ _ S3]; rfl
  have p0 : W3.cell? ⟨g1, 0, none⟩ = some (.int .i64 ma) := by rw [cell_of_row W3 _ _ _ _ _ N1]; rfl
  have q0 : W3.cell? ⟨g2, 0, none⟩ = some (.int .i64 ma) := by rw [cell_of_row W3 _ _ _ _ _ N2]; rfl
  have p1 : W3.cell? ⟨g1, 1, none⟩ = some (.int .i64 mb) := by rw [cell_of_row W3 _ _ _ _ _ N1]; rfl
  have q1 : W3.cell? ⟨g2, 1, none⟩ = some (.int .i64 mb) := by rw [cell_of_row W3 _ _ _ _ _ N2]; rfl
  have p2 : W3.cell? ⟨g1, 2, none⟩ = some (.int .i64 mc) := by rw [cell_of_row W3 _ _ _ _ _ N1]; rfl
  have q2 : W3.cell? ⟨g2, 2, none⟩ = some (.int .i64 mc) := by rw [cell_of_row W3 _ _ _ _ _ N2]; rfl
  have p3 : W3.cell? ⟨g1, 3, none⟩ = some (.int .i64 md) := by rw [cell_of_row W3 _ _ _ _ _ N1]; rfl
  have q3 : W3.cell? ⟨g2, 3, none⟩ = some (.int .i64 md) := by rw [cell_of_row W3 _ _ _ _ _ N2]; rfl
  have p4 : W3.cell? ⟨g1, 4, none⟩ = some (.int .i64 me) := by rw [cell_of_row W3 _ _ _ _ _ N1]; rfl
  have q4 : W3.cell? ⟨g2, 4, none⟩ = some (.int .i64 me) := by rw [cell_of_row W3 _ _ _ _ _ N2]; rfl
  go_region_held3 (fun W => (∃ x, W = gx w x) ∧ W.cell? ⟨w.heap.size, 0, none⟩ = some (.int .i64 den) ∧ W.cell? ⟨w.heap.size, 1, none⟩ = some (.slice A n c) ∧ W.cell? ⟨g1, 0, none⟩ = some (.int .i64 ma) ∧ W.cell? ⟨g2, 0, none⟩ = some (.int .i64 ma) ∧ W.cell? ⟨g1, 1, none⟩ = some (.int .i64 mb) ∧ W.cell? ⟨g2, 1, none⟩ = some (.int .i64 mb) ∧ W.cell? ⟨g1, 2, none⟩ = some (.int .i64 mc) ∧ W.cell? ⟨g2, 2, none⟩ = some (.int .i64 mc) ∧ W.cell? ⟨g1, 3, none⟩ = some (.int .i64 md) ∧ W.cell? ⟨g2, 3, none⟩ = some (.int .i64 md) ∧ W.cell? ⟨g1, 4, none⟩ = some (.int .i64 me) ∧ W.cell? ⟨g2, 4, none⟩ = some (.int .i64 me))
    (refine ⟨(by repeat (first | (with_reducible exact Gx.refl _) | (with_reducible assumption) | (with_reducible refine Gx.gx ?_) | (with_reducible refine Gx.alloc ?_) | (with_reducible refine Gx.drew ?_) | (with_reducible refine Gx.drewN ?_) | (with_reducible refine Gx.setRow ?_ (by first | omega | (simp; done) | (simp <;> omega))) | (with_reducible refine Gx.setCell ?_ (by first | omega | (simp; done) | (simp <;> omega))))), ?_, ?_, ?_, ?_, ?_, ?_, ?_, ?_, ?_, ?_, ?_, ?_⟩ <;> first | assumption | exact cell_keep_gx ‹_› | go_keep | (simp [go_sem]; done))
    (first
    | (go_at_call 12; refine (C1.out _ (by repeat (first | (with_reducible exact Gx.refl _) | (with_reducible assumption) | (with_reducible refine Gx.gx ?_) | (with_reducible refine Gx.alloc ?_) | (with_reducible refine Gx.drew ?_) | (with_reducible refine Gx.drewN ?_) | (with_reducible refine Gx.setRow ?_ (by first | omega | (simp; done) | (simp <;> omega))) | (with_reducible refine Gx.setCell ?_ (by first | omega | (simp; done) | (simp <;> omega)))))).mono ?_; rintro e W1 ⟨rfl, x3, rfl⟩)
    | (go_at_call 13; refine (C2.out _ (by repeat (first | (with_reducible exact Gx.refl _) | (with_reducible assumption) | (with_reducible refine Gx.gx ?_) | (with_reducible refine Gx.alloc ?_) | (with_reducible refine Gx.drew ?_) | (with_reducible refine Gx.drewN ?_) | (with_reducible refine Gx.setRow ?_ (by first | omega | (simp; done) | (simp <;> omega))) | (with_reducible refine Gx.setCell ?_ (by first | omega | (simp; done) | (simp <;> omega)))))).mono ?_; rintro e W1 ⟨rfl, x4, rfl⟩))
  go_wp2_with first
    | (go_at_call 14; refine (R1.out _ (by repeat (first | (with_reducible exact Gx.refl _) | (with_reducible assumption) | (with_reducible refine Gx.gx ?_) | (with_reducible refine Gx.alloc ?_) | (with_reducible refine Gx.drew ?_) | (with_reducible refine Gx.drewN ?_) | (with_reducible refine Gx.setRow ?_ (by first | omega | (simp; done) | (simp <;> omega))) | (with_reducible refine Gx.setCell ?_ (by first | omega | (simp; done) | (simp <;> omega)))))).mono ?_; rintro e w' ⟨rfl, y1, rfl⟩)
    | (go_at_call 15; refine (R2.out _ (by repeat (first | (with_reducible exact Gx.refl _) | (with_reducible assumption) | (with_reducible refine Gx.gx ?_) | (with_reducible refine Gx.alloc ?_) | (with_reducible refine Gx.drew ?_) | (with_reducible refine Gx.drewN ?_) | (with_reducible refine Gx.setRow ?_ (by first | omega | (simp; done) | (simp <;> omega))) | (with_reducible refine Gx.setCell ?_ (by first | omega | (simp; done) | (simp <;> omega)))))).mono ?_; rintro e w' ⟨rfl, y2, rfl⟩)
  go_region_held3 (fun W => (∃ x, W = gx w x) ∧ W.cell? ⟨w.heap.size, 0, none⟩ = some (.int .i64 den) ∧ W.cell? ⟨w.heap.size, 1, none⟩ = some (.slice A n c))
    (refine ⟨(by repeat (first | (with_reducible exact Gx.refl _) | (with_reducible assumption) | (with_reducible refine Gx.gx ?_) | (with_reducible refine Gx.alloc ?_) | (with_reducible refine Gx.drew ?_) | (with_reducible refine Gx.drewN ?_) | (with_reducible refine Gx.setRow ?_ (by first | omega | (simp; done) | (simp <;> omega))) | (with_reducible refine Gx.setCell ?_ (by first | omega | (simp; done) | (simp <;> omega))))), ?_, ?_⟩ <;> first | assumption | exact cell_keep_gx ‹_› | exact cell_keep_gx s0 | exact cell_keep_gx s1 | go_keep | (simp [go_sem]; done))
    (first
    | (go_at_call 17; refine (H1.out _ (by repeat (first | (with_reducible exact Gx.refl _) | (with_reducible assumption) | (with_reducible refine Gx.gx ?_) | (with_reducible refine Gx.alloc ?_) | (with_reducible refine Gx.drew ?_) | (with_reducible refine Gx.drewN ?_) | (with_reducible refine Gx.setRow ?_ (by first | omega | (simp; done) | (simp <;> omega))) | (with_reducible refine Gx.setCell ?_ (by first | omega | (simp; done) | (simp <;> omega)))))).mono ?_; rintro e W1 ⟨A1, c1, v1, rfl, rfl, hs1⟩)
    | (go_at_call 18; refine (H2.out _ (by repeat (first | (with_reducible exact Gx.refl _) | (with_reducible assumption) | (with_reducible refine Gx.gx ?_) | (with_reducible refine Gx.alloc ?_) | (with_reducible refine Gx.drew ?_) | (with_reducible refine Gx.drewN ?_) | (with_reducible refine Gx.setRow ?_ (by first | omega | (simp; done) | (simp <;> omega))) | (with_reducible refine Gx.setCell ?_ (by first | omega | (simp; done) | (simp <;> omega)))))).mono ?_; rintro e W1 ⟨A2, c2, v2, rfl, rfl, hs2⟩)
    | (go_at_call 16; refine (H3.out _ _ _ (by first | assumption | (rw [← gx_gx]; assumption) | (simp only [gx_gx, gx_drew, drew_gx] at *; assumption)) (by repeat (first | (with_reducible exact Gx.refl _) | (with_reducible assumption) | (with_reducible refine Gx.gx ?_) | (with_reducible refine Gx.alloc ?_) | (with_reducible refine Gx.drew ?_) | (with_reducible refine Gx.drewN ?_) | (with_reducible refine Gx.setRow ?_ (by first | omega | (simp; done) | (simp <;> omega))) | (with_reducible refine Gx.setCell ?_ (by first | omega | (simp; done) | (simp <;> omega)))))).mono ?_; rintro e w' ⟨rfl, v3, rfl⟩)
    | (go_at_call 19; refine (holds_any _).mono ?_; rintro e w' ⟨rfl, v4, rfl⟩))
  all_goals go_wp2
  all_goals go_ret
  all_goals exact ⟨rfl, (by repeat (first | (with_reducible exact Gx.refl _) | (with_reducible assumption) | (with_reducible refine Gx.gx ?_) | (with_reducible refine Gx.alloc ?_) | (with_reducible refine Gx.drew ?_) | (with_reducible refine Gx.drewN ?_) | (with_reducible refine Gx.setRow ?_ (by first | omega | (simp; done) | (simp <;> omega))) | (with_reducible refine Gx.setCell ?_ (by first | omega | (simp; done) | (simp <;> omega)))))⟩
end Go.Proofs.YtkfolbhdjppgaaaDoor
