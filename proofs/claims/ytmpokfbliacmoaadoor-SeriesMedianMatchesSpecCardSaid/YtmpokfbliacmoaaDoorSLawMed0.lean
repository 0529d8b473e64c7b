/-
  The law of Median: its walk.
-/
import Derived.Test.YtmpokfbliacmoaaDoorSMedE
import Derived.Test.YtmpokfbliacmoaaDoorSTold
import Derived.Test.YtmpokfbliacmoaaDoorSHolds
import Derived.Deep.RegionHeld3
namespace Go.Proofs.YtmpokfbliacmoaaDoor
open Go.RowKit
-- AT2
-- AT3

theorem gxT {w Wa W : World} (h1 : ∃ x, Wa = gx w x) (h2 : ∃ x, W = gx Wa x) : ∃ x, W = gx w x := by
  obtain ⟨x, rfl⟩ := h1; obtain ⟨y, rfl⟩ := h2; exact ⟨_, gx_gx ..⟩
set_option maxHeartbeats 4000000 in
set_option maxRecDepth 100000 in
theorem medLaw_core (S : Value) (den : Int) (A : Option Addr) (n c : Nat) (hS : S = serV den A n c) (wd : Int) (w : World) (D er : Int) (N : Nat) (f : Nat → Sm) (T : ByteArray) (P Q R P2 Q2 : Int) (hc : er = 0 → R = 0 → P ≤ P2 ∧ Q2 ≤ Q)
    (H1 : Hid (∀ W, (∃ x, W = gx w x) → Calls Tryd.prog 4 #[S, .int .i64 wd] W (SerPost W D f N er)))
    (H2 : Hid (∀ W, (∃ x, W = gx w x) → Calls Tryd.prog 6 #[S, .int .i64 wd] W (SerPost W D f N er)))
    (H3 : Hid (∀ W A' c', SmAt W f N A' → (∃ x, W = gx w x) → Calls Tryd.prog 5 #[serV D A' N c', .int .i64 er] W fun e W' => e = .returned (.string T) ∧ ∃ x, W' = gx W x))
    (H4 : Hid (∀ W, (∃ x, W = gx w x) → Calls Tryd.prog 7 #[S] W fun e w' => e = .returned (.tuple #[.int .i64 P, .int .i64 Q, .int .i64 R]) ∧ ∃ x, w' = gx W x))
    (H5 : Hid (er = 0 → ∀ W A' c', SmAt W f N A' → (∃ x, W = gx w x) → Calls Tryd.prog 7 #[serV D A' N c'] W fun e w' => e = .returned (.tuple #[.int .i64 P2, .int .i64 Q2, .int .i64 R]) ∧ ∃ x, w' = gx W x)) :
    Calls Tryd.prog 3 #[S, .int .i64 wd] w fun e w' => e = .returned (.bool true) ∧ ∃ x, w' = gx w x := by
  subst hS
  have hcase : (er = 0 ∧ R = 0) ∨ (er = 0 ∧ R ≠ 0) ∨ er ≠ 0 := by omega
  rcases hcase with ⟨r1, r2⟩ | ⟨r1, r2⟩ | r1
  · have k1 : decide (P2 < P) = false := decide_eq_false (by have := hc r1 r2; omega)
    have k2 : decide (Q < Q2) = false := decide_eq_false (by have := hc r1 r2; omega)
    have k3 : decide (R = 0) = true := decide_eq_true r2
    have k4 : decide (er = 0) = true := decide_eq_true r1
    have H6 := Lib.hid (H5.out r1)
    have R1 := Lib.hid r1
    have R2 := Lib.hid r2
    clear hc H5 r1 r2
    go_enter Tryd.func3, Tryd.ntmps3
    go_wp2_with (go_at_call 4; refine (H1.out _ (by repeat (first | (with_reducible exact Gx.refl _) | (with_reducible assumption) | (with_reducible refine Gx.gx ?_) | (with_reducible refine Gx.alloc ?_) | (with_reducible refine Gx.drew ?_) | (with_reducible refine Gx.drewN ?_) | (with_reducible refine Gx.setRow ?_ (by first | omega | (simp; done) | (simp <;> omega))) | (with_reducible refine Gx.setCell ?_ (by first | omega | (simp; done) | (simp <;> omega)))))).mono ?_; rintro e W1 ⟨A1, c1, x1, rfl, rfl, hs1⟩)
    have hs2 : SmAt (((gx (w.alloc (.cells #[.int .i64 den, .slice A n c] 24)) x1)).alloc (.cells #[.int .i64 D, .slice A1 N c1] 24)) f N A1 := by first | exact hs1.alloc | (simp only [gx_gx] at *; exact hs1.alloc)
    obtain ⟨Wa, hWa⟩ : ∃ Wa, Wa = (gx (w.alloc (.cells #[.int .i64 den, .slice A n c] 24)) x1).alloc (.cells #[.int .i64 D, .slice A1 N c1] 24) := ⟨_, rfl⟩
    rw [← hWa] at hs2 ⊢
    have Ga : ∃ x, Wa = gx w x := by rw [hWa]; exact (by repeat (first | (with_reducible exact Gx.refl _) | (with_reducible assumption) | (with_reducible refine Gx.gx ?_) | (with_reducible refine Gx.alloc ?_) | (with_reducible refine Gx.drew ?_) | (with_reducible refine Gx.drewN ?_) | (with_reducible refine Gx.setRow ?_ (by first | omega | (simp; done) | (simp <;> omega))) | (with_reducible refine Gx.setCell ?_ (by first | omega | (simp; done) | (simp <;> omega)))))
    have Sa : At Wa w.heap.size (.cells #[.int .i64 den, .slice A n c] 24 (0, 0)) := by rw [hWa]; (focus (repeat (first | (with_reducible assumption) | (with_reducible exact At.new _ _) | (with_reducible refine At.row ?_) | ((with_reducible refine At.row_other ?_ ?_); rotate_left; (focus (simp <;> omega))) | (with_reducible refine At.app ?_) | (with_reducible refine At.tick ?_) | (with_reducible refine At.gx ?_) | ((with_reducible refine At.new' ?_); focus (simp; done)) | (with_reducible refine At.alloc ?_) | (with_reducible refine At.drew ?_) | (with_reducible exact Is.new _ _ _) | (with_reducible refine Is.row ?_) | ((with_reducible refine Is.row_other ?_ ?_); rotate_left; (focus (simp <;> omega))) | (with_reducible refine Is.gx ?_) | ((with_reducible refine Is.new' ?_); focus (simp; done)) | (with_reducible refine Is.alloc ?_) | (with_reducible refine Is.drew ?_))))
    obtain ⟨gT, hgT⟩ : ∃ gT, gT = w.heap.size + 1 + x1.n := ⟨_, rfl⟩
    have Ta : At Wa gT (.cells #[.int .i64 D, .slice A1 N c1] 24 (0, 0)) := by rw [hWa, hgT]; exact At.new' (by first | (rw [size_gx, size_alloc']) | rfl | simp)
    rw [← hgT]
    have a0 : Wa.cell? ⟨w.heap.size, 0, none⟩ = some (.int .i64 den) := by rw [cell_of_row Wa _ _ _ _ _ Sa]; rfl
    have a1 : Wa.cell? ⟨w.heap.size, 1, none⟩ = some (.slice A n c) := by rw [cell_of_row Wa _ _ _ _ _ Sa]; rfl
    have b0 : Wa.cell? ⟨gT, 0, none⟩ = some (.int .i64 D) := by rw [cell_of_row Wa _ _ _ _ _ Ta]; rfl
    have b1 : Wa.cell? ⟨gT, 1, none⟩ = some (.slice A1 N c1) := by rw [cell_of_row Wa _ _ _ _ _ Ta]; rfl
    have lTa : gT < Wa.heap.size := Ta.lt
    have lSa : w.heap.size < Wa.heap.size := Sa.lt
    clear hWa hgT hs1 Sa Ta
    have G2 := Lib.hid (fun W (h : ∃ x, W = gx Wa x) => H2.out W (gxT Ga h))
    have G3 := Lib.hid (fun W A' c' (hs : SmAt W f N A') (h : ∃ x, W = gx Wa x) => H3.out W A' c' hs (gxT Ga h))
    have G4 := Lib.hid (fun W (h : ∃ x, W = gx Wa x) => H4.out W (gxT Ga h))
    have G6 := Lib.hid (fun W A' c' (hs : SmAt W f N A') (h : ∃ x, W = gx Wa x) => H6.out W A' c' hs (gxT Ga h))
    have GA := Lib.hid Ga
    clear H1 H2 H3 H4 H6 Ga
    generalize w.heap.size = g0 at *
    go_region_held3 (fun W => (∃ x, W = gx Wa x) ∧ W.cell? ⟨g0, 0, none⟩ = some (.int .i64 den) ∧ W.cell? ⟨g0, 1, none⟩ = some (.slice A n c) ∧ W.cell? ⟨gT, 0, none⟩ = some (.int .i64 D) ∧ W.cell? ⟨gT, 1, none⟩ = some (.slice A1 N c1))
      (refine ⟨(by repeat (first | (with_reducible exact Gx.refl _) | (with_reducible assumption) | (with_reducible refine Gx.gx ?_) | (with_reducible refine Gx.alloc ?_) | (with_reducible refine Gx.drew ?_) | (with_reducible refine Gx.drewN ?_) | (with_reducible refine Gx.setRow ?_ (by first | omega | (simp; done) | (simp <;> omega))) | (with_reducible refine Gx.setCell ?_ (by first | omega | (simp; done) | (simp <;> omega))))), ?_, ?_, ?_, ?_⟩ <;> first | assumption | exact cell_keep_gx ‹_› | go_keep | (simp [go_sem]; done))
      (first
      | (go_at_call 6; refine (G2.out _ (by repeat (first | (with_reducible exact Gx.refl _) | (with_reducible assumption) | (with_reducible refine Gx.gx ?_) | (with_reducible refine Gx.alloc ?_) | (with_reducible refine Gx.drew ?_) | (with_reducible refine Gx.drewN ?_) | (with_reducible refine Gx.setRow ?_ (by first | omega | (simp; done) | (simp <;> omega))) | (with_reducible refine Gx.setCell ?_ (by first | omega | (simp; done) | (simp <;> omega)))))).mono ?_; rintro e W1 ⟨A2, c2, x2, rfl, rfl, hs3⟩)
      | (go_at_call 5; refine (G3.out _ _ _ ?_ ?_).mono ?_; (focus first | (with_reducible assumption) | (refine smAtG hs2 ?_; exact (by repeat (first | (with_reducible exact Gx.refl _) | (with_reducible assumption) | (with_reducible refine Gx.gx ?_) | (with_reducible refine Gx.alloc ?_) | (with_reducible refine Gx.drew ?_) | (with_reducible refine Gx.drewN ?_) | (with_reducible refine Gx.setRow ?_ (by first | omega | (simp; done) | (simp <;> omega))) | (with_reducible refine Gx.setCell ?_ (by first | omega | (simp; done) | (simp <;> omega)))))) | ((rw [← gx_gx]; with_reducible assumption)) | (simp only [gx_gx, gx_drew, drew_gx] at hs3 ⊢; assumption)); (focus exact (by repeat (first | (with_reducible exact Gx.refl _) | (with_reducible assumption) | (with_reducible refine Gx.gx ?_) | (with_reducible refine Gx.alloc ?_) | (with_reducible refine Gx.drew ?_) | (with_reducible refine Gx.drewN ?_) | (with_reducible refine Gx.setRow ?_ (by first | omega | (simp; done) | (simp <;> omega))) | (with_reducible refine Gx.setCell ?_ (by first | omega | (simp; done) | (simp <;> omega)))))); rintro e w' ⟨rfl, x3, rfl⟩))
    all_goals go_wp2_with first
      | (go_at_call 7; with_reducible refine (G4.out _ ?_).mono ?_; (focus exact (by repeat (first | (with_reducible exact Gx.refl _) | (with_reducible assumption) | (with_reducible refine Gx.gx ?_) | (with_reducible refine Gx.alloc ?_) | (with_reducible refine Gx.drew ?_) | (with_reducible refine Gx.drewN ?_) | (with_reducible refine Gx.setRow ?_ (by first | omega | (simp; done) | (simp <;> omega))) | (with_reducible refine Gx.setCell ?_ (by first | omega | (simp; done) | (simp <;> omega)))))); rintro e w' ⟨rfl, x4, rfl⟩)
      | (go_at_call 7; refine (G6.out _ _ _ ?_ ?_).mono ?_; (focus (refine smAtG hs2 ?_; exact (by repeat (first | (with_reducible exact Gx.refl _) | (with_reducible assumption) | (with_reducible refine Gx.gx ?_) | (with_reducible refine Gx.alloc ?_) | (with_reducible refine Gx.drew ?_) | (with_reducible refine Gx.drewN ?_) | (with_reducible refine Gx.setRow ?_ (by first | omega | (simp; done) | (simp <;> omega))) | (with_reducible refine Gx.setCell ?_ (by first | omega | (simp; done) | (simp <;> omega))))))); (focus exact (by repeat (first | (with_reducible exact Gx.refl _) | (with_reducible assumption) | (with_reducible refine Gx.gx ?_) | (with_reducible refine Gx.alloc ?_) | (with_reducible refine Gx.drew ?_) | (with_reducible refine Gx.drewN ?_) | (with_reducible refine Gx.setRow ?_ (by first | omega | (simp; done) | (simp <;> omega))) | (with_reducible refine Gx.setCell ?_ (by first | omega | (simp; done) | (simp <;> omega)))))); rintro e w' ⟨rfl, x5, rfl⟩)
      | (go_at_call 8; refine (holds_any _).mono ?_; rintro e w' ⟨rfl, x6, rfl⟩)
    all_goals first | go_ret | trace_state
    all_goals exact ⟨rfl, gxT GA.out (by repeat (first | (with_reducible exact Gx.refl _) | (with_reducible assumption) | (with_reducible refine Gx.gx ?_) | (with_reducible refine Gx.alloc ?_) | (with_reducible refine Gx.drew ?_) | (with_reducible refine Gx.drewN ?_) | (with_reducible refine Gx.setRow ?_ (by first | omega | (simp; done) | (simp <;> omega))) | (with_reducible refine Gx.setCell ?_ (by first | omega | (simp; done) | (simp <;> omega)))))⟩
  · have k3 : decide (R = 0) = false := decide_eq_false r2
    have k4 : decide (er = 0) = true := decide_eq_true r1
    have H6 := Lib.hid (H5.out r1)
    have R1 := Lib.hid r1
    clear hc H5 r1
    go_enter Tryd.func3, Tryd.ntmps3
    go_wp2_with (go_at_call 4; refine (H1.out _ (by repeat (first | (with_reducible exact Gx.refl _) | (with_reducible assumption) | (with_reducible refine Gx.gx ?_) | (with_reducible refine Gx.alloc ?_) | (with_reducible refine Gx.drew ?_) | (with_reducible refine Gx.drewN ?_) | (with_reducible refine Gx.setRow ?_ (by first | omega | (simp; done) | (simp <;> omega))) | (with_reducible refine Gx.setCell ?_ (by first | omega | (simp; done) | (simp <;> omega)))))).mono ?_; rintro e W1 ⟨A1, c1, x1, rfl, rfl, hs1⟩)
    have hs2 : SmAt (((gx (w.alloc (.cells #[.int .i64 den, .slice A n c] 24)) x1)).alloc (.cells #[.int .i64 D, .slice A1 N c1] 24)) f N A1 := by first | exact hs1.alloc | (simp only [gx_gx] at *; exact hs1.alloc)
    obtain ⟨Wa, hWa⟩ : ∃ Wa, Wa = (gx (w.alloc (.cells #[.int .i64 den, .slice A n c] 24)) x1).alloc (.cells #[.int .i64 D, .slice A1 N c1] 24) := ⟨_, rfl⟩
    rw [← hWa] at hs2 ⊢
    have Ga : ∃ x, Wa = gx w x := by rw [hWa]; exact (by repeat (first | (with_reducible exact Gx.refl _) | (with_reducible assumption) | (with_reducible refine Gx.gx ?_) | (with_reducible refine Gx.alloc ?_) | (with_reducible refine Gx.drew ?_) | (with_reducible refine Gx.drewN ?_) | (with_reducible refine Gx.setRow ?_ (by first | omega | (simp; done) | (simp <;> omega))) | (with_reducible refine Gx.setCell ?_ (by first | omega | (simp; done) | (simp <;> omega)))))
    have Sa : At Wa w.heap.size (.cells #[.int .i64 den, .slice A n c] 24 (0, 0)) := by rw [hWa]; (focus (repeat (first | (with_reducible assumption) | (with_reducible exact At.new _ _) | (with_reducible refine At.row ?_) | ((with_reducible refine At.row_other ?_ ?_); rotate_left; (focus (simp <;> omega))) | (with_reducible refine At.app ?_) | (with_reducible refine At.tick ?_) | (with_reducible refine At.gx ?_) | ((with_reducible refine At.new' ?_); focus (simp; done)) | (with_reducible refine At.alloc ?_) | (with_reducible refine At.drew ?_) | (with_reducible exact Is.new _ _ _) | (with_reducible refine Is.row ?_) | ((with_reducible refine Is.row_other ?_ ?_); rotate_left; (focus (simp <;> omega))) | (with_reducible refine Is.gx ?_) | ((with_reducible refine Is.new' ?_); focus (simp; done)) | (with_reducible refine Is.alloc ?_) | (with_reducible refine Is.drew ?_))))
    obtain ⟨gT, hgT⟩ : ∃ gT, gT = w.heap.size + 1 + x1.n := ⟨_, rfl⟩
    have Ta : At Wa gT (.cells #[.int .i64 D, .slice A1 N c1] 24 (0, 0)) := by rw [hWa, hgT]; exact At.new' (by first | (rw [size_gx, size_alloc']) | rfl | simp)
    rw [← hgT]
    have a0 : Wa.cell? ⟨w.heap.size, 0, none⟩ = some (.int .i64 den) := by rw [cell_of_row Wa _ _ _ _ _ Sa]; rfl
    have a1 : Wa.cell? ⟨w.heap.size, 1, none⟩ = some (.slice A n c) := by rw [cell_of_row Wa _ _ _ _ _ Sa]; rfl
    have b0 : Wa.cell? ⟨gT, 0, none⟩ = some (.int .i64 D) := by rw [cell_of_row Wa _ _ _ _ _ Ta]; rfl
    have b1 : Wa.cell? ⟨gT, 1, none⟩ = some (.slice A1 N c1) := by rw [cell_of_row Wa _ _ _ _ _ Ta]; rfl
    have lTa : gT < Wa.heap.size := Ta.lt
    have lSa : w.heap.size < Wa.heap.size := Sa.lt
    clear hWa hgT hs1 Sa Ta
    have G2 := Lib.hid (fun W (h : ∃ x, W = gx Wa x) => H2.out W (gxT Ga h))
    have G3 := Lib.hid (fun W A' c' (hs : SmAt W f N A') (h : ∃ x, W = gx Wa x) => H3.out W A' c' hs (gxT Ga h))
    have G4 := Lib.hid (fun W (h : ∃ x, W = gx Wa x) => H4.out W (gxT Ga h))
    have G6 := Lib.hid (fun W A' c' (hs : SmAt W f N A') (h : ∃ x, W = gx Wa x) => H6.out W A' c' hs (gxT Ga h))
    have GA := Lib.hid Ga
    clear H1 H2 H3 H4 H6 Ga
    generalize w.heap.size = g0 at *
    go_region_held3 (fun W => (∃ x, W = gx Wa x) ∧ W.cell? ⟨g0, 0, none⟩ = some (.int .i64 den) ∧ W.cell? ⟨g0, 1, none⟩ = some (.slice A n c) ∧ W.cell? ⟨gT, 0, none⟩ = some (.int .i64 D) ∧ W.cell? ⟨gT, 1, none⟩ = some (.slice A1 N c1))
      (refine ⟨(by repeat (first | (with_reducible exact Gx.refl _) | (with_reducible assumption) | (with_reducible refine Gx.gx ?_) | (with_reducible refine Gx.alloc ?_) | (with_reducible refine Gx.drew ?_) | (with_reducible refine Gx.drewN ?_) | (with_reducible refine Gx.setRow ?_ (by first | omega | (simp; done) | (simp <;> omega))) | (with_reducible refine Gx.setCell ?_ (by first | omega | (simp; done) | (simp <;> omega))))), ?_, ?_, ?_, ?_⟩ <;> first | assumption | exact cell_keep_gx ‹_› | go_keep | (simp [go_sem]; done))
      (first
      | (go_at_call 6; refine (G2.out _ (by repeat (first | (with_reducible exact Gx.refl _) | (with_reducible assumption) | (with_reducible refine Gx.gx ?_) | (with_reducible refine Gx.alloc ?_) | (with_reducible refine Gx.drew ?_) | (with_reducible refine Gx.drewN ?_) | (with_reducible refine Gx.setRow ?_ (by first | omega | (simp; done) | (simp <;> omega))) | (with_reducible refine Gx.setCell ?_ (by first | omega | (simp; done) | (simp <;> omega)))))).mono ?_; rintro e W1 ⟨A2, c2, x2, rfl, rfl, hs3⟩)
      | (go_at_call 5; refine (G3.out _ _ _ ?_ ?_).mono ?_; (focus first | (with_reducible assumption) | (refine smAtG hs2 ?_; exact (by repeat (first | (with_reducible exact Gx.refl _) | (with_reducible assumption) | (with_reducible refine Gx.gx ?_) | (with_reducible refine Gx.alloc ?_) | (with_reducible refine Gx.drew ?_) | (with_reducible refine Gx.drewN ?_) | (with_reducible refine Gx.setRow ?_ (by first | omega | (simp; done) | (simp <;> omega))) | (with_reducible refine Gx.setCell ?_ (by first | omega | (simp; done) | (simp <;> omega)))))) | ((rw [← gx_gx]; with_reducible assumption)) | (simp only [gx_gx, gx_drew, drew_gx] at hs3 ⊢; assumption)); (focus exact (by repeat (first | (with_reducible exact Gx.refl _) | (with_reducible assumption) | (with_reducible refine Gx.gx ?_) | (with_reducible refine Gx.alloc ?_) | (with_reducible refine Gx.drew ?_) | (with_reducible refine Gx.drewN ?_) | (with_reducible refine Gx.setRow ?_ (by first | omega | (simp; done) | (simp <;> omega))) | (with_reducible refine Gx.setCell ?_ (by first | omega | (simp; done) | (simp <;> omega)))))); rintro e w' ⟨rfl, x3, rfl⟩))
    all_goals go_wp2_with first
      | (go_at_call 7; with_reducible refine (G4.out _ ?_).mono ?_; (focus exact (by repeat (first | (with_reducible exact Gx.refl _) | (with_reducible assumption) | (with_reducible refine Gx.gx ?_) | (with_reducible refine Gx.alloc ?_) | (with_reducible refine Gx.drew ?_) | (with_reducible refine Gx.drewN ?_) | (with_reducible refine Gx.setRow ?_ (by first | omega | (simp; done) | (simp <;> omega))) | (with_reducible refine Gx.setCell ?_ (by first | omega | (simp; done) | (simp <;> omega)))))); rintro e w' ⟨rfl, x4, rfl⟩)
      | (go_at_call 7; refine (G6.out _ _ _ ?_ ?_).mono ?_; (focus (refine smAtG hs2 ?_; exact (by repeat (first | (with_reducible exact Gx.refl _) | (with_reducible assumption) | (with_reducible refine Gx.gx ?_) | (with_reducible refine Gx.alloc ?_) | (with_reducible refine Gx.drew ?_) | (with_reducible refine Gx.drewN ?_) | (with_reducible refine Gx.setRow ?_ (by first | omega | (simp; done) | (simp <;> omega))) | (with_reducible refine Gx.setCell ?_ (by first | omega | (simp; done) | (simp <;> omega))))))); (focus exact (by repeat (first | (with_reducible exact Gx.refl _) | (with_reducible assumption) | (with_reducible refine Gx.gx ?_) | (with_reducible refine Gx.alloc ?_) | (with_reducible refine Gx.drew ?_) | (with_reducible refine Gx.drewN ?_) | (with_reducible refine Gx.setRow ?_ (by first | omega | (simp; done) | (simp <;> omega))) | (with_reducible refine Gx.setCell ?_ (by first | omega | (simp; done) | (simp <;> omega)))))); rintro e w' ⟨rfl, x5, rfl⟩)
      | (go_at_call 8; refine (holds_any _).mono ?_; rintro e w' ⟨rfl, x6, rfl⟩)
    all_goals first | go_ret | trace_state
    all_goals exact ⟨rfl, gxT GA.out (by repeat (first | (with_reducible exact Gx.refl _) | (with_reducible assumption) | (with_reducible refine Gx.gx ?_) | (with_reducible refine Gx.alloc ?_) | (with_reducible refine Gx.drew ?_) | (with_reducible refine Gx.drewN ?_) | (with_reducible refine Gx.setRow ?_ (by first | omega | (simp; done) | (simp <;> omega))) | (with_reducible refine Gx.setCell ?_ (by first | omega | (simp; done) | (simp <;> omega)))))⟩
  · have k4 : decide (er = 0) = false := decide_eq_false r1
    clear hc H5
    go_enter Tryd.func3, Tryd.ntmps3
    go_wp2_with (go_at_call 4; refine (H1.out _ (by repeat (first | (with_reducible exact Gx.refl _) | (with_reducible assumption) | (with_reducible refine Gx.gx ?_) | (with_reducible refine Gx.alloc ?_) | (with_reducible refine Gx.drew ?_) | (with_reducible refine Gx.drewN ?_) | (with_reducible refine Gx.setRow ?_ (by first | omega | (simp; done) | (simp <;> omega))) | (with_reducible refine Gx.setCell ?_ (by first | omega | (simp; done) | (simp <;> omega)))))).mono ?_; rintro e W1 ⟨A1, c1, x1, rfl, rfl, hs1⟩)
    have hs2 : SmAt (((gx (w.alloc (.cells #[.int .i64 den, .slice A n c] 24)) x1)).alloc (.cells #[.int .i64 D, .slice A1 N c1] 24)) f N A1 := by first | exact hs1.alloc | (simp only [gx_gx] at *; exact hs1.alloc)
    obtain ⟨Wa, hWa⟩ : ∃ Wa, Wa = (gx (w.alloc (.cells #[.int .i64 den, .slice A n c] 24)) x1).alloc (.cells #[.int .i64 D, .slice A1 N c1] 24) := ⟨_, rfl⟩
    rw [← hWa] at hs2 ⊢
    have Ga : ∃ x, Wa = gx w x := by rw [hWa]; exact (by repeat (first | (with_reducible exact Gx.refl _) | (with_reducible assumption) | (with_reducible refine Gx.gx ?_) | (with_reducible refine Gx.alloc ?_) | (with_reducible refine Gx.drew ?_) | (with_reducible refine Gx.drewN ?_) | (with_reducible refine Gx.setRow ?_ (by first | omega | (simp; done) | (simp <;> omega))) | (with_reducible refine Gx.setCell ?_ (by first | omega | (simp; done) | (simp <;> omega)))))
    have Sa : At Wa w.heap.size (.cells #[.int .i64 den, .slice A n c] 24 (0, 0)) := by rw [hWa]; (focus (repeat (first | (with_reducible assumption) | (with_reducible exact At.new _ _) | (with_reducible refine At.row ?_) | ((with_reducible refine At.row_other ?_ ?_); rotate_left; (focus (simp <;> omega))) | (with_reducible refine At.app ?_) | (with_reducible refine At.tick ?_) | (with_reducible refine At.gx ?_) | ((with_reducible refine At.new' ?_); focus (simp; done)) | (with_reducible refine At.alloc ?_) | (with_reducible refine At.drew ?_) | (with_reducible exact Is.new _ _ _) | (with_reducible refine Is.row ?_) | ((with_reducible refine Is.row_other ?_ ?_); rotate_left; (focus (simp <;> omega))) | (with_reducible refine Is.gx ?_) | ((with_reducible refine Is.new' ?_); focus (simp; done)) | (with_reducible refine Is.alloc ?_) | (with_reducible refine Is.drew ?_))))
    obtain ⟨gT, hgT⟩ : ∃ gT, gT = w.heap.size + 1 + x1.n := ⟨_, rfl⟩
    have Ta : At Wa gT (.cells #[.int .i64 D, .slice A1 N c1] 24 (0, 0)) := by rw [hWa, hgT]; exact At.new' (by first | (rw [size_gx, size_alloc']) | rfl | simp)
    rw [← hgT]
    have a0 : Wa.cell? ⟨w.heap.size, 0, none⟩ = some (.int .i64 den) := by rw [cell_of_row Wa _ _ _ _ _ Sa]; rfl
    have a1 : Wa.cell? ⟨w.heap.size, 1, none⟩ = some (.slice A n c) := by rw [cell_of_row Wa _ _ _ _ _ Sa]; rfl
    have b0 : Wa.cell? ⟨gT, 0, none⟩ = some (.int .i64 D) := by rw [cell_of_row Wa _ _ _ _ _ Ta]; rfl
    have b1 : Wa.cell? ⟨gT, 1, none⟩ = some (.slice A1 N c1) := by rw [cell_of_row Wa _ _ _ _ _ Ta]; rfl
    have lTa : gT < Wa.heap.size := Ta.lt
    have lSa : w.heap.size < Wa.heap.size := Sa.lt
    clear hWa hgT hs1 Sa Ta
    have G2 := Lib.hid (fun W (h : ∃ x, W = gx Wa x) => H2.out W (gxT Ga h))
    have G3 := Lib.hid (fun W A' c' (hs : SmAt W f N A') (h : ∃ x, W = gx Wa x) => H3.out W A' c' hs (gxT Ga h))
    have G4 := Lib.hid (fun W (h : ∃ x, W = gx Wa x) => H4.out W (gxT Ga h))
    have GA := Lib.hid Ga
    clear H1 H2 H3 H4 Ga
    generalize w.heap.size = g0 at *
    go_region_held3 (fun W => (∃ x, W = gx Wa x) ∧ W.cell? ⟨g0, 0, none⟩ = some (.int .i64 den) ∧ W.cell? ⟨g0, 1, none⟩ = some (.slice A n c) ∧ W.cell? ⟨gT, 0, none⟩ = some (.int .i64 D) ∧ W.cell? ⟨gT, 1, none⟩ = some (.slice A1 N c1))
      (refine ⟨(by repeat (first | (with_reducible exact Gx.refl _) | (with_reducible assumption) | (with_reducible refine Gx.gx ?_) | (with_reducible refine Gx.alloc ?_) | (with_reducible refine Gx.drew ?_) | (with_reducible refine Gx.drewN ?_) | (with_reducible refine Gx.setRow ?_ (by first | omega | (simp; done) | (simp <;> omega))) | (with_reducible refine Gx.setCell ?_ (by first | omega | (simp; done) | (simp <;> omega))))), ?_, ?_, ?_, ?_⟩ <;> first | assumption | exact cell_keep_gx ‹_› | go_keep | (simp [go_sem]; done))
      (first
      | (go_at_call 6; refine (G2.out _ (by repeat (first | (with_reducible exact Gx.refl _) | (with_reducible assumption) | (with_reducible refine Gx.gx ?_) | (with_reducible refine Gx.alloc ?_) | (with_reducible refine Gx.drew ?_) | (with_reducible refine Gx.drewN ?_) | (with_reducible refine Gx.setRow ?_ (by first | omega | (simp; done) | (simp <;> omega))) | (with_reducible refine Gx.setCell ?_ (by first | omega | (simp; done) | (simp <;> omega)))))).mono ?_; rintro e W1 ⟨A2, c2, x2, rfl, rfl, hs3⟩)
      | (go_at_call 5; refine (G3.out _ _ _ ?_ ?_).mono ?_; (focus first | (with_reducible assumption) | (refine smAtG hs2 ?_; exact (by repeat (first | (with_reducible exact Gx.refl _) | (with_reducible assumption) | (with_reducible refine Gx.gx ?_) | (with_reducible refine Gx.alloc ?_) | (with_reducible refine Gx.drew ?_) | (with_reducible refine Gx.drewN ?_) | (with_reducible refine Gx.setRow ?_ (by first | omega | (simp; done) | (simp <;> omega))) | (with_reducible refine Gx.setCell ?_ (by first | omega | (simp; done) | (simp <;> omega)))))) | ((rw [← gx_gx]; with_reducible assumption)) | (simp only [gx_gx, gx_drew, drew_gx] at hs3 ⊢; assumption)); (focus exact (by repeat (first | (with_reducible exact Gx.refl _) | (with_reducible assumption) | (with_reducible refine Gx.gx ?_) | (with_reducible refine Gx.alloc ?_) | (with_reducible refine Gx.drew ?_) | (with_reducible refine Gx.drewN ?_) | (with_reducible refine Gx.setRow ?_ (by first | omega | (simp; done) | (simp <;> omega))) | (with_reducible refine Gx.setCell ?_ (by first | omega | (simp; done) | (simp <;> omega)))))); rintro e w' ⟨rfl, x3, rfl⟩))
    all_goals go_wp2_with first
      | (go_at_call 7; with_reducible refine (G4.out _ ?_).mono ?_; (focus exact (by repeat (first | (with_reducible exact Gx.refl _) | (with_reducible assumption) | (with_reducible refine Gx.gx ?_) | (with_reducible refine Gx.alloc ?_) | (with_reducible refine Gx.drew ?_) | (with_reducible refine Gx.drewN ?_) | (with_reducible refine Gx.setRow ?_ (by first | omega | (simp; done) | (simp <;> omega))) | (with_reducible refine Gx.setCell ?_ (by first | omega | (simp; done) | (simp <;> omega)))))); rintro e w' ⟨rfl, x4, rfl⟩)
      | (go_at_call 8; refine (holds_any _).mono ?_; rintro e w' ⟨rfl, x6, rfl⟩)
    all_goals first | go_ret | trace_state
    all_goals exact ⟨rfl, gxT GA.out (by repeat (first | (with_reducible exact Gx.refl _) | (with_reducible assumption) | (with_reducible refine Gx.gx ?_) | (with_reducible refine Gx.alloc ?_) | (with_reducible refine Gx.drew ?_) | (with_reducible refine Gx.drewN ?_) | (with_reducible refine Gx.setRow ?_ (by first | omega | (simp; done) | (simp <;> omega))) | (with_reducible refine Gx.setCell ?_ (by first | omega | (simp; done) | (simp <;> omega)))))⟩
end Go.Proofs.YtmpokfbliacmoaaDoor
