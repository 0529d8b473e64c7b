/-
  Texts that this claim leans on, merged: PInsO.
-/
import Derived.Deep.RegionHeld3
import Derived.Test.YtocaphcnnmcnjaaGreatDoorM2

/-
  Instruments: the program's CheckInstrument, over letters.
-/
namespace Go.Proofs.YtocaphcnnmcnjaaGreatDoor
open Go.RowKit
-- AT2
-- AT3

theorem gxT {w Wa W : World} (h1 : ∃ x, Wa = gx w x) (h2 : ∃ x, W = gx Wa x) : ∃ x, W = gx w x := by
  obtain ⟨x, rfl⟩ := h1; obtain ⟨y, rfl⟩ := h2; exact ⟨_, gx_gx ..⟩
/-- What is wrong with an instrument. -/
@[irreducible] def insE (kd : Int) (NB : Bool) (ts : Nat) (MB : Bool) (pl DE CE sz : Int) : Int :=
  if kd < 1 ∨ 6 < kd then 7 else if NB = false ∨ ts = 0 ∨ 30 < ts then 8 else if MB = true then 2 else if pl < 0 ∨ 6 < pl then 9 else if kd = 2 then DE else if kd = 3 ∨ kd = 5 then CE else if kd = 6 ∧ (sz < 1 ∨ 50 < sz) then 9 else 0
theorem FiveAt.on {w W : World} {F : List (Bool × List Int)} {A : Option Addr} (h : FiveAt w F A) (hW : ∃ x, W = Go.Proofs.YtocaphcnnmcnjaaGreatDoor.gx w x) : FiveAt W F A := by
  unfold FiveAt at h ⊢
  obtain ⟨g, e, hl, h⟩ := h
  exact ⟨g, e, hl, fun k hk => (h k hk).on hW⟩
set_option maxHeartbeats 4000000 in
set_option maxRecDepth 100000 in
theorem ins_o (kd : Int) (nm tr : ByteArray) (pl lo hi st : Int) (Z : Option Addr) (zn zc : Nat) (op nn : Int) (lt : Bool) (sz : Int) (I : Value) (hI : I = inV kd nm tr pl lo hi st Z zn zc op nn lt sz) (F : List (Bool × List Int)) (NB MB : Bool) (w : World)
    (H1 : Hid (∀ W, (∃ x, W = gx w x) → Calls Tryz.prog 25 #[.string nm] W fun e W' => e = .returned (.bool NB) ∧ ∃ x, W' = gx W x))
    (H2 : Hid (∀ W, (∃ x, W = gx w x) → Calls Tryz.prog 27 #[I] W fun e W' => ∃ A, e = .returned (.slice A 5 5) ∧ FiveAt W' F A ∧ ∃ x, W' = gx W x))
    (H3 : Hid (∀ W A, FiveAt W F A → (∃ x, W = gx w x) → Calls Tryz.prog 26 #[.int .i64 kd, .slice A 5 5] W fun e W' => e = .returned (.bool MB) ∧ ∃ x, W' = gx W x))
    (hc : kd = 1 ∧ NB = true ∧ 0 < tr.size ∧ tr.size ≤ 30 ∧ MB = false ∧ 0 ≤ pl ∧ pl ≤ 6) :
    Calls Tryz.prog 7 #[I] w fun e w' => e = .returned (.int .i64 0) ∧ ∃ x, w' = gx w x := by
  obtain ⟨rfl, rfl, h2, h3, rfl, h5, h6⟩ := hc
  have k0 : ((tr.size : Int) == 0) = false := (by rw [beq_eq_false_iff_ne]; omega)
  have k1 : decide (30 < (tr.size : Int)) = false := decide_eq_false (by omega)
  have k2 : decide (pl < 0) = false := decide_eq_false (by omega)
  have k3 : decide (6 < pl) = false := decide_eq_false (by omega)
  clear h2 h3 h5 h6
  have c0 : (w.alloc (.cells #[.int .i64 1, .string nm, .string tr, .int .i64 pl, .int .i64 lo, .int .i64 hi, .int .i64 st, .slice Z zn zc, .int .i64 op, .int .i64 nn, .bool lt, .int .i64 sz] 27)).cell? ⟨w.heap.size, 0, none⟩ = some (.int .i64 1) := by rw [cell_of_row _ _ _ _ _ _ (At.new _ _)]; rfl
  have c1 : (w.alloc (.cells #[.int .i64 1, .string nm, .string tr, .int .i64 pl, .int .i64 lo, .int .i64 hi, .int .i64 st, .slice Z zn zc, .int .i64 op, .int .i64 nn, .bool lt, .int .i64 sz] 27)).cell? ⟨w.heap.size, 1, none⟩ = some (.string nm) := by rw [cell_of_row _ _ _ _ _ _ (At.new _ _)]; rfl
  have c2 : (w.alloc (.cells #[.int .i64 1, .string nm, .string tr, .int .i64 pl, .int .i64 lo, .int .i64 hi, .int .i64 st, .slice Z zn zc, .int .i64 op, .int .i64 nn, .bool lt, .int .i64 sz] 27)).cell? ⟨w.heap.size, 2, none⟩ = some (.string tr) := by rw [cell_of_row _ _ _ _ _ _ (At.new _ _)]; rfl
  have c3 : (w.alloc (.cells #[.int .i64 1, .string nm, .string tr, .int .i64 pl, .int .i64 lo, .int .i64 hi, .int .i64 st, .slice Z zn zc, .int .i64 op, .int .i64 nn, .bool lt, .int .i64 sz] 27)).cell? ⟨w.heap.size, 3, none⟩ = some (.int .i64 pl) := by rw [cell_of_row _ _ _ _ _ _ (At.new _ _)]; rfl
  have c4 : (w.alloc (.cells #[.int .i64 1, .string nm, .string tr, .int .i64 pl, .int .i64 lo, .int .i64 hi, .int .i64 st, .slice Z zn zc, .int .i64 op, .int .i64 nn, .bool lt, .int .i64 sz] 27)).cell? ⟨w.heap.size, 4, none⟩ = some (.int .i64 lo) := by rw [cell_of_row _ _ _ _ _ _ (At.new _ _)]; rfl
  have c5 : (w.alloc (.cells #[.int .i64 1, .string nm, .string tr, .int .i64 pl, .int .i64 lo, .int .i64 hi, .int .i64 st, .slice Z zn zc, .int .i64 op, .int .i64 nn, .bool lt, .int .i64 sz] 27)).cell? ⟨w.heap.size, 5, none⟩ = some (.int .i64 hi) := by rw [cell_of_row _ _ _ _ _ _ (At.new _ _)]; rfl
  have c6 : (w.alloc (.cells #[.int .i64 1, .string nm, .string tr, .int .i64 pl, .int .i64 lo, .int .i64 hi, .int .i64 st, .slice Z zn zc, .int .i64 op, .int .i64 nn, .bool lt, .int .i64 sz] 27)).cell? ⟨w.heap.size, 6, none⟩ = some (.int .i64 st) := by rw [cell_of_row _ _ _ _ _ _ (At.new _ _)]; rfl
  have c7 : (w.alloc (.cells #[.int .i64 1, .string nm, .string tr, .int .i64 pl, .int .i64 lo, .int .i64 hi, .int .i64 st, .slice Z zn zc, .int .i64 op, .int .i64 nn, .bool lt, .int .i64 sz] 27)).cell? ⟨w.heap.size, 7, none⟩ = some (.slice Z zn zc) := by rw [cell_of_row _ _ _ _ _ _ (At.new _ _)]; rfl
  have c8 : (w.alloc (.cells #[.int .i64 1, .string nm, .string tr, .int .i64 pl, .int .i64 lo, .int .i64 hi, .int .i64 st, .slice Z zn zc, .int .i64 op, .int .i64 nn, .bool lt, .int .i64 sz] 27)).cell? ⟨w.heap.size, 8, none⟩ = some (.int .i64 op) := by rw [cell_of_row _ _ _ _ _ _ (At.new _ _)]; rfl
  have c9 : (w.alloc (.cells #[.int .i64 1, .string nm, .string tr, .int .i64 pl, .int .i64 lo, .int .i64 hi, .int .i64 st, .slice Z zn zc, .int .i64 op, .int .i64 nn, .bool lt, .int .i64 sz] 27)).cell? ⟨w.heap.size, 9, none⟩ = some (.int .i64 nn) := by rw [cell_of_row _ _ _ _ _ _ (At.new _ _)]; rfl
  have c10 : (w.alloc (.cells #[.int .i64 1, .string nm, .string tr, .int .i64 pl, .int .i64 lo, .int .i64 hi, .int .i64 st, .slice Z zn zc, .int .i64 op, .int .i64 nn, .bool lt, .int .i64 sz] 27)).cell? ⟨w.heap.size, 10, none⟩ = some (.bool lt) := by rw [cell_of_row _ _ _ _ _ _ (At.new _ _)]; rfl
  have c11 : (w.alloc (.cells #[.int .i64 1, .string nm, .string tr, .int .i64 pl, .int .i64 lo, .int .i64 hi, .int .i64 st, .slice Z zn zc, .int .i64 op, .int .i64 nn, .bool lt, .int .i64 sz] 27)).cell? ⟨w.heap.size, 11, none⟩ = some (.int .i64 sz) := by rw [cell_of_row _ _ _ _ _ _ (At.new _ _)]; rfl
  subst hI
  go_enter Tryz.func7, Tryz.ntmps7
  go_wp2_with (first | go_skip | (go_at_call 25; refine (H1.out _ (by repeat (first | (with_reducible exact Gx.refl _) | (with_reducible assumption) | (with_reducible refine Gx.gx ?_) | (with_reducible refine Gx.alloc ?_) | (with_reducible refine Gx.drew ?_) | (with_reducible refine Gx.drewN ?_) | (with_reducible refine Gx.setRow ?_ (by first | omega | (simp; done) | (simp <;> omega))) | (with_reducible refine Gx.setCell ?_ (by first | omega | (simp; done) | (simp <;> omega)))))).mono ?_; rintro e w' ⟨rfl, x1, rfl⟩))
  have G0 : ∃ x, w.alloc (.cells #[.int .i64 1, .string nm, .string tr, .int .i64 pl, .int .i64 lo, .int .i64 hi, .int .i64 st, .slice Z zn zc, .int .i64 op, .int .i64 nn, .bool lt, .int .i64 sz] 27) = gx w x := (by repeat (first | (with_reducible exact Gx.refl _) | (with_reducible assumption) | (with_reducible refine Gx.gx ?_) | (with_reducible refine Gx.alloc ?_) | (with_reducible refine Gx.drew ?_) | (with_reducible refine Gx.drewN ?_) | (with_reducible refine Gx.setRow ?_ (by first | omega | (simp; done) | (simp <;> omega))) | (with_reducible refine Gx.setCell ?_ (by first | omega | (simp; done) | (simp <;> omega)))))
  have l0 : w.heap.size < (w.alloc (.cells #[.int .i64 1, .string nm, .string tr, .int .i64 pl, .int .i64 lo, .int .i64 hi, .int .i64 st, .slice Z zn zc, .int .i64 op, .int .i64 nn, .bool lt, .int .i64 sz] 27)).heap.size := by simp
  generalize w.alloc (.cells #[.int .i64 1, .string nm, .string tr, .int .i64 pl, .int .i64 lo, .int .i64 hi, .int .i64 st, .slice Z zn zc, .int .i64 op, .int .i64 nn, .bool lt, .int .i64 sz] 27) = W0 at *
  generalize w.heap.size = g0 at *
  go_region_held3 (fun W => (∃ x, W = gx W0 x) ∧ W.cell? ⟨g0, 0, none⟩ = some (.int .i64 1) ∧ W.cell? ⟨g0, 1, none⟩ = some (.string nm) ∧ W.cell? ⟨g0, 2, none⟩ = some (.string tr) ∧ W.cell? ⟨g0, 3, none⟩ = some (.int .i64 pl) ∧ W.cell? ⟨g0, 4, none⟩ = some (.int .i64 lo) ∧ W.cell? ⟨g0, 5, none⟩ = some (.int .i64 hi) ∧ W.cell? ⟨g0, 6, none⟩ = some (.int .i64 st) ∧ W.cell? ⟨g0, 7, none⟩ = some (.slice Z zn zc) ∧ W.cell? ⟨g0, 8, none⟩ = some (.int .i64 op) ∧ W.cell? ⟨g0, 9, none⟩ = some (.int .i64 nn) ∧ W.cell? ⟨g0, 10, none⟩ = some (.bool lt) ∧ W.cell? ⟨g0, 11, none⟩ = some (.int .i64 sz))
    (refine ⟨(by repeat (first | (with_reducible exact Gx.refl _) | (with_reducible assumption) | (with_reducible refine Gx.gx ?_) | (with_reducible refine Gx.alloc ?_) | (with_reducible refine Gx.drew ?_) | (with_reducible refine Gx.drewN ?_) | (with_reducible refine Gx.setRow ?_ (by first | omega | (simp; done) | (simp <;> omega))) | (with_reducible refine Gx.setCell ?_ (by first | omega | (simp; done) | (simp <;> omega))))), ?_, ?_, ?_, ?_, ?_, ?_, ?_, ?_, ?_, ?_, ?_, ?_⟩ <;> first | assumption | exact cell_keep_gx ‹_› | go_keep | (simp [go_sem]; done))
    (first
    | (go_at_call 27; refine (H2.out _ (gxT G0 (by repeat (first | (with_reducible exact Gx.refl _) | (with_reducible assumption) | (with_reducible refine Gx.gx ?_) | (with_reducible refine Gx.alloc ?_) | (with_reducible refine Gx.drew ?_) | (with_reducible refine Gx.drewN ?_) | (with_reducible refine Gx.setRow ?_ (by first | omega | (simp; done) | (simp <;> omega))) | (with_reducible refine Gx.setCell ?_ (by first | omega | (simp; done) | (simp <;> omega))))))).mono ?_; rintro e W1 ⟨A1, rfl, hF, x2, rfl⟩)
    | (go_at_call 26; refine (H3.out _ _ ?_ (gxT G0 (by repeat (first | (with_reducible exact Gx.refl _) | (with_reducible assumption) | (with_reducible refine Gx.gx ?_) | (with_reducible refine Gx.alloc ?_) | (with_reducible refine Gx.drew ?_) | (with_reducible refine Gx.drewN ?_) | (with_reducible refine Gx.setRow ?_ (by first | omega | (simp; done) | (simp <;> omega))) | (with_reducible refine Gx.setCell ?_ (by first | omega | (simp; done) | (simp <;> omega))))))).mono ?_; (focus first | (with_reducible assumption) | ((rw [← gx_gx]; with_reducible assumption)) | (simp only [gx_gx, gx_drew, drew_gx] at hF ⊢; assumption)); rintro e w' ⟨rfl, x3, rfl⟩))
  all_goals go_wp2
  all_goals go_ret
  all_goals exact ⟨rfl, gxT G0 (by repeat (first | (with_reducible exact Gx.refl _) | (with_reducible assumption) | (with_reducible refine Gx.gx ?_) | (with_reducible refine Gx.alloc ?_) | (with_reducible refine Gx.drew ?_) | (with_reducible refine Gx.drewN ?_) | (with_reducible refine Gx.setRow ?_ (by first | omega | (simp; done) | (simp <;> omega))) | (with_reducible refine Gx.setCell ?_ (by first | omega | (simp; done) | (simp <;> omega)))))⟩
end Go.Proofs.YtocaphcnnmcnjaaGreatDoor
