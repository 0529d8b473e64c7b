/-
  Fields of instruments: the list that the program makes of an instrument.
-/
import Derived.Test.YtbhcjaejkplfeaaGreatDoorPMis
namespace Go.Proofs.YtbhcjaejkplfeaaGreatDoor
open Go.RowKit
-- AT2
-- AT3

/-- An instrument as a value. -/
abbrev inV (kd : Int) (nm tr : ByteArray) (pl lo hi st : Int) (Z : Option Addr) (zn zc : Nat) (op nn : Int) (lt : Bool) (sz : Int) : Value := .agg #[.int .i64 kd, .string nm, .string tr, .int .i64 pl, .int .i64 lo, .int .i64 hi, .int .i64 st, .slice Z zn zc, .int .i64 op, .int .i64 nn, .bool lt, .int .i64 sz]
/-- The fields of an instrument, each with the kinds that use it. -/
def inF (pl lo hi st : Int) (zn : Nat) (op nn : Int) (lt : Bool) (sz : Int) : List (Bool × List Int) :=
  [(pl != 0, [1, 4, 6]), (decide (lo ≠ 0 ∨ hi ≠ 0 ∨ st ≠ 0 ∨ 0 < zn), [2]), (decide (op ≠ 0 ∨ nn ≠ 0), [3, 5]), (lt, [3]), (sz != 0, [6])]
/-- Five fields lie in a block. -/
@[irreducible] def FiveAt (w : World) (F : List (Bool × List Int)) (A : Option Addr) : Prop := ∃ g, A = some ⟨g, 0, none⟩ ∧ F.length = 5 ∧ ∀ k, k < 5 → FldAt w g (k * 2) (F.getD k (false, []))
theorem nsAt_new {w : World} {g : Nat} {ks : List Int} {t : TypeId} (h : At w g (.cells (ks.map fun n => Value.int .i64 n).toArray t (0, 0))) : NsAt w g ks := by
  unfold NsAt
  refine ⟨h.lt, fun j hj => ?_⟩
  rw [cell_of_row w _ _ _ _ _ h]
  simp [List.getD, hj]
theorem fiveAt_new {w : World} {g g0 g1 g2 g3 g4 : Nat} {b0 b1 b2 b3 b4 : Bool} {K0 K1 K2 K3 K4 : List Int} {t : TypeId} (h : At w g (.cells #[.bool b0, .slice (some ⟨g0, 0, none⟩) K0.length K0.length, .bool b1, .slice (some ⟨g1, 0, none⟩) K1.length K1.length, .bool b2, .slice (some ⟨g2, 0, none⟩) K2.length K2.length, .bool b3, .slice (some ⟨g3, 0, none⟩) K3.length K3.length, .bool b4, .slice (some ⟨g4, 0, none⟩) K4.length K4.length] t (0, 0)))
    (h0 : NsAt w g0 K0) (h1 : NsAt w g1 K1) (h2 : NsAt w g2 K2) (h3 : NsAt w g3 K3) (h4 : NsAt w g4 K4) (hl : K0.length ≤ 100 ∧ K1.length ≤ 100 ∧ K2.length ≤ 100 ∧ K3.length ≤ 100 ∧ K4.length ≤ 100) :
    FiveAt w [(b0, K0), (b1, K1), (b2, K2), (b3, K3), (b4, K4)] (some ⟨g, 0, none⟩) := by
  unfold FiveAt
  refine ⟨g, rfl, rfl, fun k hk => ?_⟩
  obtain ⟨l0, l1, l2, l3, l4⟩ := hl
  have hk' : k = 0 ∨ k = 1 ∨ k = 2 ∨ k = 3 ∨ k = 4 := by omega
  rcases hk' with rfl | rfl | rfl | rfl | rfl
  · unfold FldAt; exact ⟨by rw [cell_of_row w _ _ _ _ _ h]; rfl, l0, g0, by rw [cell_of_row w _ _ _ _ _ h]; rfl, h0⟩
  · unfold FldAt; exact ⟨by rw [cell_of_row w _ _ _ _ _ h]; rfl, l1, g1, by rw [cell_of_row w _ _ _ _ _ h]; rfl, h1⟩
  · unfold FldAt; exact ⟨by rw [cell_of_row w _ _ _ _ _ h]; rfl, l2, g2, by rw [cell_of_row w _ _ _ _ _ h]; rfl, h2⟩
  · unfold FldAt; exact ⟨by rw [cell_of_row w _ _ _ _ _ h]; rfl, l3, g3, by rw [cell_of_row w _ _ _ _ _ h]; rfl, h3⟩
  · unfold FldAt; exact ⟨by rw [cell_of_row w _ _ _ _ _ h]; rfl, l4, g4, by rw [cell_of_row w _ _ _ _ _ h]; rfl, h4⟩
set_option maxHeartbeats 4000000 in
theorem fieldsOf_core (kd : Int) (nm tr : ByteArray) (pl lo hi st : Int) (Z : Option Addr) (zn zc : Nat) (op nn : Int) (lt : Bool) (sz : Int) (w : World) (b1 b2 : Bool)
    (H1 : (b1 = true ∧ (¬ lo = 0 ∨ (lo = 0 ∧ ¬ hi = 0) ∨ (lo = 0 ∧ hi = 0 ∧ ¬ st = 0) ∨ (lo = 0 ∧ hi = 0 ∧ st = 0 ∧ 0 < zn))) ∨ (b1 = false ∧ lo = 0 ∧ hi = 0 ∧ st = 0 ∧ zn = 0))
    (H2 : (b2 = true ∧ (¬ op = 0 ∨ (op = 0 ∧ ¬ nn = 0))) ∨ (b2 = false ∧ op = 0 ∧ nn = 0)) :
    Calls Tryz.prog 27 #[inV kd nm tr pl lo hi st Z zn zc op nn lt sz] w fun e w' => ∃ A, e = .returned (.slice A 5 5) ∧ FiveAt w' [(pl != 0, [1, 4, 6]), (b1, [2]), (b2, [3, 5]), (lt, [3]), (sz != 0, [6])] A ∧ ∃ x, w' = gx w x := by
  rcases H1 with ⟨rfl, h | ⟨rfl, h⟩ | ⟨rfl, rfl, h⟩ | ⟨rfl, rfl, rfl, h⟩⟩ | ⟨rfl, rfl, rfl, rfl, rfl⟩
  all_goals
    rcases H2 with ⟨rfl, h' | ⟨rfl, h'⟩⟩ | ⟨rfl, rfl, rfl⟩
    all_goals (try (have hnn : (nn != 0) = true := bne_iff_ne.2 (by assumption)))
    all_goals
      go_enter Tryz.func27, Tryz.ntmps27
      go_wp2
      refine bodyPost_ret (v := .slice (some ⟨w.heap.size + 1 + 1 + 1 + 1 + 1 + 1, 0, none⟩) 5 5) (by simp [results, Tryz.results27, go_sem]) rfl ⟨_, rfl, ?_, (by repeat (first | (with_reducible exact Gx.refl _) | (with_reducible assumption) | (with_reducible refine Gx.gx ?_) | (with_reducible refine Gx.alloc ?_) | (with_reducible refine Gx.drew ?_) | (with_reducible refine Gx.drewN ?_) | (with_reducible refine Gx.setRow ?_ (by first | omega | (simp; done) | (simp <;> omega))) | (with_reducible refine Gx.setCell ?_ (by first | omega | (simp; done) | (simp <;> omega)))))⟩
      refine fiveAt_new (g0 := w.heap.size + 1) (g1 := w.heap.size + 1 + 1) (g2 := w.heap.size + 1 + 1 + 1) (g3 := w.heap.size + 1 + 1 + 1 + 1) (g4 := w.heap.size + 1 + 1 + 1 + 1 + 1) (K0 := [1, 4, 6]) (K1 := [2]) (K2 := [3, 5]) (K3 := [3]) (K4 := [6]) (t := 90) ?_ (nsAt_new (t := 3) ?_) (nsAt_new (t := 3) ?_) (nsAt_new (t := 3) ?_) (nsAt_new (t := 3) ?_) (nsAt_new (t := 3) ?_) (by decide)
      · simp only [List.length_cons, List.length_nil, Nat.reduceAdd]; (focus (repeat (first | (with_reducible assumption) | (with_reducible exact At.new _ _) | (with_reducible refine At.row ?_) | ((with_reducible refine At.row_other ?_ ?_); rotate_left; (focus (simp <;> omega))) | (with_reducible refine At.app ?_) | (with_reducible refine At.tick ?_) | (with_reducible refine At.gx ?_) | ((with_reducible refine At.new' ?_); focus (simp; done)) | (with_reducible refine At.alloc ?_) | (with_reducible refine At.drew ?_) | (with_reducible exact Is.new _ _ _) | (with_reducible refine Is.row ?_) | ((with_reducible refine Is.row_other ?_ ?_); rotate_left; (focus (simp <;> omega))) | (with_reducible refine Is.gx ?_) | ((with_reducible refine Is.new' ?_); focus (simp; done)) | (with_reducible refine Is.alloc ?_) | (with_reducible refine Is.drew ?_))))
      · show At _ _ (.cells #[.int .i64 1, .int .i64 4, .int .i64 6] 3 (0, 0)); (focus (repeat (first | (with_reducible assumption) | (with_reducible exact At.new _ _) | (with_reducible refine At.row ?_) | ((with_reducible refine At.row_other ?_ ?_); rotate_left; (focus (simp <;> omega))) | (with_reducible refine At.app ?_) | (with_reducible refine At.tick ?_) | (with_reducible refine At.gx ?_) | ((with_reducible refine At.new' ?_); focus (simp; done)) | (with_reducible refine At.alloc ?_) | (with_reducible refine At.drew ?_) | (with_reducible exact Is.new _ _ _) | (with_reducible refine Is.row ?_) | ((with_reducible refine Is.row_other ?_ ?_); rotate_left; (focus (simp <;> omega))) | (with_reducible refine Is.gx ?_) | ((with_reducible refine Is.new' ?_); focus (simp; done)) | (with_reducible refine Is.alloc ?_) | (with_reducible refine Is.drew ?_))))
      · show At _ _ (.cells #[.int .i64 2] 3 (0, 0)); (focus (repeat (first | (with_reducible assumption) | (with_reducible exact At.new _ _) | (with_reducible refine At.row ?_) | ((with_reducible refine At.row_other ?_ ?_); rotate_left; (focus (simp <;> omega))) | (with_reducible refine At.app ?_) | (with_reducible refine At.tick ?_) | (with_reducible refine At.gx ?_) | ((with_reducible refine At.new' ?_); focus (simp; done)) | (with_reducible refine At.alloc ?_) | (with_reducible refine At.drew ?_) | (with_reducible exact Is.new _ _ _) | (with_reducible refine Is.row ?_) | ((with_reducible refine Is.row_other ?_ ?_); rotate_left; (focus (simp <;> omega))) | (with_reducible refine Is.gx ?_) | ((with_reducible refine Is.new' ?_); focus (simp; done)) | (with_reducible refine Is.alloc ?_) | (with_reducible refine Is.drew ?_))))
      · show At _ _ (.cells #[.int .i64 3, .int .i64 5] 3 (0, 0)); (focus (repeat (first | (with_reducible assumption) | (with_reducible exact At.new _ _) | (with_reducible refine At.row ?_) | ((with_reducible refine At.row_other ?_ ?_); rotate_left; (focus (simp <;> omega))) | (with_reducible refine At.app ?_) | (with_reducible refine At.tick ?_) | (with_reducible refine At.gx ?_) | ((with_reducible refine At.new' ?_); focus (simp; done)) | (with_reducible refine At.alloc ?_) | (with_reducible refine At.drew ?_) | (with_reducible exact Is.new _ _ _) | (with_reducible refine Is.row ?_) | ((with_reducible refine Is.row_other ?_ ?_); rotate_left; (focus (simp <;> omega))) | (with_reducible refine Is.gx ?_) | ((with_reducible refine Is.new' ?_); focus (simp; done)) | (with_reducible refine Is.alloc ?_) | (with_reducible refine Is.drew ?_))))
      · show At _ _ (.cells #[.int .i64 3] 3 (0, 0)); (focus (repeat (first | (with_reducible assumption) | (with_reducible exact At.new _ _) | (with_reducible refine At.row ?_) | ((with_reducible refine At.row_other ?_ ?_); rotate_left; (focus (simp <;> omega))) | (with_reducible refine At.app ?_) | (with_reducible refine At.tick ?_) | (with_reducible refine At.gx ?_) | ((with_reducible refine At.new' ?_); focus (simp; done)) | (with_reducible refine At.alloc ?_) | (with_reducible refine At.drew ?_) | (with_reducible exact Is.new _ _ _) | (with_reducible refine Is.row ?_) | ((with_reducible refine Is.row_other ?_ ?_); rotate_left; (focus (simp <;> omega))) | (with_reducible refine Is.gx ?_) | ((with_reducible refine Is.new' ?_); focus (simp; done)) | (with_reducible refine Is.alloc ?_) | (with_reducible refine Is.drew ?_))))
      · show At _ _ (.cells #[.int .i64 6] 3 (0, 0)); (focus (repeat (first | (with_reducible assumption) | (with_reducible exact At.new _ _) | (with_reducible refine At.row ?_) | ((with_reducible refine At.row_other ?_ ?_); rotate_left; (focus (simp <;> omega))) | (with_reducible refine At.app ?_) | (with_reducible refine At.tick ?_) | (with_reducible refine At.gx ?_) | ((with_reducible refine At.new' ?_); focus (simp; done)) | (with_reducible refine At.alloc ?_) | (with_reducible refine At.drew ?_) | (with_reducible exact Is.new _ _ _) | (with_reducible refine Is.row ?_) | ((with_reducible refine Is.row_other ?_ ?_); rotate_left; (focus (simp <;> omega))) | (with_reducible refine Is.gx ?_) | ((with_reducible refine Is.new' ?_); focus (simp; done)) | (with_reducible refine Is.alloc ?_) | (with_reducible refine Is.drew ?_))))
end Go.Proofs.YtbhcjaejkplfeaaGreatDoor
