/-
  Slices of samples that a function makes and fills.
-/
import Derived.Test.YtmpokfbliacmoaaDoorSTold
import Derived.BigRegion
namespace Go.Proofs.YtmpokfbliacmoaaDoor
open Go.RowKit
-- AT2
-- AT3

theorem make_sms (n : Nat) (hn : n ≤ 1000000) : ∃ C : Array Value, C.size = n * 3 ∧ ∀ w : World, (Instr.makeSlice 22 (.int .i64 (n : Int)) (.int .i64 (n : Int))).run Tryd.prog w = .ok (.slice (some ⟨w.heap.size, 0, none⟩) n n) (w.alloc (.cells C 38)) := by
  have hE : Elem 22 38 3 24 := elem_of Tryd.underlying22 (by decide) (z := .agg #[.int .i64 0, .int .i64 0, .int .i64 0]) (by kernel_rfl) rfl
  obtain ⟨ht, hp, i, z, hi, hz, hsize, hby, hzs⟩ := hE
  refine ⟨madeCells z.cells (n * 3), ?_, fun w => ?_⟩
  · exact size_madeCells _ _
  · have := run_make (P := Tryd.prog) w 22 38 i z ht hi hz .i64 .i64 n n (by omega) (Int.le_refl _) (by rw [hby]; omega) (by omega)
    rw [hsize, Int.toNat_natCast] at this
    exact this
theorem setc_other {W : World} {p q : Addr} {u v : Value} (h : W.cell? q = some v) (hne : p ≠ q) : (W.setCell p u).cell? q = some v := (World.cell?_setCell_other _ _ _ _ hne).trans h
theorem At.setc_other {W : World} {g K o : Nat} {u : Value} {ob : Obj} (h : At W g ob) (hne : K ≠ g) : At (W.setCell ⟨K, o, none⟩ u) g ob := by
  unfold At at *
  simp only [World.setCell]
  rw [Array.getElem?_modify, if_neg hne]
  exact h
theorem Is.setc {W : World} {g K o : Nat} {u : Value} {t : TypeId} (h : Is W g t) : Is (W.setCell ⟨K, o, none⟩ u) g t := by
  obtain ⟨cs, h⟩ := h
  by_cases e : K = g
  · subst e
    unfold At at h
    refine ⟨cs.setIfInBounds o u, ?_⟩
    unfold At
    simp [World.setCell, Array.getElem?_modify, h]
  · exact ⟨cs, At.setc_other h e⟩
/-- A block of n samples, of which the first k are f 0 .. f (k - 1). -/
structure MadeAt (wr : World) (gM n k : Nat) (f : Nat → Sm) : Prop where
  is : Is wr gM 38
  all : ∀ j, j < n * 3 → ∃ v, wr.cell? ⟨gM, j, none⟩ = some v
  t : ∀ i, i < k → wr.cell? ⟨gM, i * 3, none⟩ = some (.int .i64 (f i).t)
  n' : ∀ i, i < k → wr.cell? ⟨gM, i * 3 + 1, none⟩ = some (.int .i64 (f i).n)
  m : ∀ i, i < k → wr.cell? ⟨gM, i * 3 + 2, none⟩ = some (.int .i64 (f i).m)
theorem MadeAt.lt {wr : World} {gM n k : Nat} {f : Nat → Sm} (h : MadeAt wr gM n k f) : gM < wr.heap.size := by
  obtain ⟨cs, hA⟩ := h.is
  exact hA.lt
theorem MadeAt.gx {wr : World} {gM n k : Nat} {f : Nat → Sm} {x : Ext} (h : MadeAt wr gM n k f) : MadeAt (gx wr x) gM n k f :=
  ⟨h.is.gx, fun j hj => (h.all j hj).imp fun _ e => cell_keep_gx e, fun i hi => cell_keep_gx (h.t i hi), fun i hi => cell_keep_gx (h.n' i hi), fun i hi => cell_keep_gx (h.m i hi)⟩
theorem MadeAt.alloc {wr : World} {gM n k : Nat} {f : Nat → Sm} {o : Obj} (h : MadeAt wr gM n k f) : MadeAt (wr.alloc o) gM n k f := by rw [alloc_is]; exact h.gx
theorem MadeAt.far {wr : World} {gM n k : Nat} {f : Nat → Sm} {K o : Nat} {u : Value} (h : MadeAt wr gM n k f) (hne : K ≠ gM) : MadeAt (wr.setCell ⟨K, o, none⟩ u) gM n k f := by
  have key : ∀ j v, wr.cell? ⟨gM, j, none⟩ = some v → (wr.setCell ⟨K, o, none⟩ u).cell? ⟨gM, j, none⟩ = some v := fun j v e => setc_other e (fun e => by injection e with e1; exact hne e1)
  exact ⟨h.is.setc, fun j hj => (h.all j hj).imp fun _ e => key _ _ e, fun i hi => key _ _ (h.t i hi), fun i hi => key _ _ (h.n' i hi), fun i hi => key _ _ (h.m i hi)⟩
/-- The world in which the sample k was stored. -/
theorem MadeAt.put {wr : World} {gM n k : Nat} {f : Nat → Sm} (h : MadeAt wr gM n k f) (hk : k < n) {t' n' m' : Int} (ht : (f k).t = t') (hn : (f k).n = n') (hm : (f k).m = m') :
    MadeAt (((wr.setCell ⟨gM, k * 3, none⟩ (.int .i64 t')).setCell ⟨gM, k * 3 + 1, none⟩ (.int .i64 n')).setCell ⟨gM, k * 3 + 2, none⟩ (.int .i64 m')) gM n (k + 1) f := by
  have a0 := h.all (k * 3) (by omega)
  have a1 := h.all (k * 3 + 1) (by omega)
  have a2 := h.all (k * 3 + 2) (by omega)
  obtain ⟨v0, a0⟩ := a0
  obtain ⟨v1, a1⟩ := a1
  obtain ⟨v2, a2⟩ := a2
  have ne : ∀ i j : Nat, i ≠ j → (⟨gM, i, none⟩ : Addr) ≠ ⟨gM, j, none⟩ := fun i j hij e => by injection e with _ e2; exact hij e2
  have far : ∀ j v, j ≠ k * 3 → j ≠ k * 3 + 1 → j ≠ k * 3 + 2 → wr.cell? ⟨gM, j, none⟩ = some v → (((wr.setCell ⟨gM, k * 3, none⟩ (.int .i64 t')).setCell ⟨gM, k * 3 + 1, none⟩ (.int .i64 n')).setCell ⟨gM, k * 3 + 2, none⟩ (.int .i64 m')).cell? ⟨gM, j, none⟩ = some v := fun j v h0 h1 h2 e =>
    setc_other (setc_other (setc_other e (ne _ _ (Ne.symm h0))) (ne _ _ (Ne.symm h1))) (ne _ _ (Ne.symm h2))
  have s0 : (((wr.setCell ⟨gM, k * 3, none⟩ (.int .i64 t')).setCell ⟨gM, k * 3 + 1, none⟩ (.int .i64 n')).setCell ⟨gM, k * 3 + 2, none⟩ (.int .i64 m')).cell? ⟨gM, k * 3, none⟩ = some (.int .i64 t') :=
    setc_other (setc_other (World.cell?_setCell_same _ _ _ a0) (ne _ _ (by omega))) (ne _ _ (by omega))
  have s1 : (((wr.setCell ⟨gM, k * 3, none⟩ (.int .i64 t')).setCell ⟨gM, k * 3 + 1, none⟩ (.int .i64 n')).setCell ⟨gM, k * 3 + 2, none⟩ (.int .i64 m')).cell? ⟨gM, k * 3 + 1, none⟩ = some (.int .i64 n') :=
    setc_other (World.cell?_setCell_same _ _ _ (setc_other a1 (ne _ _ (by omega)))) (ne _ _ (by omega))
  have s2 : (((wr.setCell ⟨gM, k * 3, none⟩ (.int .i64 t')).setCell ⟨gM, k * 3 + 1, none⟩ (.int .i64 n')).setCell ⟨gM, k * 3 + 2, none⟩ (.int .i64 m')).cell? ⟨gM, k * 3 + 2, none⟩ = some (.int .i64 m') :=
    World.cell?_setCell_same _ _ _ (setc_other (setc_other a2 (ne _ _ (by omega))) (ne _ _ (by omega)))
  refine ⟨h.is.setc.setc.setc, fun j hj => ?_, fun i hi => ?_, fun i hi => ?_, fun i hi => ?_⟩
  · by_cases e0 : j = k * 3
    · subst e0; exact ⟨_, s0⟩
    · by_cases e1 : j = k * 3 + 1
      · subst e1; exact ⟨_, s1⟩
      · by_cases e2 : j = k * 3 + 2
        · subst e2; exact ⟨_, s2⟩
        · obtain ⟨v, e⟩ := h.all j hj
          exact ⟨v, far j v e0 e1 e2 e⟩
  · rcases Nat.lt_or_ge i k with h1 | h1
    · exact far _ _ (by omega) (by omega) (by omega) (h.t i h1)
    · obtain rfl : i = k := by omega
      rw [ht]; exact s0
  · rcases Nat.lt_or_ge i k with h1 | h1
    · exact far _ _ (by omega) (by omega) (by omega) (h.n' i h1)
    · obtain rfl : i = k := by omega
      rw [hn]; exact s1
  · rcases Nat.lt_or_ge i k with h1 | h1
    · exact far _ _ (by omega) (by omega) (by omega) (h.m i h1)
    · obtain rfl : i = k := by omega
      rw [hm]; exact s2
theorem MadeAt.new {wr : World} {C : Array Value} {gM n : Nat} {f : Nat → Sm} (hA : At wr gM (.cells C 38 (0, 0))) (hC : C.size = n * 3) : MadeAt wr gM n 0 f :=
  ⟨⟨C, hA⟩, fun j hj => ⟨C[j]'(by omega), by rw [cell_of_row wr _ _ _ _ _ hA, Array.getElem?_eq_getElem (by omega)]⟩, fun i hi => by omega, fun i hi => by omega, fun i hi => by omega⟩
theorem MadeAt.sm {wr : World} {gM n : Nat} {f : Nat → Sm} (h : MadeAt wr gM n n f) : SmAt wr f n (some ⟨gM, 0, none⟩) :=
  SmAt.mk fun _ => ⟨gM, 0, rfl, fun k hk => by
    rw [Nat.zero_add]; exact ⟨h.t k hk, h.n' k hk, h.m k hk⟩⟩
theorem MadeAt.frz {wr : World} {gM n k o : Nat} {f : Nat → Sm} (h : MadeAt wr gM n k f) : wr.frozen? ⟨gM, o, none⟩ = false := by
  obtain ⟨cs, hA⟩ := h.is
  exact hA.frz
end Go.Proofs.YtmpokfbliacmoaaDoor
