/-
  Sorted of the reference: numbers in order, by insertion.
-/
import Derived.Test.YtmpokfbliacmoaaDoorSCmbQ
import Derived.Test.YtmpokfbliacmoaaDoorSRRange
import Derived.Test.YtmpokfbliacmoaaDoorSMedP
import Derived.Deep.RegionHeld3
namespace Go.Proofs.YtmpokfbliacmoaaDoor
open Go.RowKit
-- AT2
-- AT3

/-- Numbers as they stand. -/
def iC (zs : List Int) : List Value := zs.map fun z => .int .i64 z
theorem iC_len (zs : List Int) : (iC zs).length = zs.length := by unfold iC; rw [List.length_map]
theorem iC_one (zs : List Int) : ∀ u ∈ iC zs, u.oneCell' = true := fun u h => by
  unfold iC at h
  obtain ⟨z, _, rfl⟩ := List.mem_map.1 h
  rfl
theorem iC_at {zs : List Int} {k : Nat} (h : k < zs.length) : (iC zs)[k]? = some (.int .i64 (zs.getD k 0)) := by
  unfold iC
  rw [List.getElem?_map, List.getElem?_eq_getElem h]
  simp [List.getD, h]
/-- A block of the call's own memory that holds numbers. -/
structure IntSt (w wr : World) (gM : Nat) (xs : List Int) : Prop where
  grew : ∃ x, wr = gx w x
  low : w.heap.size ≤ gM
  is : Is wr gM 3
  cells : ∀ k, k < xs.length → wr.cell? ⟨gM, k, none⟩ = some (.int .i64 (xs.getD k 0))
theorem IntSt.gx {w wr : World} {gM : Nat} {xs : List Int} {x : Ext} (h : IntSt w wr gM xs) : IntSt w (gx wr x) gM xs :=
  ⟨Gx.gx h.grew, h.low, h.is.gx, fun k hk => cell_keep_gx (h.cells k hk)⟩
theorem IntSt.drew {w wr : World} {gM : Nat} {xs : List Int} (h : IntSt w wr gM xs) : IntSt w wr.drew gM xs := by rw [drew_is]; exact h.gx
theorem IntSt.drewN {w wr : World} {gM n : Nat} {xs : List Int} (h : IntSt w wr gM xs) : IntSt w (wr.drewN n) gM xs := by rw [drewN_is]; exact h.gx
theorem getD_set (xs : List Int) (i k : Nat) (v : Int) (h : i < xs.length) : (xs.set i v).getD k 0 = if k = i then v else xs.getD k 0 := by
  by_cases e : k = i
  · subst e; simp [List.getD, h]
  · rw [if_neg e]; simp [List.getD, Ne.symm e]
theorem IntSt.swap {w wr : World} {gM i j : Nat} {xs : List Int} (h : IntSt w wr gM xs) (hi : i < xs.length) (hj : j < xs.length) {a b : Int} :
    IntSt w ((wr.setCell ⟨gM, i, none⟩ (.int .i64 a)).setCell ⟨gM, j, none⟩ (.int .i64 b)) gM ((xs.set i a).set j b) := by
  have ne : ∀ i j : Nat, i ≠ j → (⟨gM, i, none⟩ : Addr) ≠ ⟨gM, j, none⟩ := fun i j hij e => by injection e with _ e2; exact hij e2
  have one : ∀ {wr : World} {xs : List Int} {i : Nat} {a : Int}, IntSt w wr gM xs → i < xs.length → IntSt w (wr.setCell ⟨gM, i, none⟩ (.int .i64 a)) gM (xs.set i a) := fun {wr xs i a} h hi => by
    refine ⟨Gx.setCell h.grew h.low, h.low, h.is.setc, fun k hk => ?_⟩
    rw [List.length_set] at hk
    rw [getD_set xs i k a hi]
    by_cases e : k = i
    · subst e; rw [if_pos rfl]; exact World.cell?_setCell_same _ _ _ (h.cells _ hk)
    · rw [if_neg e]; exact setc_other (h.cells k hk) (ne _ _ (Ne.symm e))
  exact one (one h hi) (by rw [List.length_set]; exact hj)
/-- The numbers while one of them goes down: those ahead of k are in order, so are those behind it up to i, and it is not above these. -/
structure InsAt (zs xs : List Int) (i k : Nat) : Prop where
  perm : xs.Perm zs
  low : k ≤ i
  ahead : ∀ a b, a < b → b ≤ i → a ≠ k → b ≠ k → xs.getD a 0 ≤ xs.getD b 0
  behind : ∀ b, k < b → b ≤ i → xs.getD k 0 ≤ xs.getD b 0
theorem InsAt.start {zs xs : List Int} {i : Nat} (hp : xs.Perm zs) (h : ∀ a b, a < b → b < i → xs.getD a 0 ≤ xs.getD b 0) : InsAt zs xs i i :=
  ⟨hp, Nat.le_refl _, fun a b h1 h2 h3 h4 => h a b h1 (by omega), fun b h1 h2 => by omega⟩
theorem InsAt.down {zs xs : List Int} {i k : Nat} (h : InsAt zs xs i (k + 1)) (hi : i < xs.length) (hlt : xs.getD (k + 1) 0 < xs.getD k 0) : InsAt zs ((xs.set (k + 1) (xs.getD k 0)).set k (xs.getD (k + 1) 0)) i k := by
  have h1 := h.low
  have hk1 : k + 1 < xs.length := by omega
  have hk : k < xs.length := by omega
  have key : ∀ j, ((xs.set (k + 1) (xs.getD k 0)).set k (xs.getD (k + 1) 0)).getD j 0 = if j = k then xs.getD (k + 1) 0 else if j = k + 1 then xs.getD k 0 else xs.getD j 0 := fun j => by
    rw [getD_set _ _ _ _ (by rw [List.length_set]; exact hk)]
    split
    · rfl
    · rw [getD_set _ _ _ _ hk1]
  refine ⟨?_, by omega, fun a b hab hb ha hbk => ?_, fun b hkb hb => ?_⟩
  · have e1 : xs.getD k 0 = xs[k] := by simp [List.getD, hk]
    have e2 : xs.getD (k + 1) 0 = xs[k + 1] := by simp [List.getD, hk1]
    rw [e1, e2]
    exact (List.set_set_perm hk1 hk).trans h.perm
  · rw [key, key, if_neg ha, if_neg hbk]
    by_cases ea : a = k + 1
    · subst ea
      rw [if_pos rfl, if_neg (by omega)]
      exact h.ahead k b (by omega) hb (by omega) (by omega)
    · rw [if_neg ea]
      by_cases eb : b = k + 1
      · subst eb
        rw [if_pos rfl]
        exact h.ahead a k (by omega) (by omega) (by omega) (by omega)
      · rw [if_neg eb]
        exact h.ahead a b hab hb (by omega) (by omega)
  · rw [key, key, if_pos rfl, if_neg (by omega)]
    by_cases eb : b = k + 1
    · subst eb
      rw [if_pos rfl]; omega
    · rw [if_neg eb]
      exact h.behind b (by omega) hb
theorem InsAt.fin {zs xs : List Int} {i k : Nat} (h : InsAt zs xs i k) (hk : k = 0 ∨ ∃ j, k = j + 1 ∧ xs.getD j 0 ≤ xs.getD k 0) : ∀ a b, a < b → b < i + 1 → xs.getD a 0 ≤ xs.getD b 0 := fun a b hab hb => by
  have hl := h.low
  by_cases eb : b = k
  · subst eb
    rcases hk with e | ⟨j, e, hj⟩
    · omega
    · by_cases ea : a = j
      · subst ea; exact hj
      · have := h.ahead a j (by omega) (by omega) (by omega) (by omega)
        omega
  · by_cases ea : a = k
    · subst ea; exact h.behind b hab (by omega)
    · exact h.ahead a b hab (by omega) ea eb
theorem sorted_of {zs xs : List Int} (hp : xs.Perm zs) (h : ∀ a b, a < b → b < xs.length → xs.getD a 0 ≤ xs.getD b 0) : xs = srt zs := by
  refine srt_uniq hp (List.pairwise_iff_getElem.2 fun i j hi hj hij => ?_)
  have := h i j hij hj
  simpa [List.getD, hi, hj] using this
end Go.Proofs.YtmpokfbliacmoaaDoor
