/-
  Spikes and doubts, as mathematics.
-/
import Derived.Test.YtjlokobgdkkppaaDoorSPureS
namespace Go.Proofs.YtjlokobgdkkppaaDoor

/-- A number that stands out from its two neighbours. -/
def spkP (a b c most : Int) : Prop := ((most < b - a ∧ most < b - c) ∨ (most < a - b ∧ most < c - b)) ∧ max (a - c) (c - a) ≤ most
instance (a b c most : Int) : Decidable (spkP a b c most) := by unfold spkP; exact inferInstance
/-- The same as the program asks it. -/
theorem spkP_iff {a b c most : Int} : spkP a b c most ↔ (most < max (b - a) (-(b - a)) ∧ most < max (b - c) (-(b - c)) ∧ ((0 < b - a) ↔ (0 < b - c)) ∧ max (b - a - (b - c)) (-(b - a - (b - c))) ≤ most) := by
  unfold spkP; omega
/-- Is the i-th of the numbers L the first of three whose middle one is a spike? -/
def spkB (g : Nat → Sm) (L : List Nat) (most : Int) (i : Nat) : Bool := decide (i + 2 < L.length ∧ spkP (g (L.getD i 0)).n (g (L.getD (i + 1) 0)).n (g (L.getD (i + 2) 0)).n most)
def spkL (g : Nat → Sm) (L : List Nat) (most : Int) : Nat → List Nat
  | 0 => []
  | k + 1 => if spkB g L most k = true then spkL g L most k ++ [L.getD (k + 1) 0] else spkL g L most k
theorem spkL_yes {g : Nat → Sm} {L : List Nat} {most : Int} {k : Nat} (h : spkB g L most k = true) : spkL g L most (k + 1) = spkL g L most k ++ [L.getD (k + 1) 0] := by
  show (if spkB g L most k = true then _ else _) = _; rw [if_pos h]
theorem spkL_no {g : Nat → Sm} {L : List Nat} {most : Int} {k : Nat} (h : spkB g L most k = false) : spkL g L most (k + 1) = spkL g L most k := by
  show (if spkB g L most k = true then _ else _) = _; rw [if_neg (by rw [h]; decide)]
theorem spkB_far {g : Nat → Sm} {L : List Nat} {most : Int} {k : Nat} (h : L.length ≤ k + 2) : spkB g L most k = false := by
  unfold spkB; exact decide_eq_false (by omega)
theorem spkL_far {g : Nat → Sm} {L : List Nat} {most : Int} {k : Nat} (h : L.length ≤ k + 2) : ∀ j, spkL g L most (k + j) = spkL g L most k
  | 0 => rfl
  | j + 1 => by
    show spkL g L most (k + j + 1) = _
    rw [spkL_no (spkB_far (by omega)), spkL_far h j]
theorem spkL_len (g : Nat → Sm) (L : List Nat) (most : Int) : ∀ k, (spkL g L most k).length ≤ k
  | 0 => Nat.le_refl _
  | k + 1 => by
    have := spkL_len g L most k
    cases h : spkB g L most k with
    | true => rw [spkL_yes h, List.length_append]; simp; omega
    | false => rw [spkL_no h]; omega
/-- Each spike is one of the numbers, and they rise as these do. -/
theorem spkL_in {g : Nat → Sm} {L : List Nat} {most : Int} {n : Nat} (hL : ∀ i, i < L.length → L.getD i 0 < n) (hr : ∀ i j, i < j → j < L.length → L.getD i 0 < L.getD j 0) : ∀ k, (∀ x ∈ spkL g L most k, x < n ∧ (k < L.length → x ≤ L.getD k 0)) ∧ (spkL g L most k).Pairwise (· < ·)
  | 0 => ⟨fun x hx => absurd hx (List.not_mem_nil), List.Pairwise.nil⟩
  | k + 1 => by
    obtain ⟨h1, h2⟩ := spkL_in (most := most) hL hr k
    cases h : spkB g L most k with
    | true =>
      rw [spkL_yes h]
      have hk : k + 2 < L.length := by unfold spkB at h; exact (of_decide_eq_true h).1
      refine ⟨fun x hx => ?_, ?_⟩
      · rcases List.mem_append.1 hx with e | e
        · obtain ⟨h3, h4⟩ := h1 x e
          have := hr k (k + 1) (by omega) (by omega)
          exact ⟨h3, fun h5 => by have := h4 (by omega); omega⟩
        · obtain rfl : x = L.getD (k + 1) 0 := by simpa using e
          exact ⟨hL _ (by omega), fun _ => Nat.le_refl _⟩
      · refine List.pairwise_append.2 ⟨h2, List.pairwise_singleton _ _, fun x hx y hy => ?_⟩
        obtain rfl : y = L.getD (k + 1) 0 := by simpa using hy
        have := (h1 x hx).2 (by omega)
        have := hr k (k + 1) (by omega) (by omega)
        omega
    | false =>
      rw [spkL_no h]
      refine ⟨fun x hx => ?_, h2⟩
      obtain ⟨h3, h4⟩ := h1 x hx
      exact ⟨h3, fun h5 => by have := h4 (by omega); have := hr k (k + 1) (by omega) (by omega); omega⟩
/-! Doubts. -/
/-- The first k of the numbers z are doubted. -/
def dbtF (g : Nat → Sm) (z : Nat → Int) : Nat → Nat → Sm
  | 0 => g
  | k + 1 => fun i => if (i : Int) = z k ∧ 3 ≤ (dbtF g z k i).m then ⟨(dbtF g z k i).t, (dbtF g z k i).n, 2⟩ else dbtF g z k i
theorem dbtF_yes {g : Nat → Sm} {z : Nat → Int} {k i : Nat} (h : z k = (i : Int)) (h3 : 3 ≤ (dbtF g z k i).m) : dbtF g z (k + 1) = fun j => if j = i then ⟨(dbtF g z k i).t, (dbtF g z k i).n, 2⟩ else dbtF g z k j := by
  funext j
  show (if (j : Int) = z k ∧ 3 ≤ (dbtF g z k j).m then _ else _) = _
  by_cases e : j = i
  · subst e; rw [if_pos ⟨h.symm, h3⟩, if_pos rfl]
  · rw [if_neg (fun h2 => e (by omega)), if_neg e]
theorem dbtF_no {g : Nat → Sm} {z : Nat → Int} {k i : Nat} (h : z k = (i : Int)) (h3 : ¬ 3 ≤ (dbtF g z k i).m) : dbtF g z (k + 1) = dbtF g z k := by
  funext j
  show (if (j : Int) = z k ∧ 3 ≤ (dbtF g z k j).m then _ else _) = _
  by_cases e : j = i
  · subst e; rw [if_neg (fun h2 => h3 h2.2)]
  · rw [if_neg (fun h2 => e (by omega))]
theorem dbtF_tn (g : Nat → Sm) (z : Nat → Int) : ∀ k i, (dbtF g z k i).t = (g i).t ∧ (dbtF g z k i).n = (g i).n ∧ ((dbtF g z k i).m = (g i).m ∨ (dbtF g z k i).m = 2)
  | 0, i => ⟨rfl, rfl, .inl rfl⟩
  | k + 1, i => by
    obtain ⟨h1, h2, h3⟩ := dbtF_tn g z k i
    by_cases e : (i : Int) = z k ∧ 3 ≤ (dbtF g z k i).m
    · have : dbtF g z (k + 1) i = ⟨(dbtF g z k i).t, (dbtF g z k i).n, 2⟩ := by
        show (if (i : Int) = z k ∧ 3 ≤ (dbtF g z k i).m then _ else _) = _
        rw [if_pos e]
      rw [this]
      exact ⟨h1, h2, .inr rfl⟩
    · have : dbtF g z (k + 1) i = dbtF g z k i := by
        show (if (i : Int) = z k ∧ 3 ≤ (dbtF g z k i).m then _ else _) = _
        rw [if_neg e]
      rw [this]
      exact ⟨h1, h2, h3⟩
/-- What is wrong with numbers that are to be doubted. -/
def inE (n : Nat) (z : Nat → Int) (i : Nat) : Int := if 0 ≤ z i ∧ z i < (n : Int) then 0 else 9
def riseE (z : Nat → Int) (i : Nat) : Int := if 0 < i ∧ z i ≤ z (i - 1) then 10 else 0
def dbtE (den : Int) (g : Nat → Sm) (n : Nat) (z : Nat → Int) (m : Nat) : Int := if serE den g n ≠ 0 then serE den g n else if firstOf (inE n z) m ≠ 0 then firstOf (inE n z) m else firstOf (riseE z) m
end Go.Proofs.YtjlokobgdkkppaaDoor
