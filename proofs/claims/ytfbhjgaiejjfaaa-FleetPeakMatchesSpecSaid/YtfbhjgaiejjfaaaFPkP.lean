/-
  Peaks: the greatest number of the solid samples in a window; pure.
-/
import Derived.Test.YtfbhjgaiejjfaaaFSm
namespace Go.Proofs.Ytfbhjgaiejjfaaa
open Go.RowKit

/-- A sample counts in the frames from fr to to. -/
@[irreducible] def inW (fr to : Int) (x : Sm) : Prop := 3 ≤ x.m ∧ 64 * fr ≤ x.t ∧ x.t ≤ 64 * to + 63
theorem inW_iff {fr to : Int} {x : Sm} : inW fr to x ↔ 3 ≤ x.m ∧ 64 * fr ≤ x.t ∧ x.t ≤ 64 * to + 63 := by unfold inW; exact Iff.rfl
/-- v is the greatest number of the samples among the first n that count, or there is none. -/
@[irreducible] def IsMx (g : Nat → Sm) (n : Nat) (fr to v : Int) (b : Bool) : Prop := (b = true ∧ (∃ k, k < n ∧ inW fr to (g k) ∧ (g k).n = v) ∧ ∀ k, k < n → inW fr to (g k) → (g k).n ≤ v) ∨ (b = false ∧ v = 0 ∧ ∀ k, k < n → ¬ inW fr to (g k))
theorem IsMx.out {g : Nat → Sm} {n : Nat} {fr to v : Int} {b : Bool} (h : IsMx g n fr to v b) : (b = true ∧ (∃ k, k < n ∧ inW fr to (g k) ∧ (g k).n = v) ∧ ∀ k, k < n → inW fr to (g k) → (g k).n ≤ v) ∨ (b = false ∧ v = 0 ∧ ∀ k, k < n → ¬ inW fr to (g k)) := by unfold IsMx at h; exact h
theorem IsMx.yes {g : Nat → Sm} {n : Nat} {fr to v : Int} (h : ∃ k, k < n ∧ inW fr to (g k) ∧ (g k).n = v) (h2 : ∀ k, k < n → inW fr to (g k) → (g k).n ≤ v) : IsMx g n fr to v true := by unfold IsMx; exact .inl ⟨rfl, h, h2⟩
theorem IsMx.no {g : Nat → Sm} {n : Nat} {fr to : Int} (h : ∀ k, k < n → ¬ inW fr to (g k)) : IsMx g n fr to 0 false := by unfold IsMx; exact .inr ⟨rfl, rfl, h⟩
theorem IsMx.eq {g : Nat → Sm} {n : Nat} {fr to v v' : Int} {b b' : Bool} (h : IsMx g n fr to v b) (h' : IsMx g n fr to v' b') : v = v' ∧ b = b' := by
  rcases h.out with ⟨rfl, ⟨k, hk, hi, hv⟩, hm⟩ | ⟨rfl, rfl, hn⟩
  · rcases h'.out with ⟨rfl, ⟨k', hk', hi', hv'⟩, hm'⟩ | ⟨rfl, rfl, hn'⟩
    · have a1 := hm k' hk' hi'
      have a2 := hm' k hk hi
      exact ⟨by omega, rfl⟩
    · exact absurd hi (hn' k hk)
  · rcases h'.out with ⟨rfl, ⟨k', hk', hi', hv'⟩, hm'⟩ | ⟨rfl, rfl, hn'⟩
    · exact absurd hi' (hn k' hk')
    · exact ⟨rfl, rfl⟩
theorem IsMx.skip {g : Nat → Sm} {k : Nat} {fr to v : Int} {b : Bool} (h : IsMx g k fr to v b) (hn : ¬ inW fr to (g k)) : IsMx g (k + 1) fr to v b := by
  rcases h.out with ⟨rfl, ⟨j, hj, hi, hv⟩, hm⟩ | ⟨rfl, rfl, hno⟩
  · refine IsMx.yes ⟨j, by omega, hi, hv⟩ fun i hi' hw => ?_
    by_cases e : i = k
    · subst e; exact absurd hw hn
    · exact hm i (by omega) hw
  · refine IsMx.no fun i hi' hw => ?_
    by_cases e : i = k
    · subst e; exact hn hw
    · exact hno i (by omega) hw
theorem IsMx.take {g : Nat → Sm} {k : Nat} {fr to v : Int} {b : Bool} (h : IsMx g k fr to v b) (hn : inW fr to (g k)) (hv : b = false ∨ v < (g k).n) : IsMx g (k + 1) fr to (g k).n true := by
  refine IsMx.yes ⟨k, by omega, hn, rfl⟩ fun i hi hw => ?_
  by_cases e : i = k
  · subst e; exact Int.le_refl _
  · rcases h.out with ⟨rfl, -, hm⟩ | ⟨rfl, rfl, hno⟩
    · have := hm i (by omega) hw
      rcases hv with h' | h'
      · exact absurd h' (by decide)
      · omega
    · exact absurd hw (hno i (by omega))
theorem IsMx.stay {g : Nat → Sm} {k : Nat} {fr to v : Int} (h : IsMx g k fr to v true) (hv : (g k).n ≤ v) : IsMx g (k + 1) fr to v true := by
  rcases h.out with ⟨-, ⟨j, hj, hi, he⟩, hm⟩ | ⟨h', -⟩
  · refine IsMx.yes ⟨j, by omega, hi, he⟩ fun i hi' hw => ?_
    by_cases e : i = k
    · subst e; exact hv
    · exact hm i (by omega) hw
  · exact absurd h' (by decide)
theorem mem_solL {g : Nat → Sm} : ∀ {n k : Nat}, k ∈ solL g n ↔ k < n ∧ 3 ≤ (g k).m
  | 0, k => by unfold solL; simp
  | n + 1, k => by
    by_cases h : 3 ≤ (g n).m
    · rw [solL_yes h, List.mem_append, mem_solL, List.mem_singleton]
      constructor
      · rintro (⟨h1, h2⟩ | rfl)
        · exact ⟨by omega, h2⟩
        · exact ⟨by omega, h⟩
      · rintro ⟨h1, h2⟩
        by_cases e : k = n
        · exact .inr e
        · exact .inl ⟨by omega, h2⟩
    · rw [solL_no h, mem_solL]
      constructor
      · rintro ⟨h1, h2⟩; exact ⟨by omega, h2⟩
      · rintro ⟨h1, h2⟩
        refine ⟨?_, h2⟩
        by_cases e : k = n
        · subst e; exact absurd h2 h
        · omega
theorem rgHi_ge (g : Nat → Sm) (L : List Nat) : ∀ k p, p < k → (g (L.getD p 0)).n ≤ rgHi g L k
  | 0, p, h => absurd h (by omega)
  | k + 1, p, h => by
    unfold rgHi
    by_cases e : p = k
    · subst e; omega
    · have := rgHi_ge g L k p (by omega)
      omega
theorem rgHi_at (g : Nat → Sm) (L : List Nat) (hl : 0 < L.length) : ∀ k, k ≤ L.length → ∃ p, p < L.length ∧ rgHi g L k = (g (L.getD p 0)).n
  | 0, _ => ⟨0, hl, by unfold rgHi; rfl⟩
  | k + 1, h => by
    obtain ⟨p, hp, e⟩ := rgHi_at g L hl k (by omega)
    unfold rgHi
    by_cases h1 : rgHi g L k ≤ (g (L.getD k 0)).n
    · exact ⟨k, by omega, by omega⟩
    · exact ⟨p, hp, by omega⟩
theorem getD_mem {L : List Nat} {p : Nat} (h : p < L.length) : L.getD p 0 ∈ L := by
  simp [List.getD, h]
theorem mem_getD {L : List Nat} {x : Nat} (h : x ∈ L) : ∃ p, p < L.length ∧ L.getD p 0 = x := by
  obtain ⟨p, hp, e⟩ := List.getElem_of_mem h
  exact ⟨p, hp, by simp [List.getD, hp, e]⟩
theorem goodS_part {g : Nat → Sm} {n i j : Nat} (h : GoodS g n) (hj : j ≤ n) : GoodS (ptF g i) (j - i) := by
  obtain ⟨h1, h2, h3⟩ := h
  refine ⟨fun k hk => h1 _ (by omega), fun k hk => h2 _ (by omega), fun k hk => ?_⟩
  have := h3 (i + k) (by omega)
  unfold ptF
  rw [show i + (k + 1) = i + k + 1 by omega]
  exact this
/-- Part and Range find the greatest number of a window. -/
theorem peak_is {den : Int} {g : Nat → Sm} {n : Nat} (h : serE den g n = 0) {fr to : Int} (hf : 0 ≤ fr ∧ fr ≤ to ∧ to < 4194304) :
    ptE den g n (64 * fr) (64 * (to + 1)) = 0 ∧ IsMx g n fr to (rgB den (ptF g (aheadN g (64 * fr) n)) (aheadN g (64 * (to + 1)) n - aheadN g (64 * fr) n)) (decide (rgE den (ptF g (aheadN g (64 * fr) n)) (aheadN g (64 * (to + 1)) n - aheadN g (64 * fr) n) = 0)) := by
  obtain ⟨hd, hn, hG⟩ := goodS_of h
  refine ⟨ptE_3 h (by omega), ?_⟩
  have A1 := aheadN_is hG (64 * fr)
  have A2 := aheadN_is hG (64 * (to + 1))
  have l1 := aheadN_le g (64 * fr) n
  have l2 := aheadN_le g (64 * (to + 1)) n
  have l3 := aheadN_mono g (show 64 * fr ≤ 64 * (to + 1) by omega) n
  generalize aheadN g (64 * fr) n = i at *
  generalize aheadN g (64 * (to + 1)) n = j at *
  have h0 : serE den (ptF g i) (j - i) = 0 := goodS_back hd (by omega) (goodS_part hG (by omega))
  have hw : ∀ k, k < n → (inW fr to (g k) ↔ 3 ≤ (g k).m ∧ i ≤ k ∧ k < j) := fun k hk => by
    rw [inW_iff]
    constructor
    · rintro ⟨a, b, c⟩
      refine ⟨a, ?_, ?_⟩
      · by_cases q : i ≤ k
        · exact q
        · have := A1.1 k (by omega); omega
      · by_cases q : k < j
        · exact q
        · have := A2.2 k (by omega) hk; omega
    · rintro ⟨a, b, c⟩
      have := A1.2 k b hk
      have := A2.1 k c
      exact ⟨a, by omega, by omega⟩
  by_cases hl : (solL (ptF g i) (j - i)).length = 0
  · obtain ⟨e1, e2, e3⟩ := rg_2 h0 hl
    rw [e1, e3]
    refine IsMx.no fun k hk hin => ?_
    obtain ⟨a, b, c⟩ := (hw k hk).1 hin
    have : k - i ∈ solL (ptF g i) (j - i) := mem_solL.2 ⟨by omega, by unfold ptF; rw [show i + (k - i) = k by omega]; exact a⟩
    rw [List.length_eq_zero_iff.1 hl] at this
    cases this
  · obtain ⟨e1, e2, e3⟩ := rg_3 h0 hl
    rw [e1, e3]
    refine IsMx.yes ?_ fun k hk hin => ?_
    · obtain ⟨p, hp, e⟩ := rgHi_at (ptF g i) (solL (ptF g i) (j - i)) (by omega) _ (Nat.le_refl _)
      obtain ⟨m1, m2⟩ := mem_solL.1 (getD_mem hp)
      refine ⟨i + (solL (ptF g i) (j - i)).getD p 0, by omega, (hw _ (by omega)).2 ⟨m2, by omega, by omega⟩, ?_⟩
      rw [e]; rfl
    · obtain ⟨a, b, c⟩ := (hw k hk).1 hin
      have hm : k - i ∈ solL (ptF g i) (j - i) := mem_solL.2 ⟨by omega, by unfold ptF; rw [show i + (k - i) = k by omega]; exact a⟩
      obtain ⟨p, hp, e⟩ := mem_getD hm
      have := rgHi_ge (ptF g i) (solL (ptF g i) (j - i)) _ p hp
      rw [e] at this
      unfold ptF at this
      rw [show i + (k - i) = k by omega] at this
      exact this
end Go.Proofs.Ytfbhjgaiejjfaaa
