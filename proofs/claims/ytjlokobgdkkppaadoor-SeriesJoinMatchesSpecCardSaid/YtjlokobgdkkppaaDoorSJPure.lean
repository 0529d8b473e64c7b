/-
  Two series joined, as mathematics.
-/
import Derived.Test.YtjlokobgdkkppaaDoorSPureS
namespace Go.Proofs.YtjlokobgdkkppaaDoor

/-- One sample of two at one time. -/
def agr (x y : Sm) : Sm := if x.m < y.m then y else if x.m = y.m ∧ x.n ≠ y.n then ⟨x.t, 0, 1⟩ else x
theorem agr_lt {x y : Sm} (h : x.m < y.m) : agr x y = y := by unfold agr; rw [if_pos h]
theorem agr_two {x y : Sm} (h : x.m = y.m) (h2 : x.n ≠ y.n) : agr x y = ⟨x.t, 0, 1⟩ := by unfold agr; rw [if_neg (by omega), if_pos ⟨h, h2⟩]
theorem agr_one {x y : Sm} (h : ¬ x.m < y.m) (h2 : ¬ (x.m = y.m ∧ x.n ≠ y.n)) : agr x y = x := by unfold agr; rw [if_neg h, if_neg h2]
theorem sm_ext {x y : Sm} (h1 : x.t = y.t) (h2 : x.n = y.n) (h3 : x.m = y.m) : x = y := by
  obtain ⟨a, b, c⟩ := x
  obtain ⟨d, e, f⟩ := y
  simp only at h1 h2 h3
  subst h1 h2 h3
  rfl
theorem agr_swap {x y : Sm} (h : x.t = y.t) : agr x y = agr y x := by
  rcases Int.lt_trichotomy x.m y.m with h1 | h1 | h1
  · rw [agr_lt h1, agr_one (by omega) (by omega)]
  · by_cases h2 : x.n = y.n
    · rw [sm_ext h h2 h1]
    · rw [agr_two h1 h2, agr_two h1.symm (fun e => h2 e.symm), h]
  · rw [agr_lt h1, agr_one (by omega) (by omega)]
attribute [irreducible] agr

structure Jn where
  i : Nat
  k : Nat
  out : List Sm
def jnStep (g : Nat → Sm) (n : Nat) (h : Nat → Sm) (m : Nat) (s : Jn) : Jn :=
  if s.i < n ∧ (m ≤ s.k ∨ (g s.i).t < (h s.k).t) then ⟨s.i + 1, s.k, s.out ++ [g s.i]⟩
  else if s.k < m ∧ (n ≤ s.i ∨ (h s.k).t < (g s.i).t) then ⟨s.i, s.k + 1, s.out ++ [h s.k]⟩
  else if s.i < n ∧ s.k < m then ⟨s.i + 1, s.k + 1, s.out ++ [agr (g s.i) (h s.k)]⟩
  else s
def jnAt (g : Nat → Sm) (n : Nat) (h : Nat → Sm) (m : Nat) : Nat → Jn
  | 0 => ⟨0, 0, []⟩
  | t + 1 => jnStep g n h m (jnAt g n h m t)
/-- All samples of both. -/
def jnL (g : Nat → Sm) (n : Nat) (h : Nat → Sm) (m : Nat) : List Sm := (jnAt g n h m (n + m)).out
def lfun (l : List Sm) (i : Nat) : Sm := l.getD i ⟨0, 0, 0⟩
section
variable {g : Nat → Sm} {n : Nat} {h : Nat → Sm} {m : Nat}
theorem jnStep_a {s : Jn} (h1 : s.i < n) (h2 : m ≤ s.k ∨ (g s.i).t < (h s.k).t) : jnStep g n h m s = ⟨s.i + 1, s.k, s.out ++ [g s.i]⟩ := by unfold jnStep; rw [if_pos ⟨h1, h2⟩]
theorem jnStep_b {s : Jn} (h1 : s.k < m) (h2 : n ≤ s.i ∨ (h s.k).t < (g s.i).t) : jnStep g n h m s = ⟨s.i, s.k + 1, s.out ++ [h s.k]⟩ := by unfold jnStep; rw [if_neg (by omega), if_pos ⟨h1, h2⟩]
theorem jnStep_ab {s : Jn} (h1 : s.i < n) (h2 : s.k < m) (h3 : (g s.i).t = (h s.k).t) : jnStep g n h m s = ⟨s.i + 1, s.k + 1, s.out ++ [agr (g s.i) (h s.k)]⟩ := by unfold jnStep; rw [if_neg (by omega), if_neg (by omega), if_pos ⟨h1, h2⟩]
theorem jnStep_no {s : Jn} (h1 : n ≤ s.i) (h2 : m ≤ s.k) : jnStep g n h m s = s := by unfold jnStep; rw [if_neg (by omega), if_neg (by omega), if_neg (by omega)]
theorem jn_le : ∀ t, (jnAt g n h m t).i ≤ n ∧ (jnAt g n h m t).k ≤ m ∧ (jnAt g n h m t).out.length ≤ (jnAt g n h m t).i + (jnAt g n h m t).k
  | 0 => ⟨Nat.zero_le _, Nat.zero_le _, Nat.le_refl _⟩
  | t + 1 => by
    obtain ⟨a, b, c⟩ := jn_le t
    show (jnStep g n h m (jnAt g n h m t)).i ≤ n ∧ (jnStep g n h m (jnAt g n h m t)).k ≤ m ∧ (jnStep g n h m (jnAt g n h m t)).out.length ≤ (jnStep g n h m (jnAt g n h m t)).i + (jnStep g n h m (jnAt g n h m t)).k
    generalize jnAt g n h m t = s at *
    unfold jnStep
    split
    · simp; omega
    · split
      · simp; omega
      · split
        · simp; omega
        · exact ⟨a, b, c⟩
theorem jn_grow : ∀ t, (n ≤ (jnAt g n h m t).i ∧ m ≤ (jnAt g n h m t).k) ∨ t ≤ (jnAt g n h m t).i + (jnAt g n h m t).k
  | 0 => .inr (Nat.zero_le _)
  | t + 1 => by
    have ih := jn_grow t
    show (n ≤ (jnStep g n h m (jnAt g n h m t)).i ∧ m ≤ (jnStep g n h m (jnAt g n h m t)).k) ∨ t + 1 ≤ (jnStep g n h m (jnAt g n h m t)).i + (jnStep g n h m (jnAt g n h m t)).k
    generalize jnAt g n h m t = s at *
    unfold jnStep
    split
    · simp; omega
    · split
      · simp; omega
      · split
        · simp; omega
        · left; omega
theorem jn_stop {t : Nat} (h1 : n ≤ (jnAt g n h m t).i) (h2 : m ≤ (jnAt g n h m t).k) : ∀ j, jnAt g n h m (t + j) = jnAt g n h m t
  | 0 => rfl
  | j + 1 => by
    show jnStep g n h m (jnAt g n h m (t + j)) = _
    rw [jn_stop h1 h2 j, jnStep_no h1 h2]
theorem jn_pre (t : Nat) : ∀ j, ∃ r, (jnAt g n h m (t + j)).out = (jnAt g n h m t).out ++ r
  | 0 => ⟨[], by simp⟩
  | j + 1 => by
    obtain ⟨r, hr⟩ := jn_pre t j
    show ∃ r, (jnStep g n h m (jnAt g n h m (t + j))).out = _
    generalize jnAt g n h m (t + j) = s at *
    unfold jnStep
    split
    · exact ⟨r ++ [g s.i], by simp [hr]⟩
    · split
      · exact ⟨r ++ [h s.k], by simp [hr]⟩
      · split
        · exact ⟨r ++ [agr (g s.i) (h s.k)], by simp [hr]⟩
        · exact ⟨r, hr⟩
theorem jn_full : n ≤ (jnAt g n h m (n + m)).i ∧ m ≤ (jnAt g n h m (n + m)).k := by
  have := jn_grow (g := g) (n := n) (h := h) (m := m) (n + m)
  have := jn_le (g := g) (n := n) (h := h) (m := m) (n + m)
  omega
/-- All that is there at some step is the beginning of all. -/
theorem jn_begin (t : Nat) : ∃ r, jnL g n h m = (jnAt g n h m t).out ++ r := by
  unfold jnL
  rcases Nat.le_total t (n + m) with h1 | h1
  · obtain ⟨r, hr⟩ := jn_pre (g := g) (n := n) (h := h) (m := m) t (n + m - t)
    rw [show t + (n + m - t) = n + m by omega] at hr
    exact ⟨r, hr⟩
  · obtain ⟨h2, h3⟩ := jn_full (g := g) (n := n) (h := h) (m := m)
    have := jn_stop h2 h3 (t - (n + m))
    rw [show n + m + (t - (n + m)) = t by omega] at this
    exact ⟨[], by rw [this, List.append_nil]⟩
theorem jn_end {t : Nat} (h1 : n ≤ (jnAt g n h m t).i) (h2 : m ≤ (jnAt g n h m t).k) : jnL g n h m = (jnAt g n h m t).out := by
  unfold jnL
  rcases Nat.le_total t (n + m) with h3 | h3
  · have := jn_stop h1 h2 (n + m - t)
    rw [show t + (n + m - t) = n + m by omega] at this
    rw [this]
  · obtain ⟨h4, h5⟩ := jn_full (g := g) (n := n) (h := h) (m := m)
    have := jn_stop h4 h5 (t - (n + m))
    rw [show n + m + (t - (n + m)) = t by omega] at this
    rw [this]
theorem jn_next {t : Nat} {x : Sm} (e : (jnStep g n h m (jnAt g n h m t)).out = (jnAt g n h m t).out ++ [x]) : lfun (jnL g n h m) (jnAt g n h m t).out.length = x := by
  obtain ⟨r, hr⟩ := jn_begin (g := g) (n := n) (h := h) (m := m) (t + 1)
  have e1 : (jnAt g n h m (t + 1)).out = (jnAt g n h m t).out ++ [x] := e
  rw [hr, e1]
  unfold lfun
  simp [List.getD]
end
/-- At some step of the joining i samples of the first and k of the second series are done, and q are there. -/
def Jst (g : Nat → Sm) (n : Nat) (h : Nat → Sm) (m : Nat) (i k q : Nat) : Prop := ∃ t, (jnAt g n h m t).i = i ∧ (jnAt g n h m t).k = k ∧ (jnAt g n h m t).out.length = q
section
variable {g : Nat → Sm} {n : Nat} {h : Nat → Sm} {m : Nat} {i k q : Nat}
theorem Jst.zero : Jst g n h m 0 0 0 := ⟨0, rfl, rfl, rfl⟩
theorem Jst.le (s : Jst g n h m i k q) : i ≤ n ∧ k ≤ m ∧ q ≤ i + k := by
  obtain ⟨t, rfl, rfl, rfl⟩ := s; exact jn_le t
theorem Jst.a (s : Jst g n h m i k q) (h1 : i < n) (h2 : m ≤ k ∨ (g i).t < (h k).t) : Jst g n h m (i + 1) k (q + 1) ∧ lfun (jnL g n h m) q = g i := by
  obtain ⟨t, rfl, rfl, rfl⟩ := s
  have e := jnStep_a (g := g) (n := n) (h := h) (m := m) h1 h2
  refine ⟨⟨t + 1, ?_, ?_, ?_⟩, jn_next (by rw [e])⟩
  · show (jnStep g n h m _).i = _; rw [e]
  · show (jnStep g n h m _).k = _; rw [e]
  · show (jnStep g n h m _).out.length = _; rw [e]; simp
theorem Jst.b (s : Jst g n h m i k q) (h1 : k < m) (h2 : n ≤ i ∨ (h k).t < (g i).t) : Jst g n h m i (k + 1) (q + 1) ∧ lfun (jnL g n h m) q = h k := by
  obtain ⟨t, rfl, rfl, rfl⟩ := s
  have e := jnStep_b (g := g) (n := n) (h := h) (m := m) h1 h2
  refine ⟨⟨t + 1, ?_, ?_, ?_⟩, jn_next (by rw [e])⟩
  · show (jnStep g n h m _).i = _; rw [e]
  · show (jnStep g n h m _).k = _; rw [e]
  · show (jnStep g n h m _).out.length = _; rw [e]; simp
theorem Jst.ab (s : Jst g n h m i k q) (h1 : i < n) (h2 : k < m) (h3 : (g i).t = (h k).t) : Jst g n h m (i + 1) (k + 1) (q + 1) ∧ lfun (jnL g n h m) q = agr (g i) (h k) := by
  obtain ⟨t, rfl, rfl, rfl⟩ := s
  have e := jnStep_ab (g := g) (n := n) (h := h) (m := m) h1 h2 h3
  refine ⟨⟨t + 1, ?_, ?_, ?_⟩, jn_next (by rw [e])⟩
  · show (jnStep g n h m _).i = _; rw [e]
  · show (jnStep g n h m _).k = _; rw [e]
  · show (jnStep g n h m _).out.length = _; rw [e]; simp
theorem Jst.fin (s : Jst g n h m n m q) : q = (jnL g n h m).length := by
  obtain ⟨t, h1, h2, rfl⟩ := s
  rw [jn_end (t := t) (by omega) (by omega)]
theorem Jst.resta (s : Jst g n h m i m q) : ∀ r, r ≤ n - i → Jst g n h m (i + r) m (q + r) ∧ ∀ j, j < r → lfun (jnL g n h m) (q + j) = g (i + j)
  | 0, _ => ⟨s, fun j hj => by omega⟩
  | r + 1, hr => by
    obtain ⟨s1, s2⟩ := s.resta r (by omega)
    obtain ⟨s3, s4⟩ := s1.a (by omega) (.inl (Nat.le_refl _))
    refine ⟨s3, fun j hj => ?_⟩
    rcases Nat.lt_or_ge j r with h1 | h1
    · exact s2 j h1
    · obtain rfl : j = r := by omega
      exact s4
theorem Jst.restb (s : Jst g n h m n k q) : ∀ r, r ≤ m - k → Jst g n h m n (k + r) (q + r) ∧ ∀ j, j < r → lfun (jnL g n h m) (q + j) = h (k + j)
  | 0, _ => ⟨s, fun j hj => by omega⟩
  | r + 1, hr => by
    obtain ⟨s1, s2⟩ := s.restb r (by omega)
    obtain ⟨s3, s4⟩ := s1.b (by omega) (.inl (Nat.le_refl _))
    refine ⟨s3, fun j hj => ?_⟩
    rcases Nat.lt_or_ge j r with h1 | h1
    · exact s2 j h1
    · obtain rfl : j = r := by omega
      exact s4
end
theorem jn_swap (g : Nat → Sm) (n : Nat) (h : Nat → Sm) (m : Nat) : ∀ t, jnAt h m g n t = ⟨(jnAt g n h m t).k, (jnAt g n h m t).i, (jnAt g n h m t).out⟩
  | 0 => rfl
  | t + 1 => by
    show jnStep h m g n (jnAt h m g n t) = ⟨(jnStep g n h m (jnAt g n h m t)).k, (jnStep g n h m (jnAt g n h m t)).i, (jnStep g n h m (jnAt g n h m t)).out⟩
    rw [jn_swap g n h m t]
    obtain ⟨a, b, c⟩ := jn_le (g := g) (n := n) (h := h) (m := m) t
    generalize jnAt g n h m t = s at *
    by_cases h1 : s.i < n ∧ (m ≤ s.k ∨ (g s.i).t < (h s.k).t)
    · rw [jnStep_a h1.1 h1.2, jnStep_b (s := ⟨s.k, s.i, s.out⟩) h1.1 h1.2]
    · by_cases h2 : s.k < m ∧ (n ≤ s.i ∨ (h s.k).t < (g s.i).t)
      · rw [jnStep_b h2.1 h2.2, jnStep_a (s := ⟨s.k, s.i, s.out⟩) h2.1 h2.2]
      · by_cases h3 : s.i < n ∧ s.k < m
        · have e : (g s.i).t = (h s.k).t := by omega
          rw [jnStep_ab h3.1 h3.2 e, jnStep_ab (s := ⟨s.k, s.i, s.out⟩) h3.2 h3.1 e.symm, agr_swap e]
        · rw [jnStep_no (g := g) (n := n) (h := h) (m := m) (s := s) (by omega) (by omega), jnStep_no (g := h) (n := m) (h := g) (m := n) (s := ⟨s.k, s.i, s.out⟩) (by show m ≤ s.k; omega) (by show n ≤ s.i; omega)]
theorem jnL_swap (g : Nat → Sm) (n : Nat) (h : Nat → Sm) (m : Nat) : jnL h m g n = jnL g n h m := by
  unfold jnL
  rw [jn_swap g n h m (m + n), Nat.add_comm]
/-- A property of all samples of both, and of two that are one, is one of all. -/
theorem jn_all {g : Nat → Sm} {n : Nat} {h : Nat → Sm} {m : Nat} {p : Sm → Prop} (h1 : ∀ i, i < n → p (g i)) (h2 : ∀ k, k < m → p (h k)) (h3 : ∀ i k, i < n → k < m → p (agr (g i) (h k))) : ∀ t, ∀ x ∈ (jnAt g n h m t).out, p x
  | 0, x, hx => by cases hx
  | t + 1, x, hx => by
    have ih := jn_all h1 h2 h3 t
    have hx' : x ∈ (jnStep g n h m (jnAt g n h m t)).out := hx
    generalize jnAt g n h m t = s at *
    unfold jnStep at hx'
    split at hx'
    · rename_i hc
      rcases List.mem_append.1 hx' with e | e
      · exact ih x e
      · obtain rfl : x = g s.i := by simpa using e
        exact h1 _ hc.1
    · split at hx'
      · rename_i hc
        rcases List.mem_append.1 hx' with e | e
        · exact ih x e
        · obtain rfl : x = h s.k := by simpa using e
          exact h2 _ hc.1
      · split at hx'
        · rename_i hc
          rcases List.mem_append.1 hx' with e | e
          · exact ih x e
          · obtain rfl : x = agr (g s.i) (h s.k) := by simpa using e
            exact h3 _ _ hc.1 hc.2
        · exact ih x hx'
theorem agr_ok {x y : Sm} (hx : smOk x) (hy : smOk y) : smOk (agr x y) := by
  by_cases h1 : x.m < y.m
  · rw [agr_lt h1]; exact hy
  · by_cases h2 : x.m = y.m ∧ x.n ≠ y.n
    · rw [agr_two h2.1 h2.2]
      unfold smOk at *
      exact ⟨hx.1, hx.2.1, by show (-1125899906842624 : Int) ≤ 0; decide, by show (0 : Int) ≤ 1125899906842624; decide, by show (0 : Int) ≤ 1; decide, by show (1 : Int) ≤ 4; decide⟩
    · rw [agr_one h1 h2]; exact hx
theorem jnL_ok {g : Nat → Sm} {n : Nat} {h : Nat → Sm} {m : Nat} (hg : GoodS g n) (hh : GoodS h m) {i : Nat} (hi : i < (jnL g n h m).length) : smOk (lfun (jnL g n h m) i) := by
  unfold lfun
  rw [List.getD, List.getElem?_eq_getElem hi]
  exact jn_all (fun i hi => hg.ok i hi) (fun k hk => hh.ok k hk) (fun i k hi hk => agr_ok (hg.ok i hi) (hh.ok k hk)) (n + m) _ (List.getElem_mem hi)
theorem jnL_len (g : Nat → Sm) (n : Nat) (h : Nat → Sm) (m : Nat) : (jnL g n h m).length ≤ n + m := by
  obtain ⟨a, b, c⟩ := jn_le (g := g) (n := n) (h := h) (m := m) (n + m)
  unfold jnL
  omega
attribute [irreducible] Jst jnL lfun
end Go.Proofs.YtjlokobgdkkppaaDoor
