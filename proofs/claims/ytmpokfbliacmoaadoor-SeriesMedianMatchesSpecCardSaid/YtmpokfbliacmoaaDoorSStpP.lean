/-
  Combinations of two series and the steepest change, as mathematics.
-/
import Derived.Test.YtmpokfbliacmoaaDoorSRatP
import Derived.Test.YtmpokfbliacmoaaDoorSCmbP
namespace Go.Proofs.YtmpokfbliacmoaaDoor

/-- How two numbers are combined. -/
def opN (op a b : Int) : Int := if op = 1 then a + b else if op = 2 then a - b else if op = 3 then min a b else if op = 4 then max a b else max (a - b) (b - a)
theorem opN_1 (a b : Int) : opN 1 a b = a + b := rfl
theorem opN_2 (a b : Int) : opN 2 a b = a - b := rfl
theorem opN_3 (a b : Int) : opN 3 a b = min a b := rfl
theorem opN_4 (a b : Int) : opN 4 a b = max a b := rfl
theorem opN_5 (a b : Int) : opN 5 a b = max (a - b) (b - a) := rfl
theorem opN_bound {op a b : Int} (ha : -1125899906842624 ≤ a ∧ a ≤ 1125899906842624) (hb : -1125899906842624 ≤ b ∧ b ≤ 1125899906842624) : -2251799813685248 ≤ opN op a b ∧ opN op a b ≤ 2251799813685248 := by
  unfold opN
  split
  · omega
  · split
    · omega
    · split
      · omega
      · split <;> omega
/-- The steepest change among the first i of the solid samples: how far, in how long, and the number of the sample. -/
def stP (g : Nat → Sm) (L : List Nat) (lg : Int) : Nat → Option (Nat × Nat × Nat)
  | 0 => none
  | 1 => none
  | i + 2 =>
    let s := stP g L lg (i + 1)
    let T := (g (L.getD (i + 1) 0)).t - (g (L.getD i 0)).t
    let N := ((g (L.getD (i + 1) 0)).n - (g (L.getD i 0)).n).natAbs
    if lg < T then s
    else match s with
      | none => some (N, T.toNat, L.getD (i + 1) 0)
      | some (p, q, j) => if p * T.toNat < N * q then some (N, T.toNat, L.getD (i + 1) 0) else some (p, q, j)
theorem stP_far {g : Nat → Sm} {L : List Nat} {lg : Int} {i : Nat} (h : lg < (g (L.getD (i + 1) 0)).t - (g (L.getD i 0)).t) : stP g L lg (i + 2) = stP g L lg (i + 1) := by
  show (if lg < _ then _ else _) = _
  rw [if_pos h]
theorem stP_first {g : Nat → Sm} {L : List Nat} {lg : Int} {i T N : Nat} (hT : (g (L.getD (i + 1) 0)).t - (g (L.getD i 0)).t = (T : Int)) (hN : ((g (L.getD (i + 1) 0)).n - (g (L.getD i 0)).n).natAbs = N) (h : ¬ lg < (T : Int)) (hs : stP g L lg (i + 1) = none) :
    stP g L lg (i + 2) = some (N, T, L.getD (i + 1) 0) := by
  show (if lg < _ then _ else _) = _
  rw [hT, if_neg h, hs, hN]
  rfl
theorem stP_more {g : Nat → Sm} {L : List Nat} {lg : Int} {i T N p q j : Nat} (hT : (g (L.getD (i + 1) 0)).t - (g (L.getD i 0)).t = (T : Int)) (hN : ((g (L.getD (i + 1) 0)).n - (g (L.getD i 0)).n).natAbs = N) (h : ¬ lg < (T : Int)) (hs : stP g L lg (i + 1) = some (p, q, j)) :
    stP g L lg (i + 2) = if p * T < N * q then some (N, T, L.getD (i + 1) 0) else some (p, q, j) := by
  show (if lg < _ then _ else _) = _
  rw [hT, if_neg h, hs, hN]
  rfl
/-- What is there is small. -/
theorem stP_ok {g : Nat → Sm} {L : List Nat} {lg : Int} (hb : ∀ i, i < L.length → 0 ≤ (g (L.getD i 0)).t ∧ (g (L.getD i 0)).t ≤ 1099511627776 ∧ -1125899906842624 ≤ (g (L.getD i 0)).n ∧ (g (L.getD i 0)).n ≤ 1125899906842624)
    (hinc : ∀ i, i + 1 < L.length → (g (L.getD i 0)).t < (g (L.getD (i + 1) 0)).t) : ∀ i, i ≤ L.length → ∀ p q j, stP g L lg i = some (p, q, j) → p ≤ 2251799813685248 ∧ 0 < q ∧ q ≤ 1099511627776 ∧ ∃ k, k < L.length ∧ j = L.getD k 0
  | 0, _, p, q, j, h => by cases h
  | 1, _, p, q, j, h => by cases h
  | i + 2, hi, p, q, j, h => by
    have ih := stP_ok (lg := lg) hb hinc (i + 1) (by omega)
    have b1 := hb i (by omega)
    have b2 := hb (i + 1) (by omega)
    have hlt := hinc i (by omega)
    by_cases hf : lg < (g (L.getD (i + 1) 0)).t - (g (L.getD i 0)).t
    · rw [stP_far hf] at h
      exact ih p q j h
    · obtain ⟨T, hT⟩ : ∃ T : Nat, (g (L.getD (i + 1) 0)).t - (g (L.getD i 0)).t = (T : Int) := ⟨((g (L.getD (i + 1) 0)).t - (g (L.getD i 0)).t).toNat, by omega⟩
      obtain ⟨N, hN⟩ : ∃ N, ((g (L.getD (i + 1) 0)).n - (g (L.getD i 0)).n).natAbs = N := ⟨_, rfl⟩
      rw [hT] at hf
      cases hs : stP g L lg (i + 1) with
      | none =>
        rw [stP_first hT hN hf hs] at h
        simp only [Option.some.injEq, Prod.mk.injEq] at h
        obtain ⟨rfl, rfl, rfl⟩ := h
        exact ⟨by omega, by omega, by omega, i + 1, by omega, rfl⟩
      | some s =>
        obtain ⟨p', q', j'⟩ := s
        rw [stP_more hT hN hf hs] at h
        split at h
        · simp only [Option.some.injEq, Prod.mk.injEq] at h
          obtain ⟨rfl, rfl, rfl⟩ := h
          exact ⟨by omega, by omega, by omega, i + 1, by omega, rfl⟩
        · simp only [Option.some.injEq, Prod.mk.injEq] at h
          obtain ⟨rfl, rfl, rfl⟩ := h
          exact ih _ _ _ hs
/-- Fractions in lowest terms compare as they are. -/
theorem steep_low {N T p q : Nat} (hT : 0 < T) (hq : 0 < q) {a b c d : Nat} (ha : lowN (N : Int) T = (a : Int)) (hb : lowD (N : Int) T = (b : Int)) (hc : lowN (p : Int) q = (c : Int)) (hd : lowD (p : Int) q = (d : Int)) : c * b < a * d ↔ p * T < N * q := by
  obtain ⟨g1, e1, e2, _, _⟩ := low_spec (N : Int) (d := (T : Int)) (by omega)
  obtain ⟨g2, e3, e4, _, _⟩ := low_spec (p : Int) (d := (q : Int)) (by omega)
  rw [ha] at e1
  rw [hb] at e2
  rw [hc] at e3
  rw [hd] at e4
  generalize Int.gcd (N : Int) (T : Int) = G at *
  generalize Int.gcd (p : Int) (q : Int) = H at *
  have e1 : N = a * G := by exact_mod_cast e1
  have e2 : T = b * G := by exact_mod_cast e2
  have e3 : p = c * H := by exact_mod_cast e3
  have e4 : q = d * H := by exact_mod_cast e4
  have hG : 0 < G := by omega
  have hH : 0 < H := by omega
  have k1 : p * T = (c * b) * (G * H) := by rw [e3, e2]; simp only [Nat.mul_comm, Nat.mul_left_comm]
  have k2 : N * q = (a * d) * (G * H) := by rw [e1, e4]; simp only [Nat.mul_comm, Nat.mul_left_comm]
  rw [k1, k2]
  exact (Nat.mul_lt_mul_right (Nat.mul_pos hG hH)).symm
theorem low_nat (N : Nat) {T : Nat} (hT : 0 < T) : ∃ a b : Nat, lowN (N : Int) T = (a : Int) ∧ lowD (N : Int) T = (b : Int) ∧ a ≤ N ∧ 0 < b ∧ b ≤ T ∧ a = N / Nat.gcd N T ∧ b = T / Nat.gcd N T := by
  have hG : 0 < Nat.gcd N T := Nat.gcd_pos_of_pos_right _ hT
  refine ⟨N / Nat.gcd N T, T / Nat.gcd N T, ?_, ?_, Nat.div_le_self _ _, Nat.div_pos (Nat.gcd_le_right _ hT) hG, Nat.div_le_self _ _, rfl, rfl⟩
  · unfold lowN
    have : Int.gcd (N : Int) (T : Int) = Nat.gcd N T := rfl
    rw [this]
    rfl
  · unfold lowD
    have : Int.gcd (N : Int) (T : Int) = Nat.gcd N T := rfl
    rw [this]
    rfl
/-- Two numbers of 128 bits are compared by their halves. -/
theorem wide_lt (x y : Nat) : y < x ↔ y / 18446744073709551616 < x / 18446744073709551616 ∨ x / 18446744073709551616 = y / 18446744073709551616 ∧ y % 18446744073709551616 < x % 18446744073709551616 := by omega
end Go.Proofs.YtmpokfbliacmoaaDoor
