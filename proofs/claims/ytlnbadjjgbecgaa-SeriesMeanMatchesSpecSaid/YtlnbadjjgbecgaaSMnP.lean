/-
  Means, as mathematics.
-/
import Derived.Test.YtlnbadjjgbecgaaSRatP
import Derived.Test.YtlnbadjjgbecgaaSWidP
namespace Go.Proofs.Ytlnbadjjgbecgaa

/-- How many ticks the sample k is held between two times, if more than none. -/
def mnW (g : Nat → Sm) (n : Nat) (fr to lg : Int) (k : Nat) : Int := (if k + 1 < n then min (min to ((g k).t + lg + 1)) (g (k + 1)).t else min to ((g k).t + lg + 1)) - max fr (g k).t
/-- What is held: numbers, and for how many ticks. -/
def mnL (g : Nat → Sm) (n : Nat) (fr to lg : Int) : Nat → List (Int × Nat)
  | 0 => []
  | k + 1 => mnL g n fr to lg k ++ if 3 ≤ (g k).m ∧ 0 < mnW g n fr to lg k then [((g k).n, (mnW g n fr to lg k).toNat)] else []
theorem mnL_yes {g : Nat → Sm} {n : Nat} {fr to lg : Int} {k : Nat} (h : 3 ≤ (g k).m) (h2 : 0 < mnW g n fr to lg k) : mnL g n fr to lg (k + 1) = mnL g n fr to lg k ++ [((g k).n, (mnW g n fr to lg k).toNat)] := by
  show mnL g n fr to lg k ++ (if _ then _ else _) = _
  rw [if_pos ⟨h, h2⟩]
theorem mnL_no {g : Nat → Sm} {n : Nat} {fr to lg : Int} {k : Nat} (h : ¬ (3 ≤ (g k).m ∧ 0 < mnW g n fr to lg k)) : mnL g n fr to lg (k + 1) = mnL g n fr to lg k := by
  show mnL g n fr to lg k ++ (if _ then _ else _) = _
  rw [if_neg h, List.append_nil]
theorem mnL_len (g : Nat → Sm) (n : Nat) (fr to lg : Int) : ∀ k, (mnL g n fr to lg k).length ≤ k
  | 0 => Nat.le_refl _
  | k + 1 => by
    have := mnL_len g n fr to lg k
    by_cases h : 3 ≤ (g k).m ∧ 0 < mnW g n fr to lg k
    · rw [mnL_yes h.1 h.2, List.length_append]; simp; omega
    · rw [mnL_no h]; omega
def sumT : List (Int × Nat) → Nat
  | [] => 0
  | x :: L => x.2 + sumT L
def sumS : List (Int × Nat) → Int
  | [] => 0
  | x :: L => x.1 * x.2 + sumS L
theorem sumT_app (L : List (Int × Nat)) (x : Int × Nat) : sumT (L ++ [x]) = sumT L + x.2 := by
  induction L with
  | nil => simp [sumT]
  | cons y L ih => rw [List.cons_append, sumT, sumT, ih]; omega
theorem sumS_app (L : List (Int × Nat)) (x : Int × Nat) : sumS (L ++ [x]) = sumS L + x.1 * x.2 := by
  induction L with
  | nil => simp [sumS]
  | cons y L ih => rw [List.cons_append, sumS, sumS, ih]; omega
theorem mnL_ticks {g : Nat → Sm} {n : Nat} (hG : GoodS g n) {fr to lg : Int} (hf : fr ≤ to) : ∀ k, k ≤ n → (sumT (mnL g n fr to lg k) : Int) ≤ (if k < n then max 0 (min (g k).t to - fr) else to - fr)
  | 0, _ => by
    show (0 : Int) ≤ _
    split <;> omega
  | k + 1, hk => by
    have ih := mnL_ticks hG (lg := lg) hf k (by omega)
    rw [if_pos (show k < n by omega)] at ih
    have hlt : k + 1 < n → (g k).t < (g (k + 1)).t := fun h => hG.lt (by omega) h
    by_cases h : 3 ≤ (g k).m ∧ 0 < mnW g n fr to lg k
    · rw [mnL_yes h.1 h.2, sumT_app]
      obtain ⟨_, h⟩ := h
      have hw : ((mnW g n fr to lg k).toNat : Int) = mnW g n fr to lg k := by omega
      simp only [Int.natCast_add, hw]
      unfold mnW at h ⊢
      by_cases h1 : k + 1 < n
      · have := hlt h1
        rw [if_pos h1] at h ⊢
        rw [if_pos h1]
        omega
      · rw [if_neg h1] at h ⊢
        rw [if_neg h1]
        omega
    · rw [mnL_no h]
      by_cases h1 : k + 1 < n
      · have := hlt h1
        rw [if_pos h1]
        omega
      · rw [if_neg h1]
        omega
theorem mnL_total {g : Nat → Sm} {n : Nat} (hG : GoodS g n) {fr to lg : Int} (hf : fr ≤ to) (k : Nat) (hk : k ≤ n) : (sumT (mnL g n fr to lg k) : Int) ≤ to - fr := by
  have := mnL_ticks hG (lg := lg) hf k hk
  split at this <;> omega
/-- The numbers are small. -/
def SmallL (L : List (Int × Nat)) : Prop := ∀ x ∈ L, -1125899906842624 ≤ x.1 ∧ x.1 ≤ 1125899906842624
theorem mnL_small {g : Nat → Sm} {n : Nat} (hG : GoodS g n) (fr to lg : Int) : ∀ k, k ≤ n → SmallL (mnL g n fr to lg k)
  | 0, _ => fun x h => by cases h
  | k + 1, hk => by
    have ih := mnL_small hG fr to lg k (by omega)
    by_cases h : 3 ≤ (g k).m ∧ 0 < mnW g n fr to lg k
    · rw [mnL_yes h.1 h.2]
      intro x hx
      rcases List.mem_append.1 hx with hx | hx
      · exact ih x hx
      · obtain rfl := List.mem_singleton.1 hx
        have := hG.ok k (by omega)
        unfold smOk at this
        exact ⟨by omega, by omega⟩
    · rw [mnL_no h]; exact ih
theorem sumS_abs : ∀ (L : List (Int × Nat)), SmallL L → (sumS L).natAbs ≤ 1125899906842624 * sumT L
  | [], _ => by simp [sumS]
  | x :: L, h => by
    have ih := sumS_abs L (fun y hy => h y (List.mem_cons_of_mem _ hy))
    have hx := h x (List.mem_cons_self ..)
    show (x.1 * x.2 + sumS L).natAbs ≤ 1125899906842624 * (x.2 + sumT L)
    have h1 := Int.natAbs_add_le (x.1 * x.2) (sumS L)
    rw [Int.natAbs_mul, Int.natAbs_natCast] at h1
    have h2 : x.1.natAbs * x.2 ≤ 1125899906842624 * x.2 := Nat.mul_le_mul_right _ (by omega)
    rw [Nat.mul_add]
    omega
/-- The parts of a mean. -/
def whL (T : Int) : List (Int × Nat) → Int
  | [] => 0
  | x :: L => x.1 / T * x.2 + whL T L
def lfL (T : Int) : List (Int × Nat) → Int
  | [] => 0
  | x :: L => x.1 % T * x.2 + lfL T L
theorem whL_app (T : Int) (L : List (Int × Nat)) (x : Int × Nat) : whL T (L ++ [x]) = whL T L + x.1 / T * x.2 := by
  induction L with
  | nil => simp [whL]
  | cons y L ih => rw [List.cons_append, whL, whL, ih]; omega
theorem lfL_app (T : Int) (L : List (Int × Nat)) (x : Int × Nat) : lfL T (L ++ [x]) = lfL T L + x.1 % T * x.2 := by
  induction L with
  | nil => simp [lfL]
  | cons y L ih => rw [List.cons_append, lfL, lfL, ih]; omega
theorem parts_sum (T : Int) (L : List (Int × Nat)) : T * whL T L + lfL T L = sumS L := by
  induction L with
  | nil => simp [whL, lfL, sumS]
  | cons x L ih =>
    show T * (x.1 / T * x.2 + whL T L) + (x.1 % T * x.2 + lfL T L) = x.1 * x.2 + sumS L
    rw [← ih]
    have e : T * (x.1 / T * x.2) + x.1 % T * x.2 = x.1 * x.2 := by
      rw [← Int.mul_assoc, ← Int.add_mul]
      congr 1
      have := Int.emod_add_mul_ediv x.1 T
      omega
    rw [Int.mul_add]
    omega
theorem lfL_le {T : Int} (hT : 0 < T) (L : List (Int × Nat)) : 0 ≤ lfL T L ∧ lfL T L ≤ (T - 1) * sumT L := by
  induction L with
  | nil => simp [lfL, sumT]
  | cons x L ih =>
    show 0 ≤ x.1 % T * x.2 + lfL T L ∧ x.1 % T * x.2 + lfL T L ≤ (T - 1) * ((x.2 + sumT L : Nat) : Int)
    have h1 := Int.emod_nonneg x.1 (show T ≠ 0 by omega)
    have h2 := Int.emod_lt_of_pos x.1 hT
    have h3 : 0 ≤ x.1 % T * (x.2 : Int) := Int.mul_nonneg h1 (by omega)
    have h4 : x.1 % T * (x.2 : Int) ≤ (T - 1) * x.2 := Int.mul_le_mul_of_nonneg_right (by omega) (by omega)
    rw [Int.natCast_add, Int.mul_add]
    omega
/-- The bounds of the parts, while T ticks at most are added up. -/
theorem parts_small {T : Nat} (hT : 0 < T) (hT2 : T ≤ 1073741824) (L : List (Int × Nat)) (hs : SmallL L) (ht : sumT L ≤ T) :
    -1126999906842624 ≤ whL T L ∧ whL T L ≤ 1126999906842624 ∧ 0 ≤ lfL T L ∧ lfL T L ≤ 1152921504606846976 := by
  have h1 := parts_sum (T : Int) L
  have h2 := lfL_le (T := (T : Int)) (by omega) L
  have h3 := sumS_abs L hs
  have h4 : 1125899906842624 * sumT L ≤ 1125899906842624 * T := Nat.mul_le_mul_left _ ht
  have h5 : ((T : Int) - 1) * (sumT L : Int) ≤ (T : Int) * T := Int.mul_le_mul (by omega) (by omega) (by omega) (by omega)
  have h6 : (T : Int) * T ≤ 1073741824 * 1073741824 := Int.mul_le_mul (by omega) (by omega) (by omega) (by omega)
  have a1 : (T : Int) * whL T L ≤ T * 1126999906842624 := by
    have e : (T : Int) * 1126999906842624 = 1126999906842624 * T := Int.mul_comm ..
    rw [e]
    have : (T : Int) * whL T L ≤ 1125899906842624 * T := by omega
    omega
  have a2 : (T : Int) * (-1126999906842624) ≤ T * whL T L := by
    have h7 : (T : Int) * T ≤ 1073741824 * T := Int.mul_le_mul_of_nonneg_right (by omega) (by omega)
    have e : (T : Int) * (-1126999906842624) = -(1126999906842624 * T) := by rw [Int.mul_neg, Int.mul_comm]
    rw [e]
    omega
  exact ⟨Int.le_of_mul_le_mul_left a2 (by omega), Int.le_of_mul_le_mul_left a1 (by omega), h2.1, by omega⟩
end Go.Proofs.Ytlnbadjjgbecgaa
