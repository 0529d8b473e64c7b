/-
  Series as mathematics: what is wrong with one, what is held at a time.
-/
import Derived.Test.YtfbhjgaiejjfaaaSPure
namespace Go.Proofs.Ytfbhjgaiejjfaaa

structure Sm where
  t : Int
  n : Int
  m : Int
instance : Inhabited Sm := ⟨⟨0, 0, 0⟩⟩

theorem firstOf_or {f : Nat → Int} (k : Nat) : firstOf f (k + 1) = if firstOf f k = 0 then f k else firstOf f k := rfl
/-- The first place at which f is not 0; -1: there is none. -/
def placeOf (f : Nat → Int) : Nat → Int
  | 0 => -1
  | k + 1 => if firstOf f k = 0 then (if f k = 0 then -1 else (k : Int)) else placeOf f k
theorem placeOf_no {f : Nat → Int} : ∀ {n : Nat}, firstOf f n = 0 → placeOf f n = -1
  | 0, _ => rfl
  | n + 1, h => by
    have h0 := firstOf_all h n (by omega)
    have h1 : firstOf f n = 0 := by
      rcases Classical.em (firstOf f n = 0) with e | e
      · exact e
      · have := firstOf_stays (j := 1) rfl e; rw [h] at this; exact absurd this.symm e
    show (if firstOf f n = 0 then (if f n = 0 then -1 else (n : Int)) else placeOf f n) = -1
    rw [if_pos h1, if_pos h0]
theorem placeOf_at {f : Nat → Int} {k n : Nat} (h : firstOf f k = 0) (hk : k < n) (hb : f k ≠ 0) : placeOf f n = k := by
  obtain ⟨d, rfl⟩ : ∃ d, n = k + 1 + d := ⟨n - (k + 1), by omega⟩
  clear hk
  induction d with
  | zero =>
    show (if firstOf f k = 0 then (if f k = 0 then -1 else (k : Int)) else placeOf f k) = k
    rw [if_pos h, if_neg hb]
  | succ d ih =>
    have := firstOf_bad (n := k + 1 + d) h (by omega) rfl hb
    show (if firstOf f (k + 1 + d) = 0 then (if f (k + 1 + d) = 0 then -1 else ((k + 1 + d : Nat) : Int)) else placeOf f (k + 1 + d)) = k
    rw [if_neg (by rw [this]; exact hb)]
    exact ih

def smOk (x : Sm) : Prop := 0 ≤ x.t ∧ x.t ≤ 1099511627776 ∧ -1125899906842624 ≤ x.n ∧ x.n ≤ 1125899906842624 ∧ 0 ≤ x.m ∧ x.m ≤ 4
instance (x : Sm) : Decidable (smOk x) := by unfold smOk; infer_instance
/-- What is wrong with the sample i. -/
def badS (g : Nat → Sm) (i : Nat) : Int := if ¬ smOk (g i) then 9 else if (g i).n ≠ 0 ∧ (g i).m < 2 then 2 else if 0 < i ∧ (g i).t ≤ (g (i - 1)).t then 10 else 0
theorem badS_9 {g : Nat → Sm} {i : Nat} (h : ¬ smOk (g i)) : badS g i = 9 := by unfold badS; rw [if_pos h]
theorem badS_2 {g : Nat → Sm} {i : Nat} (h : smOk (g i)) (h2 : (g i).n ≠ 0 ∧ (g i).m < 2) : badS g i = 2 := by unfold badS; rw [if_neg (fun k => k h), if_pos h2]
theorem badS_10 {g : Nat → Sm} {i : Nat} (h : smOk (g i)) (h2 : ¬ ((g i).n ≠ 0 ∧ (g i).m < 2)) (h3 : 0 < i ∧ (g i).t ≤ (g (i - 1)).t) : badS g i = 10 := by unfold badS; rw [if_neg (fun k => k h), if_neg h2, if_pos h3]
theorem badS_0 {g : Nat → Sm} {i : Nat} (h : smOk (g i)) (h2 : ¬ ((g i).n ≠ 0 ∧ (g i).m < 2)) (h3 : ¬ (0 < i ∧ (g i).t ≤ (g (i - 1)).t)) : badS g i = 0 := by unfold badS; rw [if_neg (fun k => k h), if_neg h2, if_neg h3]
/-- What is wrong with a series, and where. -/
def serE (den : Int) (g : Nat → Sm) (n : Nat) : Int := if ¬ (1 ≤ den ∧ den ≤ 1000000) then 9 else if 20000 < n then 3 else firstOf (badS g) n
def serI (den : Int) (g : Nat → Sm) (n : Nat) : Int := if ¬ (1 ≤ den ∧ den ≤ 1000000) then -1 else if 20000 < n then -1 else placeOf (badS g) n

/-- A good series. -/
structure GoodS (g : Nat → Sm) (n : Nat) : Prop where
  ok : ∀ i, i < n → smOk (g i)
  num : ∀ i, i < n → (g i).m < 2 → (g i).n = 0
  rise : ∀ i, i + 1 < n → (g i).t < (g (i + 1)).t
theorem goodS_of {den : Int} {g : Nat → Sm} {n : Nat} (h : serE den g n = 0) : (1 ≤ den ∧ den ≤ 1000000) ∧ n ≤ 20000 ∧ GoodS g n := by
  unfold serE at h
  split at h
  · omega
  · split at h
    · omega
    · rename_i h1 h2
      have ha := firstOf_all h
      refine ⟨by omega, by omega, ⟨fun i hi => ?_, fun i hi hm => ?_, fun i hi => ?_⟩⟩
      · have := ha i hi
        unfold badS at this
        by_cases e : smOk (g i)
        · exact e
        · rw [if_pos e] at this; omega
      · have := ha i hi
        unfold badS at this
        split at this
        · omega
        · split at this
          · omega
          · omega
      · have := ha (i + 1) hi
        unfold badS at this
        split at this
        · omega
        · split at this
          · omega
          · split at this
            · omega
            · rename_i h5
              rw [show i + 1 - 1 = i by omega] at h5
              omega
theorem goodS_back {den : Int} {g : Nat → Sm} {n : Nat} (hd : 1 ≤ den ∧ den ≤ 1000000) (hn : n ≤ 20000) (h : GoodS g n) : serE den g n = 0 := by
  unfold serE
  rw [if_neg (fun k => k hd), if_neg (by omega)]
  have : ∀ k, k ≤ n → firstOf (badS g) k = 0 := by
    intro k
    induction k with
    | zero => intro _; rfl
    | succ k ih =>
      intro hk
      rw [firstOf_succ (ih (by omega))]
      refine badS_0 (h.ok k (by omega)) ?_ ?_
      · rintro ⟨h1, h2⟩; exact h1 (h.num k (by omega) h2)
      · rintro ⟨h1, h2⟩
        obtain ⟨j, rfl⟩ : ∃ j, k = j + 1 := ⟨k - 1, by omega⟩
        have := h.rise j (by omega)
        rw [show j + 1 - 1 = j by omega] at h2
        omega
  exact this n (Nat.le_refl _)
theorem GoodS.lt {g : Nat → Sm} {n : Nat} (h : GoodS g n) : ∀ {i j : Nat}, i < j → j < n → (g i).t < (g j).t := by
  intro i j hij hj
  obtain ⟨d, rfl⟩ : ∃ d, j = i + 1 + d := ⟨j - (i + 1), by omega⟩
  clear hij
  induction d with
  | zero => exact h.rise i hj
  | succ d ih =>
    have h1 := ih (by omega)
    have h2 := h.rise (i + 1 + d) (by omega)
    rw [show i + 1 + (d + 1) = i + 1 + d + 1 by omega]
    omega
theorem GoodS.le {g : Nat → Sm} {n : Nat} (h : GoodS g n) {i j : Nat} (hij : i ≤ j) (hj : j < n) : (g i).t ≤ (g j).t := by
  rcases Nat.lt_or_ge i j with h1 | h1
  · have := h.lt h1 hj; omega
  · obtain rfl : i = j := by omega
    exact Int.le_refl _
/-- How many samples are ahead of a time. -/
def aheadN (g : Nat → Sm) (t : Int) : Nat → Nat
  | 0 => 0
  | k + 1 => aheadN g t k + if (g k).t < t then 1 else 0
theorem aheadN_le (g : Nat → Sm) (t : Int) : ∀ n, aheadN g t n ≤ n
  | 0 => Nat.le_refl _
  | n + 1 => by have := aheadN_le g t n; unfold aheadN; split <;> omega
theorem aheadN_is {g : Nat → Sm} {n : Nat} (h : GoodS g n) (t : Int) : (∀ i, i < aheadN g t n → (g i).t < t) ∧ (∀ i, aheadN g t n ≤ i → i < n → t ≤ (g i).t) := by
  have key : ∀ k, k ≤ n → (∀ i, i < aheadN g t k → (g i).t < t) ∧ (∀ i, aheadN g t k ≤ i → i < k → t ≤ (g i).t) := by
    intro k
    induction k with
    | zero => intro _; exact ⟨fun i hi => by unfold aheadN at hi; omega, fun i _ hi => by omega⟩
    | succ k ih =>
      intro hk
      obtain ⟨h1, h2⟩ := ih (by omega)
      have hle := aheadN_le g t k
      unfold aheadN
      by_cases hc : (g k).t < t
      · rw [if_pos hc]
        have hall : aheadN g t k = k := by
          rcases Nat.lt_or_ge (aheadN g t k) k with h3 | h3
          · have := h2 (aheadN g t k) (Nat.le_refl _) h3
            have := h.lt h3 (by omega)
            omega
          · omega
        rw [hall]
        refine ⟨fun i hi => ?_, fun i h3 h4 => by omega⟩
        rcases Nat.lt_or_ge i k with h5 | h5
        · exact h1 i (by omega)
        · obtain rfl : i = k := by omega
          exact hc
      · rw [if_neg hc]
        refine ⟨fun i hi => h1 i (by omega), fun i h3 h4 => ?_⟩
        rcases Nat.lt_or_ge i k with h5 | h5
        · exact h2 i (by omega) h5
        · obtain rfl : i = k := by omega
          omega
  exact key n (Nat.le_refl _)
theorem aheadN_uniq {g : Nat → Sm} {n : Nat} (h : GoodS g n) {t : Int} {c : Nat} (hc : c ≤ n) (h1 : ∀ i, i < c → (g i).t < t) (h2 : ∀ i, c ≤ i → i < n → t ≤ (g i).t) : aheadN g t n = c := by
  obtain ⟨k1, k2⟩ := aheadN_is h t
  have k3 := aheadN_le g t n
  rcases Nat.lt_trichotomy (aheadN g t n) c with h3 | h3 | h3
  · have a := h1 _ h3
    have b := k2 _ (Nat.le_refl _) (by omega)
    omega
  · exact h3
  · have a := k1 _ h3
    have b := h2 _ (Nat.le_refl _) (by omega)
    omega
theorem aheadN_countP (g : Nat → Sm) (t : Int) : ∀ n, (List.range n).countP (fun i => !decide (t ≤ (g i).t)) = aheadN g t n
  | 0 => rfl
  | n + 1 => by
    rw [List.range_succ, List.countP_append, aheadN_countP g t n]
    show _ = aheadN g t n + (if (g n).t < t then 1 else 0)
    congr 1
    by_cases hc : (g n).t < t
    · rw [if_pos hc]
      have : ¬ t ≤ (g n).t := by omega
      simp [this]
    · rw [if_neg hc]
      have : t ≤ (g n).t := by omega
      simp [this]

/-- Is something held? c samples are not later than the time. -/
def heldB (g : Nat → Sm) (c : Nat) (at' long : Int) : Bool := decide (0 < c ∧ 3 ≤ (g (c - 1)).m ∧ at' - (g (c - 1)).t ≤ long)
def heldV (g : Nat → Sm) (c : Nat) (at' long : Int) : Sm := if heldB g c at' long = true then g (c - 1) else ⟨0, 0, 0⟩
theorem heldB_iff {g : Nat → Sm} {c : Nat} {a l : Int} : heldB g c a l = true ↔ 0 < c ∧ 3 ≤ (g (c - 1)).m ∧ a - (g (c - 1)).t ≤ l := by unfold heldB; exact decide_eq_true_iff
theorem heldB_no {g : Nat → Sm} {c : Nat} {a l : Int} : heldB g c a l = false ↔ ¬ (0 < c ∧ 3 ≤ (g (c - 1)).m ∧ a - (g (c - 1)).t ≤ l) := by unfold heldB; exact decide_eq_false_iff_not
theorem heldV_yes {g : Nat → Sm} {c : Nat} {a l : Int} (h : heldB g c a l = true) : heldV g c a l = g (c - 1) := by unfold heldV; rw [if_pos h]
theorem heldV_no {g : Nat → Sm} {c : Nat} {a l : Int} (h : heldB g c a l = false) : heldV g c a l = ⟨0, 0, 0⟩ := by unfold heldV; rw [h]; rfl
attribute [irreducible] smOk badS serE serI aheadN heldB heldV placeOf
end Go.Proofs.Ytfbhjgaiejjfaaa
