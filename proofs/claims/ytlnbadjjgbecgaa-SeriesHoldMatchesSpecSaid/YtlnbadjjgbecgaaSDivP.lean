/-
  A number of two digits divided by one, as mathematics (digits are below 2^64, and 2^32).
-/
namespace Go.Proofs.Ytlnbadjjgbecgaa

/-- The division of one step: u is below y, whose first digit is at least half of b. -/
structure DivAt (b yn1 yn0 u u1 q r : Nat) : Prop where
  sum : q * yn1 + r = u
  least : (u * b + u1) / (yn1 * b + yn0) ≤ q
  most : q ≤ b + 1
section
variable {b yn1 yn0 u u1 q r : Nat}
theorem DivAt.start (h1 : 0 < yn1) (h2 : yn0 < b) (h3 : b ≤ 2 * yn1) (hu : u < yn1 * b + yn0) (hu1 : u1 < b) : DivAt b yn1 yn0 u u1 (u / yn1) (u % yn1) := by
  have hs : u / yn1 * yn1 + u % yn1 = u := by rw [Nat.mul_comm]; exact Nat.div_add_mod u yn1
  refine ⟨hs, ?_, ?_⟩
  · refine Nat.le_of_lt_succ ((Nat.div_lt_iff_lt_mul (by have := Nat.mul_pos h1 (by omega : 0 < b); omega)).2 ?_)
    have hm := Nat.mod_lt u h1
    have e : (u / yn1 + 1) * (yn1 * b + yn0) = (u / yn1 * yn1) * b + yn1 * b + (u / yn1 + 1) * yn0 := by
      rw [Nat.mul_add, Nat.add_mul, ← Nat.mul_assoc, Nat.add_mul, Nat.one_mul]
    rw [Nat.succ_eq_add_one, e]
    have e2 : u * b = (u / yn1 * yn1) * b + (u % yn1) * b := by rw [← Nat.add_mul, hs]
    have e3 : (u % yn1) * b + b ≤ yn1 * b := by rw [← Nat.succ_mul]; exact Nat.mul_le_mul_right b hm
    omega
  · refine Nat.le_of_lt_succ ((Nat.div_lt_iff_lt_mul h1).2 ?_)
    rw [Nat.succ_eq_add_one]
    have : (b + 1 + 1) * yn1 = yn1 * b + 2 * yn1 := by rw [Nat.add_mul, Nat.add_mul, Nat.mul_comm b, Nat.one_mul]; omega
    omega
/-- Is q too great? -/
theorem DivAt.test (h : DivAt b yn1 yn0 u u1 q r) : q * yn0 ≤ b * r + u1 ↔ q * (yn1 * b + yn0) ≤ u * b + u1 := by
  have e1 : u * b = q * yn1 * b + r * b := by rw [← h.sum, Nat.add_mul]
  have e2 : q * (yn1 * b + yn0) = q * yn1 * b + q * yn0 := by rw [Nat.mul_add, ← Nat.mul_assoc]
  rw [e1, e2, Nat.mul_comm b r]
  omega
theorem DivAt.down (h : DivAt b yn1 yn0 u u1 q r) (hy : 0 < yn1 * b + yn0) (hu : u < yn1 * b + yn0) (hu1 : u1 < b) (hc : b ≤ q ∨ b * r + u1 < q * yn0) : 0 < q ∧ DivAt b yn1 yn0 u u1 (q - 1) (r + yn1) := by
  have hlt : (u * b + u1) / (yn1 * b + yn0) < q := by
    rcases hc with hc | hc
    · refine Nat.lt_of_lt_of_le ((Nat.div_lt_iff_lt_mul hy).2 ?_) hc
      have : (u + 1) * b ≤ (yn1 * b + yn0) * b := Nat.mul_le_mul_right b hu
      rw [Nat.mul_comm b]
      rw [Nat.add_mul, Nat.one_mul] at this
      omega
    · refine (Nat.div_lt_iff_lt_mul hy).2 (Nat.lt_of_not_le fun h' => ?_)
      have := h.test.2 h'
      omega
  have h0 : 0 < q := Nat.lt_of_le_of_lt (Nat.zero_le _) hlt
  refine ⟨h0, ⟨?_, Nat.le_sub_one_of_lt hlt, by have := h.most; omega⟩⟩
  have := h.sum
  obtain ⟨k, rfl⟩ : ∃ k, q = k + 1 := ⟨q - 1, by omega⟩
  rw [Nat.add_mul, Nat.one_mul] at this
  rw [Nat.add_sub_cancel]
  omega
theorem DivAt.is (h : DivAt b yn1 yn0 u u1 q r) (hy : 0 < yn1 * b + yn0) (hc : q * yn0 ≤ b * r + u1) : q = (u * b + u1) / (yn1 * b + yn0) := by
  refine Nat.le_antisymm ?_ h.least
  exact (Nat.le_div_iff_mul_le hy).2 (h.test.1 hc)
theorem DivAt.far (h : DivAt b yn1 yn0 u u1 q r) (h2 : yn0 < b) (hq : q ≤ b) (hr : b ≤ r) : q * yn0 ≤ b * r + u1 := by
  have e1 : q * yn0 ≤ b * b := Nat.mul_le_mul hq (by omega)
  have e2 : b * b ≤ b * r := Nat.mul_le_mul_left b hr
  have := h.sum
  omega
theorem DivAt.digit (h1 : 0 < yn1 * b + yn0) (hu : u < yn1 * b + yn0) (hu1 : u1 < b) : (u * b + u1) / (yn1 * b + yn0) < b := by
  refine (Nat.div_lt_iff_lt_mul h1).2 ?_
  have : (u + 1) * b ≤ (yn1 * b + yn0) * b := Nat.mul_le_mul_right b hu
  rw [Nat.add_mul, Nat.one_mul] at this
  rw [Nat.mul_comm b]
  omega
end
/-- Two steps are the whole. -/
theorem div_two {b y u u1 u0 : Nat} (hy : 0 < y) : (u * b + u1) / y * b + ((u * b + u1) % y * b + u0) / y = (u * (b * b) + u1 * b + u0) / y ∧ ((u * b + u1) % y * b + u0) % y = (u * (b * b) + u1 * b + u0) % y := by
  have e : u * (b * b) + u1 * b + u0 = y * ((u * b + u1) / y * b) + ((u * b + u1) % y * b + u0) := by
    have h := Nat.div_add_mod (u * b + u1) y
    have : (u * b + u1) * b = u * (b * b) + u1 * b := by rw [Nat.add_mul, Nat.mul_assoc]
    rw [← this]
    have h2 : (u * b + u1) * b = (y * ((u * b + u1) / y) + (u * b + u1) % y) * b := by rw [h]
    rw [h2, Nat.add_mul, Nat.mul_assoc]
    omega
  rw [e, Nat.mul_add_div hy, Nat.mul_add_mod]
  exact ⟨rfl, rfl⟩
/-- Both sides were multiplied by a power of two. -/
theorem div_scaled {h l y p W : Nat} (hp : 0 < p) : (h * W + l) * p / (y * p) = (h * W + l) / y ∧ (h * W + l) * p % (y * p) / p = (h * W + l) % y := by
  refine ⟨Nat.mul_div_mul_right _ _ hp, ?_⟩
  rw [Nat.mul_mod_mul_right, Nat.mul_div_cancel _ hp]
end Go.Proofs.Ytlnbadjjgbecgaa
