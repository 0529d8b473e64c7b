/-
  Fractions in lowest terms, as mathematics.
-/
import Derived.Test.YtmpokfbliacmoaaDoorSPureS
namespace Go.Proofs.YtmpokfbliacmoaaDoor

theorem dvd_of_cop {k m n : Int} (h : k ∣ m * n) (c : Int.gcd k n = 1) : k ∣ m := by
  have h1 : k.natAbs ∣ m.natAbs * n.natAbs := by rw [← Int.natAbs_mul]; exact Int.natAbs_dvd_natAbs.2 h
  have h2 : Nat.Coprime k.natAbs n.natAbs := c
  exact Int.natAbs_dvd_natAbs.1 (h2.dvd_of_dvd_mul_right h1)
theorem low_uniq {n1 n2 d1 d2 : Int} (h1 : 0 < d1) (h2 : 0 < d2) (e : n1 * d2 = n2 * d1) (c1 : Int.gcd n1 d1 = 1) (c2 : Int.gcd n2 d2 = 1) : n1 = n2 ∧ d1 = d2 := by
  have a1 : d1 ∣ d2 := by
    have : d1 ∣ d2 * n1 := ⟨n2, by rw [Int.mul_comm d2 n1, e, Int.mul_comm]⟩
    exact dvd_of_cop this (by rw [Int.gcd_comm]; exact c1)
  have a2 : d2 ∣ d1 := by
    have : d2 ∣ d1 * n2 := ⟨n1, by rw [Int.mul_comm d1 n2, ← e, Int.mul_comm]⟩
    exact dvd_of_cop this (by rw [Int.gcd_comm]; exact c2)
  have ed : d1 = d2 := by
    have := Int.le_of_dvd h2 a1
    have := Int.le_of_dvd h1 a2
    omega
  subst ed
  exact ⟨Int.eq_of_mul_eq_mul_right (by omega) e, rfl⟩
/-- A fraction in lowest terms. -/
def lowN (n d : Int) : Int := n.tdiv (Int.gcd n d : Int)
def lowD (n d : Int) : Int := d.tdiv (Int.gcd n d : Int)
theorem low_spec (n : Int) {d : Int} (h : 0 < d) : 0 < (Int.gcd n d : Int) ∧ n = lowN n d * (Int.gcd n d : Int) ∧ d = lowD n d * (Int.gcd n d : Int) ∧ 0 < lowD n d ∧ Int.gcd (lowN n d) (lowD n d) = 1 := by
  have hg : 0 < (Int.gcd n d : Int) := by
    have : Int.gcd n d ≠ 0 := fun e => by rw [Int.gcd_eq_zero_iff] at e; omega
    omega
  have e1 : n = lowN n d * (Int.gcd n d : Int) := (Int.tdiv_mul_cancel (Int.gcd_dvd_left ..)).symm
  have e2 : d = lowD n d * (Int.gcd n d : Int) := (Int.tdiv_mul_cancel (Int.gcd_dvd_right ..)).symm
  have hd : 0 < lowD n d := by
    rcases Int.lt_or_le 0 (lowD n d) with h1 | h1
    · exact h1
    · have := Int.mul_le_mul_of_nonneg_right h1 (Int.le_of_lt hg)
      rw [← e2] at this
      omega
  refine ⟨hg, e1, e2, hd, ?_⟩
  have hc : Int.gcd n d = Int.gcd (lowN n d) (lowD n d) * Int.gcd n d := by
    have := Int.gcd_mul_right (lowN n d) (Int.gcd n d : Int) (lowD n d)
    rw [← e1, ← e2] at this
    simpa using this
  have hp : 0 < Int.gcd n d := by omega
  have : 1 * Int.gcd n d = Int.gcd (lowN n d) (lowD n d) * Int.gcd n d := by rw [Nat.one_mul]; exact hc
  exact (Nat.eq_of_mul_eq_mul_right hp this).symm
/-- What is in lowest terms, and equal to it, is it. -/
theorem low_is {n d p q : Int} (hd : 0 < d) (hq : 0 < q) (e : p * d = q * n) (c : Int.gcd p q = 1) : p = lowN n d ∧ q = lowD n d := by
  obtain ⟨h1, h2, h3, h4, h5⟩ := low_spec n hd
  refine low_uniq hq h4 ?_ c h5
  refine Int.eq_of_mul_eq_mul_right (a := (Int.gcd n d : Int)) (by omega) ?_
  calc p * lowD n d * (Int.gcd n d : Int) = p * d := by rw [Int.mul_assoc, ← h3]
    _ = q * n := e
    _ = q * (lowN n d * (Int.gcd n d : Int)) := by rw [← h2]
    _ = lowN n d * q * (Int.gcd n d : Int) := by rw [← Int.mul_assoc, Int.mul_comm q]
/-- The point of a line: as the program makes it. -/
theorem line_low {a b x T : Int} (hT : 0 < T) :
    a * lowD (b - a) (lowD x T) + lowN (b - a) (lowD x T) * lowN x T = lowN (a * (T - x) + b * x) T ∧ lowD (b - a) (lowD x T) = lowD (a * (T - x) + b * x) T := by
  obtain ⟨g1, e1, e2, hD, c1⟩ := low_spec x hT
  generalize hg1 : (Int.gcd x T : Int) = G1 at *
  generalize lowN x T = s at *
  generalize lowD x T = D at *
  obtain ⟨g2, e3, e4, hq, c2⟩ := low_spec (b - a) hD
  generalize hg2 : (Int.gcd (b - a) D : Int) = G2 at *
  generalize lowN (b - a) D = p at *
  generalize lowD (b - a) D = q at *
  have cs : Int.gcd s q = 1 := by
    have h : q ∣ D := ⟨G2, e4⟩
    have h2 : Int.gcd s q ∣ Int.gcd s D := Int.gcd_dvd_gcd_of_dvd_right _ h
    rw [c1] at h2
    exact Nat.dvd_one.1 h2
  have cp : Int.gcd (p * s) q = 1 := by
    rw [Int.gcd_comm]
    have : Int.gcd q (p * s) ∣ 1 := by
      have h1 : (Int.gcd q (p * s) : Int) ∣ q := Int.gcd_dvd_left ..
      have h2 : (Int.gcd q (p * s) : Int) ∣ p * s := Int.gcd_dvd_right ..
      have h3 : Int.gcd (Int.gcd q (p * s) : Int) s = 1 := by
        have : Int.gcd (Int.gcd q (p * s) : Int) s ∣ Int.gcd q s := Int.gcd_dvd_gcd_of_dvd_left _ h1
        rw [Int.gcd_comm q s, cs] at this
        exact Nat.dvd_one.1 this
      have h4 : (Int.gcd q (p * s) : Int) ∣ p := dvd_of_cop h2 h3
      have h5 : (Int.gcd q (p * s) : Int) ∣ (Int.gcd p q : Int) := Int.dvd_coe_gcd h4 h1
      rw [c2] at h5
      exact Int.ofNat_dvd.1 h5
    exact Nat.dvd_one.1 this
  refine low_is hT hq ?_ (by rw [Int.add_comm, Int.gcd_add_mul_right_left]; exact cp)
  have hba : b = p * G2 + a := by omega
  subst hba
  rw [e2, e1, e4]
  simp only [Int.mul_add, Int.add_mul, Int.mul_sub]
  simp only [Int.mul_comm, Int.mul_left_comm]
  omega
/-- A whole part and a fraction. -/
theorem mean_low {W l T : Int} (hT : 0 < T) : W * lowD l T + lowN l T = lowN (T * W + l) T ∧ lowD l T = lowD (T * W + l) T := by
  obtain ⟨g1, e1, e2, hD, c1⟩ := low_spec l hT
  generalize hg1 : (Int.gcd l T : Int) = G1 at *
  generalize lowN l T = s at *
  generalize lowD l T = D at *
  refine low_is hT hD ?_ (by rw [Int.add_comm, Int.gcd_add_mul_right_left]; exact c1)
  rw [e2, e1]
  simp only [Int.mul_add, Int.add_mul]
  simp only [Int.mul_comm, Int.mul_left_comm]
end Go.Proofs.YtmpokfbliacmoaaDoor
