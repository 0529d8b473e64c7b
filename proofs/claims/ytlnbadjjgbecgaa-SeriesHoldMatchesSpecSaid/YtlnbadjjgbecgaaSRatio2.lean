/-
  ratio of the reference, whatever it is handed.
-/
import Derived.Test.YtlnbadjjgbecgaaSRatio
namespace Go.Proofs.Ytlnbadjjgbecgaa
open Go.RowKit
-- AT2

set_option maxHeartbeats 4000000 in
set_option maxRecDepth 100000 in
theorem ratio_zero (neg : Bool) (D : Nat) (w : World) :
    Calls Try.prog 30 #[.agg #[.bool neg, .int .u64 0, .int .u64 0], .int .i64 D] w fun e w' => e = .returned (.tuple #[ratV 0 1, .bool true]) ∧ ∃ x, w' = gx w x := by
  go_enter Try.func30, Try.ntmps30
  go_wp2
  exact bodyPost_ret (v := .tuple #[ratV 0 1, .bool true]) (by simp [results, Try.results30, go_sem]) rfl ⟨rfl, (by repeat (first | (with_reducible exact Gx.refl _) | (with_reducible assumption) | (with_reducible refine Gx.gx ?_) | (with_reducible refine Gx.alloc ?_) | (with_reducible refine Gx.drew ?_) | (with_reducible refine Gx.drewN ?_) | (with_reducible refine Gx.setRow ?_ (by simp)) | (with_reducible refine Gx.setCell ?_ (by simp))))⟩
theorem ratF_of (m D g H L : Nat) (hg : g = Nat.gcd m D) (hmH : m = H * 18446744073709551616 + L) (hH : H < 18446744073709551616) (hL : L < 18446744073709551616) (b0 : 0 < D) (b1 : D ≤ 4611686018427387904) :
    RatF D H L (H % D) ((H % D * 18446744073709551616 + L) / D) (m % D) g (H / g) (H % g) ((H % g * 18446744073709551616 + L) / g) ((H % g * 18446744073709551616 + L) % g) (D / g) := by
  have hg0 : 0 < g := by rw [hg]; exact Nat.gcd_pos_of_pos_right _ b0
  have hgD : g ≤ D := by rw [hg]; exact Nat.gcd_le_right _ b0
  have h1 := Nat.mod_lt H b0
  have h2 := Nat.mod_lt H hg0
  have h3 := Nat.mod_lt m b0
  have h4 := Nat.div_le_self H g
  have h5 := Nat.div_le_self D g
  have er : (H % D * 18446744073709551616 + L) % D = m % D := by rw [hmH, Nat.add_mod, Nat.mul_mod, Nat.mod_mod, ← Nat.mul_mod, ← Nat.add_mod]
  have eg : Nat.gcd D (m % D) = g := by rw [hg, Nat.gcd_comm D, ← Nat.gcd_rec, Nat.gcd_comm]
  refine ⟨fun W => ?_, fun W => ?_, fun W => ?_, rfl, rfl, rfl, rfl, b0, b1, hg0, hgD, h3, h1, by omega, h2, h5⟩
  · rw [← er]; exact Div64_any _ _ _ (by omega) h1 hL W
  · have := gcd_any D (m % D) (by omega) (by omega) W
    rw [eg] at this
    exact this
  · exact Div64_any _ _ _ (by omega) h2 hL W
theorem quo_split {m g H L : Nat} (hg0 : 0 < g) (hmH : m = H * 18446744073709551616 + L) (hL : L < 18446744073709551616) : m / g = H / g * 18446744073709551616 + (H % g * 18446744073709551616 + L) / g ∧ (H % g * 18446744073709551616 + L) / g < 18446744073709551616 := by
  refine ⟨?_, ?_⟩
  · have e : m = (H % g * 18446744073709551616 + L) + g * (H / g * 18446744073709551616) := by
      have := Nat.div_add_mod H g
      have e2 : g * (H / g * 18446744073709551616) = g * (H / g) * 18446744073709551616 := by rw [Nat.mul_assoc]
      rw [e2, hmH]
      generalize g * (H / g) = z at *
      omega
    rw [e, Nat.add_mul_div_left _ _ hg0, Nat.add_comm]
  · refine (Nat.div_lt_iff_lt_mul hg0).2 ?_
    have h2 := Nat.mod_lt H hg0
    have : (H % g + 1) * 18446744073709551616 ≤ g * 18446744073709551616 := Nat.mul_le_mul_right _ h2
    omega
theorem ratio_fine_core (neg : Bool) (D H L hd q1 r g h hg l r2 dg : Nat) (F : RatF D H L hd q1 r g h hg l r2 dg) (hHL : H = 0 → 0 < L) (hh : h = 0) (hl : l ≤ 4611686018427387904) (w : World) :
    Calls Try.prog 30 #[.agg #[.bool neg, .int .u64 H, .int .u64 L], .int .i64 D] w fun e w' => e = .returned (.tuple #[ratV (wdV neg l) dg, .bool true]) ∧ ∃ x, w' = gx w x := by
  rcases Nat.eq_zero_or_pos H with hz | hz
  · cases neg
    · exact ratio_z_ok_f _ _ _ _ _ _ _ _ _ _ _ _ F hz (hHL hz) hh hl w
    · exact ratio_z_ok_t _ _ _ _ _ _ _ _ _ _ _ _ F hz (hHL hz) hh hl w
  · cases neg
    · exact ratio_p_ok_f _ _ _ _ _ _ _ _ _ _ _ _ F hz hh hl w
    · exact ratio_p_ok_t _ _ _ _ _ _ _ _ _ _ _ _ F hz hh hl w
/-- ratio, whatever it is handed. -/
theorem ratio_fine (neg : Bool) (m D : Nat) (hm : m < 340282366920938463463374607431768211456) (b0 : 0 < D) (b1 : D ≤ 4611686018427387904) (hq : m / Nat.gcd m D ≤ 4611686018427387904) (w : World) :
    Calls Try.prog 30 #[wvV neg m, .int .i64 D] w fun e w' => e = .returned (.tuple #[ratV (lowN (wdV neg m) D) (lowD (wdV neg m) D), .bool true]) ∧ ∃ x, w' = gx w x := by
  obtain ⟨l1, l2⟩ := low_wd neg m D b0
  rw [l1, l2]
  by_cases h0 : m = 0
  · subst h0
    rw [Nat.gcd_zero_left, Nat.zero_div, Nat.div_self b0]
    have h := ratio_zero neg D w
    rw [show wdV neg 0 = 0 by unfold wdV; cases neg <;> rfl, show wvV neg 0 = .agg #[.bool neg, .int .u64 0, .int .u64 0] by unfold wvV; rw [Nat.zero_div, Nat.zero_mod]; rfl, show ((1 : Nat) : Int) = 1 from rfl]
    exact h
  · obtain ⟨g, hg⟩ : ∃ g, g = Nat.gcd m D := ⟨_, rfl⟩
    have hg0 : 0 < g := by rw [hg]; exact Nat.gcd_pos_of_pos_right _ b0
    have hmH : m = m / 18446744073709551616 * 18446744073709551616 + m % 18446744073709551616 := by omega
    have F := ratF_of m D g _ _ hg hmH (by omega) (by omega) b0 b1
    obtain ⟨s1, s2⟩ := quo_split hg0 hmH (by omega)
    rw [← hg] at hq ⊢
    have hh : m / 18446744073709551616 / g = 0 := by
      rw [s1] at hq
      clear F s1
      generalize (m / 18446744073709551616 % g * 18446744073709551616 + m % 18446744073709551616) / g = l at *
      generalize m / 18446744073709551616 / g = h at *
      omega
    rw [hh, Nat.zero_mul, Nat.zero_add] at s1
    rw [s1] at hq ⊢
    exact ratio_fine_core neg _ _ _ _ _ _ _ _ _ _ _ _ F (fun e => by omega) hh hq w
theorem ratio_big (neg : Bool) (m D : Nat) (hm : m < 340282366920938463463374607431768211456) (b0 : 0 < D) (b1 : D ≤ 4611686018427387904) (hq : 4611686018427387904 < m / Nat.gcd m D) (w : World) :
    Calls Try.prog 30 #[wvV neg m, .int .i64 D] w fun e w' => e = .returned (.tuple #[ratV 0 0, .bool false]) ∧ ∃ x, w' = gx w x := by
  obtain ⟨g, hg⟩ : ∃ g, g = Nat.gcd m D := ⟨_, rfl⟩
  have hg0 : 0 < g := by rw [hg]; exact Nat.gcd_pos_of_pos_right _ b0
  have hmH : m = m / 18446744073709551616 * 18446744073709551616 + m % 18446744073709551616 := by omega
  have F := ratF_of m D g _ _ hg hmH (by omega) (by omega) b0 b1
  obtain ⟨s1, s2⟩ := quo_split hg0 hmH (by omega)
  rw [← hg] at hq
  by_cases hh : m / 18446744073709551616 / g = 0
  · rw [hh, Nat.zero_mul, Nat.zero_add] at s1
    rw [s1] at hq
    by_cases hz : m / 18446744073709551616 = 0
    · refine ratio_z_big neg _ _ _ _ _ _ _ _ _ _ _ _ F hz ?_ hh hq w
      rcases Nat.eq_zero_or_pos (m % 18446744073709551616) with e | e
      · rw [hz, e, Nat.zero_mod, Nat.zero_mul, Nat.zero_add, Nat.zero_div] at hq
        omega
      · exact e
    · exact ratio_p_big neg _ _ _ _ _ _ _ _ _ _ _ _ F (by omega) hh hq w
  · have hz : 0 < m / 18446744073709551616 := by
      rcases Nat.eq_zero_or_pos (m / 18446744073709551616) with e | e
      · rw [e, Nat.zero_div] at hh
        exact absurd rfl hh
      · exact e
    exact ratio_p_high neg _ _ _ _ _ _ _ _ _ _ _ _ F hz (by omega) w
end Go.Proofs.Ytlnbadjjgbecgaa
