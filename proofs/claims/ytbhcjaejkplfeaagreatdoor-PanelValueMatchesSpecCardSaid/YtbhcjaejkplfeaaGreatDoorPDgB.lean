/-
  The digits of a number: both sides are the same.
-/
import Derived.Test.YtbhcjaejkplfeaaGreatDoorPDig
import Derived.Lib.ItoaLen
import Derived.Lib.AppendIntMem
namespace Go.Proofs.YtbhcjaejkplfeaaGreatDoor
open Go.RowKit
-- AT2
-- AT3

theorem Pow.on {w W : World} (h : Pow w) (hW : ∃ x, W = gx w x) : Pow W := by
  obtain ⟨x, rfl⟩ := hW
  exact ((Lib.tabBelow_of_tabIs h).on (below_gx w x)).here
theorem itoa_pos (v : Int) : 1 ≤ (Lib.itoa v).length := by
  have h : ∀ u : Nat, 1 ≤ (Lib.decDigits u).length := fun u => by
    rw [Lib.decDigits]
    split
    · simp
    · simp
  unfold Lib.itoa
  split
  · simp
  · exact h _
theorem digits_both (n den : Int) (pl : Nat) (hn : -1125899906842624 ≤ n ∧ n ≤ 1125899906842624) (hd : 1 ≤ den ∧ den ≤ 1000000) (hpl : pl ≤ 6) :
    ∃ R : ByteArray, (∀ W, Pow W → Calls Tryz.prog 52 #[.int .i64 n, .int .i64 den, .int .i64 pl] W fun e w' => e = .returned (.string R) ∧ ∃ x, w' = gx W x) ∧ (∀ W, Pow W → Calls Tryz.prog 53 #[.int .i64 n, .int .i64 den, .int .i64 pl] W fun e w' => e = .returned (.string R) ∧ ∃ x, w' = gx W x) := by
  obtain ⟨U, hUe⟩ : ∃ U, tenN pl = U := ⟨_, rfl⟩
  have hU : 1 ≤ U ∧ U ≤ 1000000 := by rw [← hUe]; exact tenN_b pl hpl
  obtain ⟨sz, hsz⟩ : ∃ sz, max n (-n) = sz := ⟨_, rfl⟩
  have hs0 : 0 ≤ sz ∧ sz ≤ 1125899906842624 := by omega
  obtain ⟨r, hr⟩ : ∃ r, sz % den = r := ⟨_, rfl⟩
  obtain ⟨w0, hw0⟩ : ∃ w0, sz / den = w0 := ⟨_, rfl⟩
  have hr0 : 0 ≤ r ∧ r < den := by rw [← hr]; exact ⟨Int.emod_nonneg _ (by omega), Int.emod_lt_of_pos _ (by omega)⟩
  have hw1 : 0 ≤ w0 ∧ w0 ≤ sz := by rw [← hw0]; exact ⟨Int.ediv_nonneg hs0.1 (by omega), Int.ediv_le_self _ hs0.1⟩
  obtain ⟨a, ha⟩ : ∃ a, r * U = a := ⟨_, rfl⟩
  have ha0 : 0 ≤ a := by rw [← ha]; exact Int.mul_nonneg hr0.1 (by omega)
  obtain ⟨D, hD⟩ : ∃ D, den * U = D := ⟨_, rfl⟩
  have ha1 : a ≤ D - U := by
    have h := Int.mul_le_mul_of_nonneg_right (show r ≤ den - 1 by omega) (show 0 ≤ U by omega)
    rw [Int.sub_mul, Int.one_mul, hD, ha] at h
    exact h
  have hD1 : D ≤ 1000000000000 := by
    have h := Int.mul_le_mul hd.2 hU.2 (show (0 : Int) ≤ U by omega) (by decide)
    rw [hD] at h
    omega
  obtain ⟨q0, hq0⟩ : ∃ q0, (a * 2 + den) / (den * 2) = q0 := ⟨_, rfl⟩
  have hq1 : 0 ≤ q0 := by rw [← hq0]; exact Int.ediv_nonneg (by omega) (by omega)
  have hq2 : q0 ≤ U := by
    have h : (a * 2 + den) / (den * 2) < U + 1 := Int.ediv_lt_of_lt_mul (by omega) (by
      have e : (U + 1) * (den * 2) = D * 2 + den * 2 := by rw [Int.add_mul, Int.one_mul, ← hD, ← Int.mul_assoc, Int.mul_comm U den]
      rw [e]
      omega)
    omega
  obtain ⟨q1, hq1e⟩ : ∃ q1, q0 / U = q1 := ⟨_, rfl⟩
  obtain ⟨P, hPe⟩ : ∃ P, q0 % U = P := ⟨_, rfl⟩
  have hcase : (q0 = U ∧ q1 = 1 ∧ P = 0) ∨ (q0 < U ∧ q1 = 0 ∧ P = q0) := by
    by_cases e : q0 = U
    · refine .inl ⟨e, ?_, ?_⟩
      · rw [← hq1e, e]; exact Int.ediv_self (by omega)
      · rw [← hPe, e]; exact Int.emod_self
    · refine .inr ⟨by omega, ?_, ?_⟩
      · rw [← hq1e]; exact Int.ediv_eq_zero_of_lt hq1 (by omega)
      · rw [← hPe]; exact Int.emod_eq_of_lt hq1 (by omega)
  obtain ⟨R, hR⟩ : ∃ R : ByteArray, (pl = 0 ∧ n < 0 ∧ (0 < w0 + q1 ∨ (w0 + q1 ≤ 0 ∧ 0 < P)) ∧ R = ⟨#[45]⟩ ++ ⟨(Lib.itoa (w0 + q1)).toArray⟩) ∨ (pl = 0 ∧ (0 ≤ n ∨ (n < 0 ∧ w0 + q1 ≤ 0 ∧ P ≤ 0)) ∧ R = ⟨(Lib.itoa (w0 + q1)).toArray⟩) ∨ (0 < pl ∧ n < 0 ∧ (0 < w0 + q1 ∨ (w0 + q1 ≤ 0 ∧ 0 < P)) ∧ R = ⟨#[45]⟩ ++ (⟨(Lib.itoa (w0 + q1)).toArray⟩ ++ (⟨#[46]⟩ ++ (⟨(Lib.itoa (U + P)).toArray⟩ : ByteArray).extract 1 (⟨(Lib.itoa (U + P)).toArray⟩ : ByteArray).size))) ∨ (0 < pl ∧ (0 ≤ n ∨ (n < 0 ∧ w0 + q1 ≤ 0 ∧ P ≤ 0)) ∧ R = ⟨(Lib.itoa (w0 + q1)).toArray⟩ ++ (⟨#[46]⟩ ++ (⟨(Lib.itoa (U + P)).toArray⟩ : ByteArray).extract 1 (⟨(Lib.itoa (U + P)).toArray⟩ : ByteArray).size)) := by
    have hs : (n < 0 ∧ (0 < w0 + q1 ∨ (w0 + q1 ≤ 0 ∧ 0 < P))) ∨ (0 ≤ n ∨ (n < 0 ∧ w0 + q1 ≤ 0 ∧ P ≤ 0)) := by omega
    by_cases hp : pl = 0
    · rcases hs with ⟨h1, h2⟩ | h1
      · exact ⟨_, .inl ⟨hp, h1, h2, rfl⟩⟩
      · exact ⟨_, .inr (.inl ⟨hp, h1, rfl⟩)⟩
    · rcases hs with ⟨h1, h2⟩ | h1
      · exact ⟨_, .inr (.inr (.inl ⟨by omega, h1, h2, rfl⟩))⟩
      · exact ⟨_, .inr (.inr (.inr ⟨by omega, h1, rfl⟩))⟩
  have T0 : Hid (tenN 0 = 1) := Lib.hid tenN_0
  have Tp : Hid (tenN pl = U) := Lib.hid hUe
  have len : ∀ v : Int, (⟨(Lib.itoa v).toArray⟩ : ByteArray).size = (Lib.itoa v).length := fun v => by
    show (Lib.itoa v).toArray.size = _
    simp
  have i1 : (⟨(Lib.itoa (w0 + q1)).toArray⟩ : ByteArray).size ≤ 100 := by rw [len]; have := Lib.itoa_length_le (w0 + q1) (by omega) (by omega); omega
  have i2 : (⟨(Lib.itoa (U + P)).toArray⟩ : ByteArray).size ≤ 100 := by rw [len]; have := Lib.itoa_length_le (U + P) (by omega) (by omega); omega
  have i3 : 1 ≤ (⟨(Lib.itoa (U + P)).toArray⟩ : ByteArray).size := by rw [len]; exact itoa_pos _
  have I1 : ∀ W, Pow W → Hid (∀ W', (∃ x, W' = gx W x) → Calls Tryz.prog 77 #[.int .i64 (w0 + q1)] W' fun e w' => e = .returned (.string ⟨(Lib.itoa (w0 + q1)).toArray⟩) ∧ ∃ x, w' = gx W' x) := fun W h => Lib.hid fun W' hW => Itoa_any _ (by omega) (by omega) W' (h.on hW)
  have I2 : ∀ W, Pow W → Hid (∀ W', (∃ x, W' = gx W x) → Calls Tryz.prog 77 #[.int .i64 (U + P)] W' fun e w' => e = .returned (.string ⟨(Lib.itoa (U + P)).toArray⟩) ∧ ∃ x, w' = gx W' x) := fun W h => Lib.hid fun W' hW => Itoa_any _ (by omega) (by omega) W' (h.on hW)
  have t1 : sz.tmod den = r := by rw [Int.tmod_eq_emod_of_nonneg hs0.1, hr]
  have t2 : sz.tdiv den = w0 := by rw [Int.tdiv_eq_ediv_of_nonneg hs0.1, hw0]
  have t3 : (a * 2 + den).tdiv (den * 2) = q0 := by rw [Int.tdiv_eq_ediv_of_nonneg (by omega), hq0]
  have t4 : q0.tdiv U = q1 := by rw [Int.tdiv_eq_ediv_of_nonneg hq1, hq1e]
  have t5 : q0.tmod U = P := by rw [Int.tmod_eq_emod_of_nonneg hq1, hPe]
  have nz : ∀ z : Int, 1 ≤ z → (z == 0) = false := fun z h => by rw [beq_eq_false_iff_ne]; omega
  have w64 : ∀ z : Int, -9223372036854775808 ≤ z → z ≤ 9223372036854775807 → IntKind.i64.wrap z = z := fun z h1 h2 => IntWalk.i64_in _ (by omega)
  refine ⟨R, fun W hW => ?_, fun W hW => ?_⟩
  · refine digits_core n den pl hpl U sz r a (a * 2) (a * 2 + den) (den * 2) q0 w0 q1 (w0 + q1) P (U + P) _ _ R W T0 Tp (w64 _ (by omega) (by omega)) hsz (nz _ hd.1) (by omega) t1 (w64 _ (by omega) (by omega)) ?_ (w64 _ (by omega) (by omega)) (w64 _ (by omega) (by omega)) (w64 _ (by omega) (by omega)) (nz _ (by omega)) (by omega) t3 (w64 _ (by omega) (by omega)) t2 (w64 _ (by omega) (by omega)) (nz _ hU.1) (by omega) t4 (w64 _ (by omega) (by omega)) (w64 _ (by omega) (by omega)) t5 (w64 _ (by omega) (by omega)) (w64 _ (by omega) (by omega)) (I1 W hW) (I2 W hW) i3 i1 i2 hR
    rw [ha]; exact w64 _ (by omega) (by omega)
  · have e1 : 2 * U * r = a * 2 := by rw [← ha, Int.mul_comm 2 U, Int.mul_comm r U, Int.mul_assoc, Int.mul_comm 2 r, ← Int.mul_assoc]
    refine rdigits_core n den pl hpl U sz r (2 * U) (a * 2) (a * 2 + den) (den * 2) q0 w0 (w0 + q1) P (U + P) _ _ R W T0 Tp hU ?_ (nz _ hd.1) (by omega) t1 (w64 _ (by omega) (by omega)) (w64 _ (by omega) (by omega)) ?_ (w64 _ (by omega) (by omega)) ?_ (nz _ (by omega)) (by omega) t3 (w64 _ (by omega) (by omega)) t2 (w64 _ (by omega) (by omega)) ?_ (by omega) (by omega) (w64 _ (by omega) (by omega)) (I1 W hW) (I2 W hW) i3 i1 i2 hR
    · by_cases h : n < 0
      · exact .inr ⟨h, by rw [w64 _ (by omega) (by omega)]; omega⟩
      · exact .inl ⟨by omega, by omega⟩
    · rw [e1]; exact w64 _ (by omega) (by omega)
    · rw [Int.mul_comm 2 den]; exact w64 _ (by omega) (by omega)
    · rcases hcase with ⟨h1, h2, h3⟩ | ⟨h1, h2, h3⟩
      · exact .inl ⟨h1, by rw [h2]; exact w64 _ (by omega) (by omega), h3, by omega⟩
      · exact .inr ⟨by omega, by omega, h3⟩
end Go.Proofs.YtbhcjaejkplfeaaGreatDoor
