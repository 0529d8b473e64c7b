/-
  Division that rounds down, the program's and the reference's; possible, nearestFrom: contracts.
-/
import Derived.Test.YtfbhjgaiejjfaaaSLeaf
namespace Go.Proofs.Ytfbhjgaiejjfaaa
open Go.RowKit
-- AT2

theorem fl_uniq_pos {a b x : Int} (h : 0 < b) (h1 : b * x ≤ a) (h2 : a < b * x + b) : fl a b = x := by
  have h3 := fl_pos (a := a) h
  generalize fl a b = q at *
  rcases Int.lt_trichotomy q x with h4 | h4 | h4
  · have := mul_lt h h4; omega
  · exact h4
  · have := mul_lt h h4; omega
theorem fl_uniq_neg {a b x : Int} (h : b < 0) (h1 : a ≤ b * x) (h2 : b * x + b < a) : fl a b = x := by
  rw [fl_swap]
  refine fl_uniq_pos (by omega) ?_ ?_ <;> rw [Int.neg_mul] <;> omega
theorem fl_tdiv {a b : Int} (h : b ≠ 0) : fl a b = if a.tmod b ≠ 0 ∧ (decide (a < 0) ≠ decide (b < 0)) then a.tdiv b - 1 else a.tdiv b := by
  have e : a.tmod b + b * a.tdiv b = a := Int.tmod_add_mul_tdiv a b
  have s1 : 0 ≤ a → 0 ≤ a.tmod b := fun h => Int.tmod_nonneg b h
  have s2 : a < 0 → a.tmod b ≤ 0 := fun h => by
    have := Int.tmod_nonneg (a := -a) b (by omega)
    rw [Int.neg_tmod] at this; omega
  have s3 : 0 < b → a.tmod b < b := fun h => Int.tmod_lt_of_pos a h
  have s4 : 0 < b → -b < a.tmod b := fun h => by
    have := Int.tmod_lt_of_pos (-a) h
    rw [Int.neg_tmod] at this; omega
  have s5 : b < 0 → a.tmod b < -b := fun h => by
    have := Int.tmod_lt_of_pos a (b := -b) (by omega)
    rw [Int.tmod_neg] at this; exact this
  have s6 : b < 0 → b < a.tmod b := fun h => by
    have := Int.tmod_lt_of_pos (-a) (b := -b) (by omega)
    rw [Int.tmod_neg, Int.neg_tmod] at this; omega
  generalize a.tmod b = r at *
  generalize a.tdiv b = q at *
  have em : b * (q - 1) = b * q - b := by rw [Int.mul_sub, Int.mul_one]
  rcases Int.lt_or_gt_of_ne h with hb | hb
  · by_cases ha : a < 0
    · rw [if_neg (by simp [ha, hb])]
      exact fl_uniq_neg hb (by omega) (by omega)
    · by_cases hr : r = 0
      · rw [if_neg (by simp [hr])]
        exact fl_uniq_neg hb (by omega) (by omega)
      · rw [if_pos (by simp [hr, ha, hb])]
        exact fl_uniq_neg hb (by omega) (by omega)
  · by_cases ha : a < 0
    · by_cases hr : r = 0
      · rw [if_neg (by simp [hr])]
        exact fl_uniq_pos hb (by omega) (by omega)
      · have hb' : ¬ b < 0 := by omega
        rw [if_pos (by simp [hr, ha, hb'])]
        exact fl_uniq_pos hb (by omega) (by omega)
    · have hb' : ¬ b < 0 := by omega
      rw [if_neg (by simp [ha, hb'])]
      exact fl_uniq_pos hb (by omega) (by omega)
theorem tdiv_bound {a b : Int} (M : Int) (h1 : -M ≤ a) (h2 : a ≤ M) : -M ≤ a.tdiv b ∧ a.tdiv b ≤ M := by
  have h3 : (a.tdiv b).natAbs ≤ a.natAbs := by rw [Int.natAbs_tdiv]; exact Nat.div_le_self _ _
  omega
theorem tmod_bound {a b : Int} (M : Int) (h1 : -M ≤ a) (h2 : a ≤ M) : -M ≤ a.tmod b ∧ a.tmod b ≤ M := by
  have h3 : (a.tmod b).natAbs ≤ a.natAbs := by rw [Int.natAbs_tmod]; exact Nat.mod_le _ _
  omega

set_option maxHeartbeats 1000000 in
theorem floor_any (a b : Int) (w : World) (h1 : -4611686018427387904 ≤ a) (h2 : a ≤ 4611686018427387904) (hb : b ≠ 0) :
    Calls Try.prog 47 #[.int .i64 a, .int .i64 b] w fun e w' => e = .returned (.int .i64 (fl a b)) ∧ w = w' := by
  have HF := Lib.hid (fl_tdiv (a := a) hb)
  obtain ⟨q1, q2⟩ := tdiv_bound (b := b) 4611686018427387904 h1 h2
  obtain ⟨r1, r2⟩ := tmod_bound (b := b) 4611686018427387904 h1 h2
  obtain ⟨q, hq⟩ : ∃ q, q = a.tdiv b := ⟨_, rfl⟩
  obtain ⟨r, hr⟩ : ∃ r, r = a.tmod b := ⟨_, rfl⟩
  have hb0 : (b == 0) = false := by simpa using hb
  have hb1 : ¬ b = 0 := hb
  rw [← hq] at q1 q2 HF
  rw [← hr] at r1 r2 HF
  have e1 : a.tdiv b = q := hq.symm
  have e2 : a.tmod b = r := hr.symm
  have e3 : IntKind.i64.wrap q = q := IntWalk.i64_in _ (by omega)
  have e4 : IntKind.i64.wrap r = r := IntWalk.i64_in _ (by omega)
  clear hq hr hb
  go_enter Try.func47, Try.ntmps47
  go_wp2
  all_goals go_ret
  all_goals exact ⟨ret_i (by rw [HF.out]; first | (simp_all; done) | (simp_all; intros; omega)), rfl⟩

theorem fl_ediv {a b : Int} (h : 0 < b) : fl a b = a / b := by
  unfold fl
  exact Int.fdiv_eq_ediv_of_nonneg a (by omega)
end Go.Proofs.Ytfbhjgaiejjfaaa
