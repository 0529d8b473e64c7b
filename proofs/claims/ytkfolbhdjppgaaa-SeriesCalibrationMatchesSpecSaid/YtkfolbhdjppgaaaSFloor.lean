/-
  Division that rounds down, the program's and the reference's; possible, nearestFrom: contracts.
-/
import Derived.Test.YtkfolbhdjppgaaaSApp
namespace Go.Proofs.Ytkfolbhdjppgaaa
open Go.RowKit
-- AT2

theorem fl_uniq_pos {a b x : Int} (h : 0 < b) (h1 : b * x ≤ a) (h2 : a < b * x + b) : fl a b = x := by
  have h3 := fl_pos (a := a) h
  generalize fl a b = q at *
  rcases Int.lt_trichotomy q x with h4 | h4 | h4
  · have := mul_lt h h4; omega
  · exact h4
  · have := mul_lt h h4; omega
theorem fl_uniq_neg {a b x : Int} (h : b < 0) (h1 : a ≤ b * x) (h2 : b * x + b < a) : fl a b = x := by
  rw [fl_swap]
  refine fl_uniq_pos (by omega) ?_ ?_ <;> rw [Int.neg_mul] <;> omega
theorem fl_tdiv {a b : Int} (h : b ≠ 0) : fl a b = if a.tmod b ≠ 0 ∧ (decide (a < 0) ≠ decide (b < 0)) then a.tdiv b - 1 else a.tdiv b := by
  have e : a.tmod b + b * a.tdiv b = a := Int.tmod_add_mul_tdiv a b
  have s1 : 0 ≤ a → 0 ≤ a.tmod b := fun h => Int.tmod_nonneg b h
  have s2 : a < 0 → a.tmod b ≤ 0 := fun h => by
    have := Int.tmod_nonneg (a := -a) b (by omega)
    rw [Int.neg_tmod] at this; omega
  have s3 : 0 < b → a.tmod b < b := fun h => Int.tmod_lt_of_pos a h
  have s4 : 0 < b → -b < a.tmod b := fun h => by
    have := Int.tmod_lt_of_pos (-a) h
    rw [Int.neg_tmod] at this; omega
  have s5 : b < 0 → a.tmod b < -b := fun h => by
    have := Int.tmod_lt_of_pos a (b := -b) (by omega)
    rw [Int.tmod_neg] at this; exact this
  have s6 : b < 0 → b < a.tmod b := fun h => by
    have := Int.tmod_lt_of_pos (-a) (b := -b) (by omega)
    rw [Int.tmod_neg, Int.neg_tmod] at this; omega
  generalize a.tmod b = r at *
  generalize a.tdiv b = q at *
  have em : b * (q - 1) = b * q - b := by rw [Int.mul_sub, Int.mul_one]
  rcases Int.lt_or_gt_of_ne h with hb | hb
  · by_cases ha : a < 0
    · rw [if_neg (by simp [ha, hb])]
      exact fl_uniq_neg hb (by omega) (by omega)
    · by_cases hr : r = 0
      · rw [if_neg (by simp [hr])]
        exact fl_uniq_neg hb (by omega) (by omega)
      · rw [if_pos (by simp [hr, ha, hb])]
        exact fl_uniq_neg hb (by omega) (by omega)
  · by_cases ha : a < 0
    · by_cases hr : r = 0
      · rw [if_neg (by simp [hr])]
        exact fl_uniq_pos hb (by omega) (by omega)
      · have hb' : ¬ b < 0 := by omega
        rw [if_pos (by simp [hr, ha, hb'])]
        exact fl_uniq_pos hb (by omega) (by omega)
    · have hb' : ¬ b < 0 := by omega
      rw [if_neg (by simp [ha, hb'])]
      exact fl_uniq_pos hb (by omega) (by omega)
theorem tdiv_bound {a b : Int} (M : Int) (h1 : -M ≤ a) (h2 : a ≤ M) : -M ≤ a.tdiv b ∧ a.tdiv b ≤ M := by
  have h3 : (a.tdiv b).natAbs ≤ a.natAbs := by rw [Int.natAbs_tdiv]; exact Nat.div_le_self _ _
  omega
theorem tmod_bound {a b : Int} (M : Int) (h1 : -M ≤ a) (h2 : a ≤ M) : -M ≤ a.tmod b ∧ a.tmod b ≤ M := by
  have h3 : (a.tmod b).natAbs ≤ a.natAbs := by rw [Int.natAbs_tmod]; exact Nat.mod_le _ _
  omega

set_option maxHeartbeats 1000000 in
theorem floor_any (a b : Int) (w : World) (h1 : -4611686018427387904 ≤ a) (h2 : a ≤ 4611686018427387904) (hb : b ≠ 0) :
    Calls Try.prog 56 #[.int .i64 a, .int .i64 b] w fun e w' => e = .returned (.int .i64 (fl a b)) ∧ w = w' := by
  have HF := Lib.hid (fl_tdiv (a := a) hb)
  obtain ⟨q1, q2⟩ := tdiv_bound (b := b) 4611686018427387904 h1 h2
  obtain ⟨r1, r2⟩ := tmod_bound (b := b) 4611686018427387904 h1 h2
  obtain ⟨q, hq⟩ : ∃ q, q = a.tdiv b := ⟨_, rfl⟩
  obtain ⟨r, hr⟩ : ∃ r, r = a.tmod b := ⟨_, rfl⟩
  have hb0 : (b == 0) = false := by simpa using hb
  have hb1 : ¬ b = 0 := hb
  rw [← hq] at q1 q2 HF
  rw [← hr] at r1 r2 HF
  have e1 : a.tdiv b = q := hq.symm
  have e2 : a.tmod b = r := hr.symm
  have e3 : IntKind.i64.wrap q = q := IntWalk.i64_in _ (by omega)
  have e4 : IntKind.i64.wrap r = r := IntWalk.i64_in _ (by omega)
  clear hq hr hb
  go_enter Try.func56, Try.ntmps56
  go_wp2
  all_goals go_ret
  all_goals exact ⟨ret_i (by rw [HF.out]; first | (simp_all; done) | (simp_all; intros; omega)), rfl⟩

theorem ceil_any (a b : Int) (w : World) (h1 : -4611686018427387904 ≤ a) (h2 : a ≤ 4611686018427387904) (hb : b ≠ 0) :
    Calls Try.prog 55 #[.int .i64 a, .int .i64 b] w fun e w' => e = .returned (.int .i64 (cl a b)) ∧ w = w' := by
  have hq := fl_bound (a := -a) (b := b) (M := 4611686018427387904) hb (by omega) (by omega) (by omega)
  have HC : Hid (cl a b = - fl (-a) b) := by unfold cl; exact rfl
  go_enter Try.func55, Try.ntmps55
  go_wp2_with (go_at_call 56; refine (floor_any _ _ _ (by omega) (by omega) hb).mono ?_; rintro e w' ⟨rfl, rfl⟩)
  go_ret
  exact ⟨ret_i (by rw [HC.out]), rfl⟩
set_option maxHeartbeats 1000000 in
theorem Rfloor_any (a b : Int) (w : World) (h1 : -4611686018427387904 ≤ a) (h2 : a ≤ 4611686018427387904) (hb : b ≠ 0) (hb1 : -1048576 ≤ b) (hb2 : b ≤ 1048576) :
    Calls Try.prog 57 #[.int .i64 a, .int .i64 b] w fun e w' => e = .returned (.int .i64 (fl a b)) ∧ w = w' := by
  have key : ∀ c d : Int, 0 < d → fl c d = if c.tmod d < 0 then c.tdiv d - 1 else c.tdiv d := by
    intro c d hd
    rw [fl_tdiv (by omega)]
    have s1 : 0 ≤ c → 0 ≤ c.tmod d := fun h => Int.tmod_nonneg d h
    have s2 : c < 0 → c.tmod d ≤ 0 := fun h => by
      have := Int.tmod_nonneg (a := -c) d (by omega)
      rw [Int.neg_tmod] at this; omega
    generalize c.tmod d = r at *
    have hd' : ¬ d < 0 := by omega
    by_cases hc : c < 0
    · by_cases hr : r = 0
      · simp [hr]
      · rw [if_pos (by simp [hr, hc, hd']), if_pos (by omega)]
    · rw [if_neg (by simp [hc, hd']), if_neg (by omega)]
  have hb0 : (b == 0) = false := by simpa using hb
  rcases Int.lt_or_gt_of_ne hb with hs | hs
  · have HF := Lib.hid ((fl_swap a b).trans (key (-a) (-b) (by omega)))
    obtain ⟨q1, q2⟩ := tdiv_bound (a := -a) (b := -b) 4611686018427387904 (by omega) (by omega)
    obtain ⟨r1, r2⟩ := tmod_bound (a := -a) (b := -b) 4611686018427387904 (by omega) (by omega)
    obtain ⟨q, hq⟩ : ∃ q, q = (-a).tdiv (-b) := ⟨_, rfl⟩
    obtain ⟨r, hr⟩ : ∃ r, r = (-a).tmod (-b) := ⟨_, rfl⟩
    rw [← hq] at q1 q2 HF
    rw [← hr] at r1 r2 HF
    have e1 : (-a).tdiv (-b) = q := hq.symm
    have e2 : (-a).tmod (-b) = r := hr.symm
    have e3 : IntKind.i64.wrap q = q := IntWalk.i64_in _ (by omega)
    have e4 : IntKind.i64.wrap r = r := IntWalk.i64_in _ (by omega)
    have n1 : IntKind.i64.wrap (-a) = -a := IntWalk.i64_in _ (by omega)
    have n2 : IntKind.i64.wrap (-b) = -b := IntWalk.i64_in _ (by omega)
    have n3 : (-b == 0) = false := by simpa using hb
    clear hq hr hb key
    go_enter Try.func57, Try.ntmps57
    go_wp2
    all_goals go_ret
    all_goals exact ⟨ret_i (by rw [HF.out]; first | (simp_all; done) | (simp_all; intros; omega)), rfl⟩
  · have HF := Lib.hid (key a b hs)
    obtain ⟨q1, q2⟩ := tdiv_bound (a := a) (b := b) 4611686018427387904 (by omega) (by omega)
    obtain ⟨r1, r2⟩ := tmod_bound (a := a) (b := b) 4611686018427387904 (by omega) (by omega)
    obtain ⟨q, hq⟩ : ∃ q, q = a.tdiv b := ⟨_, rfl⟩
    obtain ⟨r, hr⟩ : ∃ r, r = a.tmod b := ⟨_, rfl⟩
    rw [← hq] at q1 q2 HF
    rw [← hr] at r1 r2 HF
    have e1 : a.tdiv b = q := hq.symm
    have e2 : a.tmod b = r := hr.symm
    have e3 : IntKind.i64.wrap q = q := IntWalk.i64_in _ (by omega)
    have e4 : IntKind.i64.wrap r = r := IntWalk.i64_in _ (by omega)
    clear hq hr hb key
    go_enter Try.func57, Try.ntmps57
    go_wp2
    all_goals go_ret
    all_goals exact ⟨ret_i (by rw [HF.out]; first | (simp_all; done) | (simp_all; intros; omega)), rfl⟩

/-- possible. -/
theorem loV_0 {l : Ln} {lo hi : Int} (h : l.a = 0) (h1 : l.b < lo ∨ hi < l.b) : loV l lo hi = 1 ∧ hiV l lo hi = 0 := by unfold loV hiV; rw [if_pos h, if_pos h, if_pos h1, if_pos h1]; exact ⟨rfl, rfl⟩
theorem loV_1 {l : Ln} {lo hi : Int} (h : l.a = 0) (h1 : ¬ (l.b < lo ∨ hi < l.b)) : loV l lo hi = l.f ∧ hiV l lo hi = l.t := by unfold loV hiV; rw [if_pos h, if_pos h, if_neg h1, if_neg h1]; exact ⟨rfl, rfl⟩
theorem loV_neg {l : Ln} {lo hi : Int} (h : l.a < 0) : loV l lo hi = max l.f (cl (hi - l.b) l.a) ∧ hiV l lo hi = min l.t (fl (lo - l.b) l.a) := by
  unfold loV hiV; have h0 : ¬ l.a = 0 := by omega
  rw [if_neg h0, if_neg h0, if_pos h, if_pos h]; exact ⟨rfl, rfl⟩
theorem loV_pos {l : Ln} {lo hi : Int} (h : 0 < l.a) : loV l lo hi = max l.f (cl (lo - l.b) l.a) ∧ hiV l lo hi = min l.t (fl (hi - l.b) l.a) := by
  unfold loV hiV; have h0 : ¬ l.a = 0 := by omega
  have h00 : ¬ l.a < 0 := by omega
  rw [if_neg h0, if_neg h0, if_neg h00, if_neg h00]; exact ⟨rfl, rfl⟩
set_option maxHeartbeats 4000000 in
set_option maxRecDepth 100000 in
theorem possible_any (l : Ln) (lo hi : Int) (w : World) (hok : lnOk l) (hlo : isN lo) (hhi : isN hi) :
    Calls Try.prog 30 #[lnV l.f l.t l.a l.b, .int .i64 lo, .int .i64 hi] w fun e w' => e = .returned (.tuple #[.int .i64 (loV l lo hi), .int .i64 (hiV l lo hi)]) ∧ ∃ x, w' = gx w x := by
  unfold lnOk at hok
  unfold isN at hlo hhi
  obtain ⟨o1, o2, o3, o4, o5, o6, o7, o8, o9⟩ := hok
  obtain ⟨i1, i2⟩ := hlo
  obtain ⟨i3, i4⟩ := hhi
  rcases Int.lt_trichotomy l.a 0 with ha | ha | ha
  · obtain ⟨E1, E2⟩ := loV_neg (lo := lo) (hi := hi) ha
    have a0 : (l.a == 0) = false := by simpa using (by omega : l.a ≠ 0)
    have a1 : l.a ≠ 0 := by omega
    have da : decide (l.a < 0) = true := decide_eq_true ha
    have w1 : IntKind.i64.wrap (hi - l.b) = hi - l.b := IntWalk.i64_in _ (by omega)
    have w2 : IntKind.i64.wrap (lo - l.b) = lo - l.b := IntWalk.i64_in _ (by omega)
    have HC := fun W => ceil_any (hi - l.b) l.a W (by omega) (by omega) a1
    have HD := fun W => floor_any (lo - l.b) l.a W (by omega) (by omega) a1
    generalize cl (hi - l.b) l.a = p at *
    generalize fl (lo - l.b) l.a = q at *
    generalize loV l lo hi = u at *
    generalize hiV l lo hi = v at *
    have M1 : (if l.f < p then p else l.f) = u := by rw [E1]; split <;> omega
    have M2 : (if q < l.t then q else l.t) = v := by rw [E2]; split <;> omega
    clear E1 E2
    go_enter Try.func30, Try.ntmps30
    go_wp2
    go_quiet (first | (go_at_call 55; exact Calls.quiet_of_same ((HC _).mono fun _ _ h => ⟨h.1, h.2.symm⟩)))
    go_wp2
    refine region_gx (by kernel_rfl) (by kernel_rfl) ?_
    repeat (any_goals (first | (refine quiet_fr rfl _ rfl _ rfl ?_ ?_ ?_ ?_; rotate_left; (focus (rintro _ ⟨x, rfl⟩; (focus (repeat (first | (with_reducible assumption) | (with_reducible exact At.new _ _) | (with_reducible refine At.row ?_) | (with_reducible refine At.app ?_) | (with_reducible refine At.tick ?_) | (with_reducible refine At.gx ?_) | ((with_reducible refine At.new' ?_); focus (simp; done)) | (with_reducible refine At.alloc ?_) | (with_reducible refine At.drew ?_) | (with_reducible exact Is.new _ _ _) | (with_reducible refine Is.row ?_) | (with_reducible refine Is.gx ?_) | ((with_reducible refine Is.new' ?_); focus (simp; done)) | (with_reducible refine Is.alloc ?_) | (with_reducible refine Is.drew ?_)))))); (focus (with_reducible (first | exact hl | exact hl1 | exact hl2 | exact hl3 | exact hl4 | exact zeroF_len)))) | go_big_quiet_step ((first | (go_at_call 56; exact calls_gx_same (HD _)))) | quiet_step ((first | (go_at_call 56; exact calls_gx_same (HD _))))))
    refine wpQuiet_nil ?_
    rintro _ ⟨x, rfl⟩
    go_wp2
    go_ret2
    exact ⟨rfl, (by repeat (first | (with_reducible exact Gx.refl _) | (with_reducible assumption) | (with_reducible refine Gx.gx ?_) | (with_reducible refine Gx.alloc ?_) | (with_reducible refine Gx.drew ?_) | (with_reducible refine Gx.drewN ?_) | (with_reducible refine Gx.setRow ?_ (by simp)) | (with_reducible refine Gx.setCell ?_ (by simp))))⟩
  · have a0 : (l.a == 0) = true := by simpa using ha
    by_cases h1 : l.b < lo ∨ hi < l.b
    · obtain ⟨E1, E2⟩ := loV_0 (lo := lo) (hi := hi) ha h1
      rw [E1, E2]
      clear E1 E2
      by_cases h2 : l.b < lo
      · have d1 : decide (l.b < lo) = true := decide_eq_true h2
        clear h1 h2
        go_enter Try.func30, Try.ntmps30
        go_wp2
        go_ret2
        exact ⟨rfl, (by repeat (first | (with_reducible exact Gx.refl _) | (with_reducible assumption) | (with_reducible refine Gx.gx ?_) | (with_reducible refine Gx.alloc ?_) | (with_reducible refine Gx.drew ?_) | (with_reducible refine Gx.drewN ?_) | (with_reducible refine Gx.setRow ?_ (by simp)) | (with_reducible refine Gx.setCell ?_ (by simp))))⟩
      · have d1 : decide (l.b < lo) = false := decide_eq_false h2
        have d2 : decide (hi < l.b) = true := decide_eq_true (by omega)
        clear h1 h2
        go_enter Try.func30, Try.ntmps30
        go_wp2
        go_ret2
        exact ⟨rfl, (by repeat (first | (with_reducible exact Gx.refl _) | (with_reducible assumption) | (with_reducible refine Gx.gx ?_) | (with_reducible refine Gx.alloc ?_) | (with_reducible refine Gx.drew ?_) | (with_reducible refine Gx.drewN ?_) | (with_reducible refine Gx.setRow ?_ (by simp)) | (with_reducible refine Gx.setCell ?_ (by simp))))⟩
    · obtain ⟨E1, E2⟩ := loV_1 (lo := lo) (hi := hi) ha h1
      rw [E1, E2]
      clear E1 E2
      have d1 : decide (l.b < lo) = false := decide_eq_false (by omega)
      have d2 : decide (hi < l.b) = false := decide_eq_false (by omega)
      clear h1
      go_enter Try.func30, Try.ntmps30
      go_wp2
      go_quiet (fail)
      go_wp2
      go_ret2
      exact ⟨rfl, (by repeat (first | (with_reducible exact Gx.refl _) | (with_reducible assumption) | (with_reducible refine Gx.gx ?_) | (with_reducible refine Gx.alloc ?_) | (with_reducible refine Gx.drew ?_) | (with_reducible refine Gx.drewN ?_) | (with_reducible refine Gx.setRow ?_ (by simp)) | (with_reducible refine Gx.setCell ?_ (by simp))))⟩
  · obtain ⟨E1, E2⟩ := loV_pos (lo := lo) (hi := hi) ha
    have a0 : (l.a == 0) = false := by simpa using (by omega : l.a ≠ 0)
    have a1 : l.a ≠ 0 := by omega
    have da : decide (l.a < 0) = false := decide_eq_false (by omega)
    have w1 : IntKind.i64.wrap (lo - l.b) = lo - l.b := IntWalk.i64_in _ (by omega)
    have w2 : IntKind.i64.wrap (hi - l.b) = hi - l.b := IntWalk.i64_in _ (by omega)
    have HC := fun W => ceil_any (lo - l.b) l.a W (by omega) (by omega) a1
    have HD := fun W => floor_any (hi - l.b) l.a W (by omega) (by omega) a1
    generalize cl (lo - l.b) l.a = p at *
    generalize fl (hi - l.b) l.a = q at *
    generalize loV l lo hi = u at *
    generalize hiV l lo hi = v at *
    have M1 : (if l.f < p then p else l.f) = u := by rw [E1]; split <;> omega
    have M2 : (if q < l.t then q else l.t) = v := by rw [E2]; split <;> omega
    clear E1 E2
    go_enter Try.func30, Try.ntmps30
    go_wp2
    go_quiet (first | (go_at_call 55; exact Calls.quiet_of_same ((HC _).mono fun _ _ h => ⟨h.1, h.2.symm⟩)))
    go_wp2
    refine region_gx (by kernel_rfl) (by kernel_rfl) ?_
    repeat (any_goals (first | (refine quiet_fr rfl _ rfl _ rfl ?_ ?_ ?_ ?_; rotate_left; (focus (rintro _ ⟨x, rfl⟩; (focus (repeat (first | (with_reducible assumption) | (with_reducible exact At.new _ _) | (with_reducible refine At.row ?_) | (with_reducible refine At.app ?_) | (with_reducible refine At.tick ?_) | (with_reducible refine At.gx ?_) | ((with_reducible refine At.new' ?_); focus (simp; done)) | (with_reducible refine At.alloc ?_) | (with_reducible refine At.drew ?_) | (with_reducible exact Is.new _ _ _) | (with_reducible refine Is.row ?_) | (with_reducible refine Is.gx ?_) | ((with_reducible refine Is.new' ?_); focus (simp; done)) | (with_reducible refine Is.alloc ?_) | (with_reducible refine Is.drew ?_)))))); (focus (with_reducible (first | exact hl | exact hl1 | exact hl2 | exact hl3 | exact hl4 | exact zeroF_len)))) | go_big_quiet_step ((first | (go_at_call 56; exact calls_gx_same (HD _)))) | quiet_step ((first | (go_at_call 56; exact calls_gx_same (HD _))))))
    refine wpQuiet_nil ?_
    rintro _ ⟨x, rfl⟩
    go_wp2
    go_ret2
    exact ⟨rfl, (by repeat (first | (with_reducible exact Gx.refl _) | (with_reducible assumption) | (with_reducible refine Gx.gx ?_) | (with_reducible refine Gx.alloc ?_) | (with_reducible refine Gx.drew ?_) | (with_reducible refine Gx.drewN ?_) | (with_reducible refine Gx.setRow ?_ (by simp)) | (with_reducible refine Gx.setCell ?_ (by simp))))⟩
end Go.Proofs.Ytkfolbhdjppgaaa
