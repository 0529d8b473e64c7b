/-
  The digits of a number: both sides.
-/
import Derived.Test.YtbhcjaejkplfeaaGreatDoorPItoa
import Derived.Test.YtbhcjaejkplfeaaGreatDoorSLeaf
import Derived.LoopN
import Derived.BigRegion
import Derived.BigQuiet
namespace Go.Proofs.YtbhcjaejkplfeaaGreatDoor
open Go.RowKit
-- AT2
-- AT3

/-- 10 to the power of k. -/
def tenN : Nat → Int
  | 0 => 1
  | k + 1 => tenN k * 10
theorem tenN_b : ∀ k, k ≤ 6 → 1 ≤ tenN k ∧ tenN k ≤ 1000000 := fun k hk => by
  have : k = 0 ∨ k = 1 ∨ k = 2 ∨ k = 3 ∨ k = 4 ∨ k = 5 ∨ k = 6 := by omega
  rcases this with rfl | rfl | rfl | rfl | rfl | rfl | rfl <;> decide
theorem tenN_s (k : Nat) : tenN k * 10 = tenN (k + 1) := rfl
theorem tenN_0 : tenN 0 = 1 := rfl
attribute [irreducible] tenN
set_option maxHeartbeats 4000000 in
set_option maxRecDepth 100000 in
theorem digits_core (n den : Int) (pl : Nat) (hpl : pl ≤ 6) (U sz r a b c d q0 w0 q1 W P V : Int) (I1 I2 R : ByteArray) (w : World)
    (HT0 : Hid (tenN 0 = 1)) (HTp : Hid (tenN pl = U)) (e1 : IntKind.i64.wrap (-n) = -n) (e2 : max n (-n) = sz) (_z1 : (den == 0) = false) (z2 : ¬ den = 0) (e3 : sz.tmod den = r) (_e4 : IntKind.i64.wrap r = r)
    (e5 : IntKind.i64.wrap (r * U) = a) (e6 : IntKind.i64.wrap (a * 2) = b) (e7 : IntKind.i64.wrap (b + den) = c) (e8 : IntKind.i64.wrap (den * 2) = d) (_z3 : (d == 0) = false) (z4 : ¬ d = 0) (e9 : c.tdiv d = q0) (e10 : IntKind.i64.wrap q0 = q0)
    (e11 : sz.tdiv den = w0) (e12 : IntKind.i64.wrap w0 = w0) (_z5 : (U == 0) = false) (z6 : ¬ U = 0) (e13 : q0.tdiv U = q1) (e14 : IntKind.i64.wrap q1 = q1) (e15 : IntKind.i64.wrap (w0 + q1) = W) (e16 : q0.tmod U = P) (e17 : IntKind.i64.wrap P = P) (e18 : IntKind.i64.wrap (U + P) = V)
    (HI1 : Hid (∀ W', (∃ x, W' = gx w x) → Calls Tryz.prog 77 #[.int .i64 W] W' fun e w' => e = .returned (.string I1) ∧ ∃ x, w' = gx W' x))
    (HI2 : Hid (∀ W', (∃ x, W' = gx w x) → Calls Tryz.prog 77 #[.int .i64 V] W' fun e w' => e = .returned (.string I2) ∧ ∃ x, w' = gx W' x))
    (hs2 : 1 ≤ I2.size) (hs3 : I1.size ≤ 100) (hs4 : I2.size ≤ 100) (hR : (pl = 0 ∧ n < 0 ∧ (0 < W ∨ (W ≤ 0 ∧ 0 < P)) ∧ R = ⟨#[45]⟩ ++ I1) ∨ (pl = 0 ∧ (0 ≤ n ∨ (n < 0 ∧ W ≤ 0 ∧ P ≤ 0)) ∧ R = I1) ∨ (0 < pl ∧ n < 0 ∧ (0 < W ∨ (W ≤ 0 ∧ 0 < P)) ∧ R = ⟨#[45]⟩ ++ (I1 ++ (⟨#[46]⟩ ++ I2.extract 1 I2.size))) ∨ (0 < pl ∧ (0 ≤ n ∨ (n < 0 ∧ W ≤ 0 ∧ P ≤ 0)) ∧ R = I1 ++ (⟨#[46]⟩ ++ I2.extract 1 I2.size))) :
    Calls Tryz.prog 52 #[.int .i64 n, .int .i64 den, .int .i64 pl] w fun e w' => e = .returned (.string R) ∧ ∃ x, w' = gx w x := by
  have y2 : (1 : Int) ≤ (I2.size : Int) := by omega
  have m0 : ¬ 9223372036854775807 < I2.size := by omega
  have m1 : ¬ 9223372036854775807 < I1.size + I2.size := by omega
  have m2 : ¬ 9223372036854775807 < I1.size := by omega
  have m3 : ¬ 9223372036854775807 < I1.size + 1 := by omega
  have m4 : ¬ 9223372036854775807 < 1 + I1.size := by omega
  have m5 : ¬ 9223372036854775807 < I1.size + I2.size + 1 := by omega
  have m6 : ¬ 9223372036854775807 < 1 + (I1.size + I2.size) := by omega
  go_enter Tryz.func52, Tryz.ntmps52
  go_wp2
  go_loop [7, 13] (fun u i => ∃ k : Nat, k ≤ pl ∧ i = .int .i64 k ∧ u = .int .i64 (tenN k)) (fun u i => pl - (intOf i).toNat)
  case atStart => exact ⟨0, Nat.zero_le _, rfl, by rw [HT0.out]⟩
  case round =>
    obtain ⟨k, hk, rfl, rfl⟩ := hrel
    by_cases hlt : k < pl
    · have hlt' : (k : Int) < (pl : Int) := by omega
      have hd : decide ((k : Int) < (pl : Int)) = true := decide_eq_true hlt'
      have hm : IntKind.i64.wrap (tenN k * 10) = tenN (k + 1) := by
        have := tenN_b (k + 1) (by omega)
        rw [tenN_s, IntWalk.i64_in _ (by omega)]
      have HM := Lib.hid hk
      generalize tenN k = t at *
      obtain ⟨t2, ht2⟩ : ∃ t2, tenN (k + 1) = t2 := ⟨_, rfl⟩
      rw [ht2] at hm
      have Ht2 := Lib.hid ht2
      clear ht2
      go_wp2
      go_round
      case rel => exact ⟨k + 1, by omega, by go_num, by rw [Ht2.out]⟩
      case measure => simp [intOf]; omega
    · obtain rfl : k = pl := by omega
      have hd : decide ((k : Int) < (k : Int)) = false := decide_eq_false (by omega)
      rw [HTp.out]
      clear HTp HT0 hlt hk
      have hcs : (k = 0 ∧ n < 0 ∧ 0 < W ∧ R = ⟨#[45]⟩ ++ I1) ∨ (k = 0 ∧ n < 0 ∧ W ≤ 0 ∧ 0 < P ∧ R = ⟨#[45]⟩ ++ I1) ∨ (k = 0 ∧ 0 ≤ n ∧ R = I1) ∨ (k = 0 ∧ n < 0 ∧ W ≤ 0 ∧ P ≤ 0 ∧ R = I1) ∨ (0 < k ∧ n < 0 ∧ 0 < W ∧ R = ⟨#[45]⟩ ++ (I1 ++ (⟨#[46]⟩ ++ I2.extract 1 I2.size))) ∨ (0 < k ∧ n < 0 ∧ W ≤ 0 ∧ 0 < P ∧ R = ⟨#[45]⟩ ++ (I1 ++ (⟨#[46]⟩ ++ I2.extract 1 I2.size))) ∨ (0 < k ∧ 0 ≤ n ∧ R = I1 ++ (⟨#[46]⟩ ++ I2.extract 1 I2.size)) ∨ (0 < k ∧ n < 0 ∧ W ≤ 0 ∧ P ≤ 0 ∧ R = I1 ++ (⟨#[46]⟩ ++ I2.extract 1 I2.size)) := by
        rcases hR with ⟨a1, a2, a3 | ⟨a3, a5⟩, a4⟩ | ⟨a1, a2 | ⟨a2, a3, a5⟩, a4⟩ | ⟨a1, a2, a3 | ⟨a3, a5⟩, a4⟩ | ⟨a1, a2 | ⟨a2, a3, a5⟩, a4⟩
        · exact .inl ⟨a1, a2, a3, a4⟩
        · exact .inr (.inl ⟨a1, a2, a3, a5, a4⟩)
        · exact .inr (.inr (.inl ⟨a1, a2, a4⟩))
        · exact .inr (.inr (.inr (.inl ⟨a1, a2, a3, a5, a4⟩)))
        · exact .inr (.inr (.inr (.inr (.inl ⟨a1, a2, a3, a4⟩))))
        · exact .inr (.inr (.inr (.inr (.inr (.inl ⟨a1, a2, a3, a5, a4⟩)))))
        · exact .inr (.inr (.inr (.inr (.inr (.inr (.inl ⟨a1, a2, a4⟩))))))
        · exact .inr (.inr (.inr (.inr (.inr (.inr (.inr ⟨a1, a2, a3, a5, a4⟩))))))
      clear hR hpl
      go_wp2
      go_quiet (fail)
      rcases hcs with ⟨h1, h2, h3, hR⟩ | ⟨h1, h2, h3, h4, hR⟩ | ⟨h1, h2, hR⟩ | ⟨h1, h2, h3, h4, hR⟩ | ⟨h1, h2, h3, hR⟩ | ⟨h1, h2, h3, h4, hR⟩ | ⟨h1, h2, hR⟩ | ⟨h1, h2, h3, h4, hR⟩
      · have HR := Lib.hid hR
        have k1 : decide (0 < (k : Int)) = false := decide_eq_false (by omega)
        have k0 : decide (0 < k) = false := decide_eq_false (by omega)
        have k2 : decide (n < 0) = true := decide_eq_true (by omega)
        have k3 : decide (0 < W) = true := decide_eq_true (by omega)
        clear hR h1 h2 h3
        go_wp2_with (first | go_skip | (go_at_call 77; with_reducible refine (HI1.out _ ?_).mono ?_; (focus exact (by repeat (first | (with_reducible exact Gx.refl _) | (with_reducible assumption) | (with_reducible refine Gx.gx ?_) | (with_reducible refine Gx.alloc ?_) | (with_reducible refine Gx.drew ?_) | (with_reducible refine Gx.drewN ?_) | (with_reducible refine Gx.setRow ?_ (by first | omega | (simp; done) | (simp <;> omega))) | (with_reducible refine Gx.setCell ?_ (by first | omega | (simp; done) | (simp <;> omega)))))); rintro e w' ⟨rfl, x1, rfl⟩) | (go_at_call 77; with_reducible refine (HI2.out _ ?_).mono ?_; (focus exact (by repeat (first | (with_reducible exact Gx.refl _) | (with_reducible assumption) | (with_reducible refine Gx.gx ?_) | (with_reducible refine Gx.alloc ?_) | (with_reducible refine Gx.drew ?_) | (with_reducible refine Gx.drewN ?_) | (with_reducible refine Gx.setRow ?_ (by first | omega | (simp; done) | (simp <;> omega))) | (with_reducible refine Gx.setCell ?_ (by first | omega | (simp; done) | (simp <;> omega)))))); rintro e w' ⟨rfl, x2, rfl⟩))
        go_ret
        exact ⟨by rw [HR.out]; rfl, (by repeat (first | (with_reducible exact Gx.refl _) | (with_reducible assumption) | (with_reducible refine Gx.gx ?_) | (with_reducible refine Gx.alloc ?_) | (with_reducible refine Gx.drew ?_) | (with_reducible refine Gx.drewN ?_) | (with_reducible refine Gx.setRow ?_ (by first | omega | (simp; done) | (simp <;> omega))) | (with_reducible refine Gx.setCell ?_ (by first | omega | (simp; done) | (simp <;> omega)))))⟩
      · have HR := Lib.hid hR
        have k1 : decide (0 < (k : Int)) = false := decide_eq_false (by omega)
        have k0 : decide (0 < k) = false := decide_eq_false (by omega)
        have k2 : decide (n < 0) = true := decide_eq_true (by omega)
        have k3 : decide (0 < W) = false := decide_eq_false (by omega)
        have k4 : decide (0 < P) = true := decide_eq_true (by omega)
        clear hR h1 h2 h3 h4
        go_wp2_with (first | go_skip | (go_at_call 77; with_reducible refine (HI1.out _ ?_).mono ?_; (focus exact (by repeat (first | (with_reducible exact Gx.refl _) | (with_reducible assumption) | (with_reducible refine Gx.gx ?_) | (with_reducible refine Gx.alloc ?_) | (with_reducible refine Gx.drew ?_) | (with_reducible refine Gx.drewN ?_) | (with_reducible refine Gx.setRow ?_ (by first | omega | (simp; done) | (simp <;> omega))) | (with_reducible refine Gx.setCell ?_ (by first | omega | (simp; done) | (simp <;> omega)))))); rintro e w' ⟨rfl, x1, rfl⟩) | (go_at_call 77; with_reducible refine (HI2.out _ ?_).mono ?_; (focus exact (by repeat (first | (with_reducible exact Gx.refl _) | (with_reducible assumption) | (with_reducible refine Gx.gx ?_) | (with_reducible refine Gx.alloc ?_) | (with_reducible refine Gx.drew ?_) | (with_reducible refine Gx.drewN ?_) | (with_reducible refine Gx.setRow ?_ (by first | omega | (simp; done) | (simp <;> omega))) | (with_reducible refine Gx.setCell ?_ (by first | omega | (simp; done) | (simp <;> omega)))))); rintro e w' ⟨rfl, x2, rfl⟩))
        go_ret
        exact ⟨by rw [HR.out]; rfl, (by repeat (first | (with_reducible exact Gx.refl _) | (with_reducible assumption) | (with_reducible refine Gx.gx ?_) | (with_reducible refine Gx.alloc ?_) | (with_reducible refine Gx.drew ?_) | (with_reducible refine Gx.drewN ?_) | (with_reducible refine Gx.setRow ?_ (by first | omega | (simp; done) | (simp <;> omega))) | (with_reducible refine Gx.setCell ?_ (by first | omega | (simp; done) | (simp <;> omega)))))⟩
      · have HR := Lib.hid hR
        have k1 : decide (0 < (k : Int)) = false := decide_eq_false (by omega)
        have k0 : decide (0 < k) = false := decide_eq_false (by omega)
        have k2 : decide (n < 0) = false := decide_eq_false (by omega)
        clear hR h1 h2
        go_wp2_with (first | go_skip | (go_at_call 77; with_reducible refine (HI1.out _ ?_).mono ?_; (focus exact (by repeat (first | (with_reducible exact Gx.refl _) | (with_reducible assumption) | (with_reducible refine Gx.gx ?_) | (with_reducible refine Gx.alloc ?_) | (with_reducible refine Gx.drew ?_) | (with_reducible refine Gx.drewN ?_) | (with_reducible refine Gx.setRow ?_ (by first | omega | (simp; done) | (simp <;> omega))) | (with_reducible refine Gx.setCell ?_ (by first | omega | (simp; done) | (simp <;> omega)))))); rintro e w' ⟨rfl, x1, rfl⟩) | (go_at_call 77; with_reducible refine (HI2.out _ ?_).mono ?_; (focus exact (by repeat (first | (with_reducible exact Gx.refl _) | (with_reducible assumption) | (with_reducible refine Gx.gx ?_) | (with_reducible refine Gx.alloc ?_) | (with_reducible refine Gx.drew ?_) | (with_reducible refine Gx.drewN ?_) | (with_reducible refine Gx.setRow ?_ (by first | omega | (simp; done) | (simp <;> omega))) | (with_reducible refine Gx.setCell ?_ (by first | omega | (simp; done) | (simp <;> omega)))))); rintro e w' ⟨rfl, x2, rfl⟩))
        go_ret
        exact ⟨by rw [HR.out]; rfl, (by repeat (first | (with_reducible exact Gx.refl _) | (with_reducible assumption) | (with_reducible refine Gx.gx ?_) | (with_reducible refine Gx.alloc ?_) | (with_reducible refine Gx.drew ?_) | (with_reducible refine Gx.drewN ?_) | (with_reducible refine Gx.setRow ?_ (by first | omega | (simp; done) | (simp <;> omega))) | (with_reducible refine Gx.setCell ?_ (by first | omega | (simp; done) | (simp <;> omega)))))⟩
      · have HR := Lib.hid hR
        have k1 : decide (0 < (k : Int)) = false := decide_eq_false (by omega)
        have k0 : decide (0 < k) = false := decide_eq_false (by omega)
        have k2 : decide (n < 0) = true := decide_eq_true (by omega)
        have k3 : decide (0 < W) = false := decide_eq_false (by omega)
        have k4 : decide (0 < P) = false := decide_eq_false (by omega)
        clear hR h1 h2 h3 h4
        go_wp2_with (first | go_skip | (go_at_call 77; with_reducible refine (HI1.out _ ?_).mono ?_; (focus exact (by repeat (first | (with_reducible exact Gx.refl _) | (with_reducible assumption) | (with_reducible refine Gx.gx ?_) | (with_reducible refine Gx.alloc ?_) | (with_reducible refine Gx.drew ?_) | (with_reducible refine Gx.drewN ?_) | (with_reducible refine Gx.setRow ?_ (by first | omega | (simp; done) | (simp <;> omega))) | (with_reducible refine Gx.setCell ?_ (by first | omega | (simp; done) | (simp <;> omega)))))); rintro e w' ⟨rfl, x1, rfl⟩) | (go_at_call 77; with_reducible refine (HI2.out _ ?_).mono ?_; (focus exact (by repeat (first | (with_reducible exact Gx.refl _) | (with_reducible assumption) | (with_reducible refine Gx.gx ?_) | (with_reducible refine Gx.alloc ?_) | (with_reducible refine Gx.drew ?_) | (with_reducible refine Gx.drewN ?_) | (with_reducible refine Gx.setRow ?_ (by first | omega | (simp; done) | (simp <;> omega))) | (with_reducible refine Gx.setCell ?_ (by first | omega | (simp; done) | (simp <;> omega)))))); rintro e w' ⟨rfl, x2, rfl⟩))
        go_ret
        exact ⟨by rw [HR.out]; rfl, (by repeat (first | (with_reducible exact Gx.refl _) | (with_reducible assumption) | (with_reducible refine Gx.gx ?_) | (with_reducible refine Gx.alloc ?_) | (with_reducible refine Gx.drew ?_) | (with_reducible refine Gx.drewN ?_) | (with_reducible refine Gx.setRow ?_ (by first | omega | (simp; done) | (simp <;> omega))) | (with_reducible refine Gx.setCell ?_ (by first | omega | (simp; done) | (simp <;> omega)))))⟩
      · have HR := Lib.hid hR
        have k1 : decide (0 < (k : Int)) = true := decide_eq_true (by omega)
        have k0 : decide (0 < k) = true := decide_eq_true (by omega)
        have k2 : decide (n < 0) = true := decide_eq_true (by omega)
        have k3 : decide (0 < W) = true := decide_eq_true (by omega)
        clear hR h1 h2 h3
        go_wp2_with (first | go_skip | (go_at_call 77; with_reducible refine (HI1.out _ ?_).mono ?_; (focus exact (by repeat (first | (with_reducible exact Gx.refl _) | (with_reducible assumption) | (with_reducible refine Gx.gx ?_) | (with_reducible refine Gx.alloc ?_) | (with_reducible refine Gx.drew ?_) | (with_reducible refine Gx.drewN ?_) | (with_reducible refine Gx.setRow ?_ (by first | omega | (simp; done) | (simp <;> omega))) | (with_reducible refine Gx.setCell ?_ (by first | omega | (simp; done) | (simp <;> omega)))))); rintro e w' ⟨rfl, x1, rfl⟩) | (go_at_call 77; with_reducible refine (HI2.out _ ?_).mono ?_; (focus exact (by repeat (first | (with_reducible exact Gx.refl _) | (with_reducible assumption) | (with_reducible refine Gx.gx ?_) | (with_reducible refine Gx.alloc ?_) | (with_reducible refine Gx.drew ?_) | (with_reducible refine Gx.drewN ?_) | (with_reducible refine Gx.setRow ?_ (by first | omega | (simp; done) | (simp <;> omega))) | (with_reducible refine Gx.setCell ?_ (by first | omega | (simp; done) | (simp <;> omega)))))); rintro e w' ⟨rfl, x2, rfl⟩))
        go_ret
        exact ⟨by rw [HR.out]; rfl, (by repeat (first | (with_reducible exact Gx.refl _) | (with_reducible assumption) | (with_reducible refine Gx.gx ?_) | (with_reducible refine Gx.alloc ?_) | (with_reducible refine Gx.drew ?_) | (with_reducible refine Gx.drewN ?_) | (with_reducible refine Gx.setRow ?_ (by first | omega | (simp; done) | (simp <;> omega))) | (with_reducible refine Gx.setCell ?_ (by first | omega | (simp; done) | (simp <;> omega)))))⟩
      · have HR := Lib.hid hR
        have k1 : decide (0 < (k : Int)) = true := decide_eq_true (by omega)
        have k0 : decide (0 < k) = true := decide_eq_true (by omega)
        have k2 : decide (n < 0) = true := decide_eq_true (by omega)
        have k3 : decide (0 < W) = false := decide_eq_false (by omega)
        have k4 : decide (0 < P) = true := decide_eq_true (by omega)
        clear hR h1 h2 h3 h4
        go_wp2_with (first | go_skip | (go_at_call 77; with_reducible refine (HI1.out _ ?_).mono ?_; (focus exact (by repeat (first | (with_reducible exact Gx.refl _) | (with_reducible assumption) | (with_reducible refine Gx.gx ?_) | (with_reducible refine Gx.alloc ?_) | (with_reducible refine Gx.drew ?_) | (with_reducible refine Gx.drewN ?_) | (with_reducible refine Gx.setRow ?_ (by first | omega | (simp; done) | (simp <;> omega))) | (with_reducible refine Gx.setCell ?_ (by first | omega | (simp; done) | (simp <;> omega)))))); rintro e w' ⟨rfl, x1, rfl⟩) | (go_at_call 77; with_reducible refine (HI2.out _ ?_).mono ?_; (focus exact (by repeat (first | (with_reducible exact Gx.refl _) | (with_reducible assumption) | (with_reducible refine Gx.gx ?_) | (with_reducible refine Gx.alloc ?_) | (with_reducible refine Gx.drew ?_) | (with_reducible refine Gx.drewN ?_) | (with_reducible refine Gx.setRow ?_ (by first | omega | (simp; done) | (simp <;> omega))) | (with_reducible refine Gx.setCell ?_ (by first | omega | (simp; done) | (simp <;> omega)))))); rintro e w' ⟨rfl, x2, rfl⟩))
        go_ret
        exact ⟨by rw [HR.out]; rfl, (by repeat (first | (with_reducible exact Gx.refl _) | (with_reducible assumption) | (with_reducible refine Gx.gx ?_) | (with_reducible refine Gx.alloc ?_) | (with_reducible refine Gx.drew ?_) | (with_reducible refine Gx.drewN ?_) | (with_reducible refine Gx.setRow ?_ (by first | omega | (simp; done) | (simp <;> omega))) | (with_reducible refine Gx.setCell ?_ (by first | omega | (simp; done) | (simp <;> omega)))))⟩
      · have HR := Lib.hid hR
        have k1 : decide (0 < (k : Int)) = true := decide_eq_true (by omega)
        have k0 : decide (0 < k) = true := decide_eq_true (by omega)
        have k2 : decide (n < 0) = false := decide_eq_false (by omega)
        clear hR h1 h2
        go_wp2_with (first | go_skip | (go_at_call 77; with_reducible refine (HI1.out _ ?_).mono ?_; (focus exact (by repeat (first | (with_reducible exact Gx.refl _) | (with_reducible assumption) | (with_reducible refine Gx.gx ?_) | (with_reducible refine Gx.alloc ?_) | (with_reducible refine Gx.drew ?_) | (with_reducible refine Gx.drewN ?_) | (with_reducible refine Gx.setRow ?_ (by first | omega | (simp; done) | (simp <;> omega))) | (with_reducible refine Gx.setCell ?_ (by first | omega | (simp; done) | (simp <;> omega)))))); rintro e w' ⟨rfl, x1, rfl⟩) | (go_at_call 77; with_reducible refine (HI2.out _ ?_).mono ?_; (focus exact (by repeat (first | (with_reducible exact Gx.refl _) | (with_reducible assumption) | (with_reducible refine Gx.gx ?_) | (with_reducible refine Gx.alloc ?_) | (with_reducible refine Gx.drew ?_) | (with_reducible refine Gx.drewN ?_) | (with_reducible refine Gx.setRow ?_ (by first | omega | (simp; done) | (simp <;> omega))) | (with_reducible refine Gx.setCell ?_ (by first | omega | (simp; done) | (simp <;> omega)))))); rintro e w' ⟨rfl, x2, rfl⟩))
        go_ret
        exact ⟨by rw [HR.out]; rfl, (by repeat (first | (with_reducible exact Gx.refl _) | (with_reducible assumption) | (with_reducible refine Gx.gx ?_) | (with_reducible refine Gx.alloc ?_) | (with_reducible refine Gx.drew ?_) | (with_reducible refine Gx.drewN ?_) | (with_reducible refine Gx.setRow ?_ (by first | omega | (simp; done) | (simp <;> omega))) | (with_reducible refine Gx.setCell ?_ (by first | omega | (simp; done) | (simp <;> omega)))))⟩
      · have HR := Lib.hid hR
        have k1 : decide (0 < (k : Int)) = true := decide_eq_true (by omega)
        have k0 : decide (0 < k) = true := decide_eq_true (by omega)
        have k2 : decide (n < 0) = true := decide_eq_true (by omega)
        have k3 : decide (0 < W) = false := decide_eq_false (by omega)
        have k4 : decide (0 < P) = false := decide_eq_false (by omega)
        clear hR h1 h2 h3 h4
        go_wp2_with (first | go_skip | (go_at_call 77; with_reducible refine (HI1.out _ ?_).mono ?_; (focus exact (by repeat (first | (with_reducible exact Gx.refl _) | (with_reducible assumption) | (with_reducible refine Gx.gx ?_) | (with_reducible refine Gx.alloc ?_) | (with_reducible refine Gx.drew ?_) | (with_reducible refine Gx.drewN ?_) | (with_reducible refine Gx.setRow ?_ (by first | omega | (simp; done) | (simp <;> omega))) | (with_reducible refine Gx.setCell ?_ (by first | omega | (simp; done) | (simp <;> omega)))))); rintro e w' ⟨rfl, x1, rfl⟩) | (go_at_call 77; with_reducible refine (HI2.out _ ?_).mono ?_; (focus exact (by repeat (first | (with_reducible exact Gx.refl _) | (with_reducible assumption) | (with_reducible refine Gx.gx ?_) | (with_reducible refine Gx.alloc ?_) | (with_reducible refine Gx.drew ?_) | (with_reducible refine Gx.drewN ?_) | (with_reducible refine Gx.setRow ?_ (by first | omega | (simp; done) | (simp <;> omega))) | (with_reducible refine Gx.setCell ?_ (by first | omega | (simp; done) | (simp <;> omega)))))); rintro e w' ⟨rfl, x2, rfl⟩))
        go_ret
        exact ⟨by rw [HR.out]; rfl, (by repeat (first | (with_reducible exact Gx.refl _) | (with_reducible assumption) | (with_reducible refine Gx.gx ?_) | (with_reducible refine Gx.alloc ?_) | (with_reducible refine Gx.drew ?_) | (with_reducible refine Gx.drewN ?_) | (with_reducible refine Gx.setRow ?_ (by first | omega | (simp; done) | (simp <;> omega))) | (with_reducible refine Gx.setCell ?_ (by first | omega | (simp; done) | (simp <;> omega)))))⟩
theorem empty_app (s : ByteArray) : (⟨#[]⟩ : ByteArray) ++ s = s := by
  apply ByteArray.ext
  rw [ByteArray.data_append]
  simp
set_option maxHeartbeats 4000000 in
set_option maxRecDepth 100000 in
theorem rdigits_core (n den : Int) (pl : Nat) (hpl : pl ≤ 6) (U sz r u2 b c d q0 w0 W P V : Int) (I1 I2 R : ByteArray) (w : World)
    (HT0 : Hid (tenN 0 = 1)) (HTp : Hid (tenN pl = U)) (hU : 1 ≤ U ∧ U ≤ 1000000) (hsz : (0 ≤ n ∧ sz = n) ∨ (n < 0 ∧ IntKind.i64.wrap (-n) = sz)) (_z1 : (den == 0) = false) (z2 : ¬ den = 0) (e3 : sz.tmod den = r) (_e4 : IntKind.i64.wrap r = r)
    (e5 : IntKind.i64.wrap (2 * U) = u2) (e6 : IntKind.i64.wrap (u2 * r) = b) (e7 : IntKind.i64.wrap (b + den) = c) (e8 : IntKind.i64.wrap (2 * den) = d) (_z3 : (d == 0) = false) (z4 : ¬ d = 0) (e9 : c.tdiv d = q0) (e10 : IntKind.i64.wrap q0 = q0)
    (e11 : sz.tdiv den = w0) (e12 : IntKind.i64.wrap w0 = w0) (hq : (q0 = U ∧ IntKind.i64.wrap (w0 + 1) = W ∧ P = 0 ∧ 0 < W) ∨ (q0 ≠ U ∧ W = w0 ∧ P = q0)) (hW : 0 ≤ W) (hP : 0 ≤ P) (e18 : IntKind.i64.wrap (U + P) = V)
    (HI1 : Hid (∀ W', (∃ x, W' = gx w x) → Calls Tryz.prog 77 #[.int .i64 W] W' fun e w' => e = .returned (.string I1) ∧ ∃ x, w' = gx W' x))
    (HI2 : Hid (∀ W', (∃ x, W' = gx w x) → Calls Tryz.prog 77 #[.int .i64 V] W' fun e w' => e = .returned (.string I2) ∧ ∃ x, w' = gx W' x))
    (hs2 : 1 ≤ I2.size) (hs3 : I1.size ≤ 100) (hs4 : I2.size ≤ 100) (hR : (pl = 0 ∧ n < 0 ∧ (0 < W ∨ (W ≤ 0 ∧ 0 < P)) ∧ R = ⟨#[45]⟩ ++ I1) ∨ (pl = 0 ∧ (0 ≤ n ∨ (n < 0 ∧ W ≤ 0 ∧ P ≤ 0)) ∧ R = I1) ∨ (0 < pl ∧ n < 0 ∧ (0 < W ∨ (W ≤ 0 ∧ 0 < P)) ∧ R = ⟨#[45]⟩ ++ (I1 ++ (⟨#[46]⟩ ++ I2.extract 1 I2.size))) ∨ (0 < pl ∧ (0 ≤ n ∨ (n < 0 ∧ W ≤ 0 ∧ P ≤ 0)) ∧ R = I1 ++ (⟨#[46]⟩ ++ I2.extract 1 I2.size))) :
    Calls Tryz.prog 53 #[.int .i64 n, .int .i64 den, .int .i64 pl] w fun e w' => e = .returned (.string R) ∧ ∃ x, w' = gx w x := by
  have y2 : (1 : Int) ≤ (I2.size : Int) := by omega
  have m0 : ¬ 9223372036854775807 < I2.size := by omega
  have m1 : ¬ 9223372036854775807 < I1.size + I2.size := by omega
  have m2 : ¬ 9223372036854775807 < I1.size := by omega
  have m3 : ¬ 9223372036854775807 < I1.size + 1 := by omega
  have m4 : ¬ 9223372036854775807 < 1 + I1.size := by omega
  have m5 : ¬ 9223372036854775807 < I1.size + I2.size + 1 := by omega
  have m6 : ¬ 9223372036854775807 < 1 + (I1.size + I2.size) := by omega
  have m7 : ¬ 9223372036854775807 < 1 + I2.size := by omega
  rcases hsz with ⟨g1, rfl⟩ | ⟨g1, g2⟩
  · have k2 : decide (sz < 0) = false := decide_eq_false (by omega)
    go_enter Tryz.func53, Tryz.ntmps53
    go_wp2
    go_loop [9, 19] (fun u i => ∃ k : Nat, k ≤ pl ∧ i = .int .i64 k ∧ u = .int .i64 (tenN k)) (fun u i => pl - (intOf i).toNat)
    case atStart => exact ⟨0, Nat.zero_le _, rfl, by rw [HT0.out]⟩
    case round =>
      obtain ⟨k, hk, rfl, rfl⟩ := hrel
      by_cases hlt : k < pl
      · have hlt' : (k : Int) < (pl : Int) := by omega
        have hd : decide ((k : Int) < (pl : Int)) = true := decide_eq_true hlt'
        have hm : IntKind.i64.wrap (tenN k * 10) = tenN (k + 1) := by
          have := tenN_b (k + 1) (by omega)
          rw [tenN_s, IntWalk.i64_in _ (by omega)]
        have HM := Lib.hid hk
        generalize tenN k = t at *
        obtain ⟨t2, ht2⟩ : ∃ t2, tenN (k + 1) = t2 := ⟨_, rfl⟩
        rw [ht2] at hm
        have Ht2 := Lib.hid ht2
        clear ht2
        go_wp2
        go_round
        case rel => exact ⟨k + 1, by omega, by go_num, by rw [Ht2.out]⟩
        case measure => simp [intOf]; omega
      · obtain rfl : k = pl := by omega
        have hd : decide ((k : Int) < (k : Int)) = false := decide_eq_false (by omega)
        rw [HTp.out]
        clear HTp HT0 hlt hk
        go_wp2
        go_quiet (fail)
        rcases hq with ⟨q1, q2, rfl, q4⟩ | ⟨q1, rfl, rfl⟩
        · have kq : (q0 == U) = true := by rw [beq_iff_eq]; exact q1
          have e19 : IntKind.i64.wrap U = V := by have h := e18; rwa [Int.add_zero] at h
          have e20 : wrap64 U = V := by rw [IntWalk.i64_in _ (by omega)] at e19; unfold wrap64; omega
          clear e18
          have hc : (W ≠ 0 ∧ k = 0) ∨ (W ≠ 0 ∧ 0 < k) := by omega
          rcases hc with ⟨h1, h2⟩ | ⟨h1, h2⟩
          · have HR : Hid (R = I1) := Lib.hid (by rcases hR with ⟨a1, a2, a3, a4⟩ | ⟨a1, a2, a4⟩ | ⟨a1, a2, a3, a4⟩ | ⟨a1, a2, a4⟩ <;> first | exact a4 | (exfalso; omega))
            have k1 : decide (0 < (k : Int)) = false := decide_eq_false (by omega)
            have k0 : decide (0 < k) = false := decide_eq_false (by omega)
            have k3 : (W == 0) = false := by rw [beq_eq_false_iff_ne]; omega
            clear hR h1 h2 hpl hW hP q1 q4
            go_wp2_with (first | go_skip | (go_at_call 77; with_reducible refine (HI1.out _ ?_).mono ?_; (focus exact (by repeat (first | (with_reducible exact Gx.refl _) | (with_reducible assumption) | (with_reducible refine Gx.gx ?_) | (with_reducible refine Gx.alloc ?_) | (with_reducible refine Gx.drew ?_) | (with_reducible refine Gx.drewN ?_) | (with_reducible refine Gx.setRow ?_ (by first | omega | (simp; done) | (simp <;> omega))) | (with_reducible refine Gx.setCell ?_ (by first | omega | (simp; done) | (simp <;> omega)))))); rintro e w' ⟨rfl, x1, rfl⟩) | (go_at_call 77; with_reducible refine (HI2.out _ ?_).mono ?_; (focus exact (by repeat (first | (with_reducible exact Gx.refl _) | (with_reducible assumption) | (with_reducible refine Gx.gx ?_) | (with_reducible refine Gx.alloc ?_) | (with_reducible refine Gx.drew ?_) | (with_reducible refine Gx.drewN ?_) | (with_reducible refine Gx.setRow ?_ (by first | omega | (simp; done) | (simp <;> omega))) | (with_reducible refine Gx.setCell ?_ (by first | omega | (simp; done) | (simp <;> omega)))))); rintro e w' ⟨rfl, x2, rfl⟩))
            go_ret
            exact ⟨by rw [HR.out]; first | rfl | (rw [← empty_app (I1)]; rfl), (by repeat (first | (with_reducible exact Gx.refl _) | (with_reducible assumption) | (with_reducible refine Gx.gx ?_) | (with_reducible refine Gx.alloc ?_) | (with_reducible refine Gx.drew ?_) | (with_reducible refine Gx.drewN ?_) | (with_reducible refine Gx.setRow ?_ (by first | omega | (simp; done) | (simp <;> omega))) | (with_reducible refine Gx.setCell ?_ (by first | omega | (simp; done) | (simp <;> omega)))))⟩
          · have HR : Hid (R = I1 ++ (⟨#[46]⟩ ++ I2.extract 1 I2.size)) := Lib.hid (by rcases hR with ⟨a1, a2, a3, a4⟩ | ⟨a1, a2, a4⟩ | ⟨a1, a2, a3, a4⟩ | ⟨a1, a2, a4⟩ <;> first | exact a4 | (exfalso; omega))
            have k1 : decide (0 < (k : Int)) = true := decide_eq_true (by omega)
            have k0 : decide (0 < k) = true := decide_eq_true (by omega)
            have k3 : (W == 0) = false := by rw [beq_eq_false_iff_ne]; omega
            clear hR h1 h2 hpl hW hP q1 q4
            go_wp2_with (first | go_skip | (go_at_call 77; with_reducible refine (HI1.out _ ?_).mono ?_; (focus exact (by repeat (first | (with_reducible exact Gx.refl _) | (with_reducible assumption) | (with_reducible refine Gx.gx ?_) | (with_reducible refine Gx.alloc ?_) | (with_reducible refine Gx.drew ?_) | (with_reducible refine Gx.drewN ?_) | (with_reducible refine Gx.setRow ?_ (by first | omega | (simp; done) | (simp <;> omega))) | (with_reducible refine Gx.setCell ?_ (by first | omega | (simp; done) | (simp <;> omega)))))); rintro e w' ⟨rfl, x1, rfl⟩) | (go_at_call 77; with_reducible refine (HI2.out _ ?_).mono ?_; (focus exact (by repeat (first | (with_reducible exact Gx.refl _) | (with_reducible assumption) | (with_reducible refine Gx.gx ?_) | (with_reducible refine Gx.alloc ?_) | (with_reducible refine Gx.drew ?_) | (with_reducible refine Gx.drewN ?_) | (with_reducible refine Gx.setRow ?_ (by first | omega | (simp; done) | (simp <;> omega))) | (with_reducible refine Gx.setCell ?_ (by first | omega | (simp; done) | (simp <;> omega)))))); rintro e w' ⟨rfl, x2, rfl⟩))
            go_ret
            exact ⟨by rw [HR.out]; first | rfl | (rw [← empty_app (I1 ++ (⟨#[46]⟩ ++ I2.extract 1 I2.size))]; rfl), (by repeat (first | (with_reducible exact Gx.refl _) | (with_reducible assumption) | (with_reducible refine Gx.gx ?_) | (with_reducible refine Gx.alloc ?_) | (with_reducible refine Gx.drew ?_) | (with_reducible refine Gx.drewN ?_) | (with_reducible refine Gx.setRow ?_ (by first | omega | (simp; done) | (simp <;> omega))) | (with_reducible refine Gx.setCell ?_ (by first | omega | (simp; done) | (simp <;> omega)))))⟩
        · have kq : (P == U) = false := by rw [beq_eq_false_iff_ne]; exact q1
          have hc : (W ≠ 0 ∧ k = 0) ∨ (W ≠ 0 ∧ 0 < k) ∨ (W = 0 ∧ P ≠ 0 ∧ k = 0) ∨ (W = 0 ∧ P ≠ 0 ∧ 0 < k) ∨ (W = 0 ∧ P = 0 ∧ k = 0) ∨ (W = 0 ∧ P = 0 ∧ 0 < k) := by omega
          rcases hc with ⟨h1, h2⟩ | ⟨h1, h2⟩ | ⟨h1, h3, h2⟩ | ⟨h1, h3, h2⟩ | ⟨h1, h3, h2⟩ | ⟨h1, h3, h2⟩
          · have HR : Hid (R = I1) := Lib.hid (by rcases hR with ⟨a1, a2, a3, a4⟩ | ⟨a1, a2, a4⟩ | ⟨a1, a2, a3, a4⟩ | ⟨a1, a2, a4⟩ <;> first | exact a4 | (exfalso; omega))
            have k1 : decide (0 < (k : Int)) = false := decide_eq_false (by omega)
            have k0 : decide (0 < k) = false := decide_eq_false (by omega)
            have k3 : (W == 0) = false := by rw [beq_eq_false_iff_ne]; omega
            clear hR h1 h2 hpl hW hP q1
            go_wp2_with (first | go_skip | (go_at_call 77; with_reducible refine (HI1.out _ ?_).mono ?_; (focus exact (by repeat (first | (with_reducible exact Gx.refl _) | (with_reducible assumption) | (with_reducible refine Gx.gx ?_) | (with_reducible refine Gx.alloc ?_) | (with_reducible refine Gx.drew ?_) | (with_reducible refine Gx.drewN ?_) | (with_reducible refine Gx.setRow ?_ (by first | omega | (simp; done) | (simp <;> omega))) | (with_reducible refine Gx.setCell ?_ (by first | omega | (simp; done) | (simp <;> omega)))))); rintro e w' ⟨rfl, x1, rfl⟩) | (go_at_call 77; with_reducible refine (HI2.out _ ?_).mono ?_; (focus exact (by repeat (first | (with_reducible exact Gx.refl _) | (with_reducible assumption) | (with_reducible refine Gx.gx ?_) | (with_reducible refine Gx.alloc ?_) | (with_reducible refine Gx.drew ?_) | (with_reducible refine Gx.drewN ?_) | (with_reducible refine Gx.setRow ?_ (by first | omega | (simp; done) | (simp <;> omega))) | (with_reducible refine Gx.setCell ?_ (by first | omega | (simp; done) | (simp <;> omega)))))); rintro e w' ⟨rfl, x2, rfl⟩))
            go_ret
            exact ⟨by rw [HR.out]; first | rfl | (rw [← empty_app (I1)]; rfl), (by repeat (first | (with_reducible exact Gx.refl _) | (with_reducible assumption) | (with_reducible refine Gx.gx ?_) | (with_reducible refine Gx.alloc ?_) | (with_reducible refine Gx.drew ?_) | (with_reducible refine Gx.drewN ?_) | (with_reducible refine Gx.setRow ?_ (by first | omega | (simp; done) | (simp <;> omega))) | (with_reducible refine Gx.setCell ?_ (by first | omega | (simp; done) | (simp <;> omega)))))⟩
          · have HR : Hid (R = I1 ++ (⟨#[46]⟩ ++ I2.extract 1 I2.size)) := Lib.hid (by rcases hR with ⟨a1, a2, a3, a4⟩ | ⟨a1, a2, a4⟩ | ⟨a1, a2, a3, a4⟩ | ⟨a1, a2, a4⟩ <;> first | exact a4 | (exfalso; omega))
            have k1 : decide (0 < (k : Int)) = true := decide_eq_true (by omega)
            have k0 : decide (0 < k) = true := decide_eq_true (by omega)
            have k3 : (W == 0) = false := by rw [beq_eq_false_iff_ne]; omega
            clear hR h1 h2 hpl hW hP q1
            go_wp2_with (first | go_skip | (go_at_call 77; with_reducible refine (HI1.out _ ?_).mono ?_; (focus exact (by repeat (first | (with_reducible exact Gx.refl _) | (with_reducible assumption) | (with_reducible refine Gx.gx ?_) | (with_reducible refine Gx.alloc ?_) | (with_reducible refine Gx.drew ?_) | (with_reducible refine Gx.drewN ?_) | (with_reducible refine Gx.setRow ?_ (by first | omega | (simp; done) | (simp <;> omega))) | (with_reducible refine Gx.setCell ?_ (by first | omega | (simp; done) | (simp <;> omega)))))); rintro e w' ⟨rfl, x1, rfl⟩) | (go_at_call 77; with_reducible refine (HI2.out _ ?_).mono ?_; (focus exact (by repeat (first | (with_reducible exact Gx.refl _) | (with_reducible assumption) | (with_reducible refine Gx.gx ?_) | (with_reducible refine Gx.alloc ?_) | (with_reducible refine Gx.drew ?_) | (with_reducible refine Gx.drewN ?_) | (with_reducible refine Gx.setRow ?_ (by first | omega | (simp; done) | (simp <;> omega))) | (with_reducible refine Gx.setCell ?_ (by first | omega | (simp; done) | (simp <;> omega)))))); rintro e w' ⟨rfl, x2, rfl⟩))
            go_ret
            exact ⟨by rw [HR.out]; first | rfl | (rw [← empty_app (I1 ++ (⟨#[46]⟩ ++ I2.extract 1 I2.size))]; rfl), (by repeat (first | (with_reducible exact Gx.refl _) | (with_reducible assumption) | (with_reducible refine Gx.gx ?_) | (with_reducible refine Gx.alloc ?_) | (with_reducible refine Gx.drew ?_) | (with_reducible refine Gx.drewN ?_) | (with_reducible refine Gx.setRow ?_ (by first | omega | (simp; done) | (simp <;> omega))) | (with_reducible refine Gx.setCell ?_ (by first | omega | (simp; done) | (simp <;> omega)))))⟩
          · have HR : Hid (R = I1) := Lib.hid (by rcases hR with ⟨a1, a2, a3, a4⟩ | ⟨a1, a2, a4⟩ | ⟨a1, a2, a3, a4⟩ | ⟨a1, a2, a4⟩ <;> first | exact a4 | (exfalso; omega))
            have k1 : decide (0 < (k : Int)) = false := decide_eq_false (by omega)
            have k0 : decide (0 < k) = false := decide_eq_false (by omega)
            have k3 : (W == 0) = true := by rw [beq_iff_eq]; omega
            have k4 : (P == 0) = false := by rw [beq_eq_false_iff_ne]; omega
            clear hR h1 h2 hpl hW hP q1 h3
            go_wp2_with (first | go_skip | (go_at_call 77; with_reducible refine (HI1.out _ ?_).mono ?_; (focus exact (by repeat (first | (with_reducible exact Gx.refl _) | (with_reducible assumption) | (with_reducible refine Gx.gx ?_) | (with_reducible refine Gx.alloc ?_) | (with_reducible refine Gx.drew ?_) | (with_reducible refine Gx.drewN ?_) | (with_reducible refine Gx.setRow ?_ (by first | omega | (simp; done) | (simp <;> omega))) | (with_reducible refine Gx.setCell ?_ (by first | omega | (simp; done) | (simp <;> omega)))))); rintro e w' ⟨rfl, x1, rfl⟩) | (go_at_call 77; with_reducible refine (HI2.out _ ?_).mono ?_; (focus exact (by repeat (first | (with_reducible exact Gx.refl _) | (with_reducible assumption) | (with_reducible refine Gx.gx ?_) | (with_reducible refine Gx.alloc ?_) | (with_reducible refine Gx.drew ?_) | (with_reducible refine Gx.drewN ?_) | (with_reducible refine Gx.setRow ?_ (by first | omega | (simp; done) | (simp <;> omega))) | (with_reducible refine Gx.setCell ?_ (by first | omega | (simp; done) | (simp <;> omega)))))); rintro e w' ⟨rfl, x2, rfl⟩))
            go_ret
            exact ⟨by rw [HR.out]; first | rfl | (rw [← empty_app (I1)]; rfl), (by repeat (first | (with_reducible exact Gx.refl _) | (with_reducible assumption) | (with_reducible refine Gx.gx ?_) | (with_reducible refine Gx.alloc ?_) | (with_reducible refine Gx.drew ?_) | (with_reducible refine Gx.drewN ?_) | (with_reducible refine Gx.setRow ?_ (by first | omega | (simp; done) | (simp <;> omega))) | (with_reducible refine Gx.setCell ?_ (by first | omega | (simp; done) | (simp <;> omega)))))⟩
          · have HR : Hid (R = I1 ++ (⟨#[46]⟩ ++ I2.extract 1 I2.size)) := Lib.hid (by rcases hR with ⟨a1, a2, a3, a4⟩ | ⟨a1, a2, a4⟩ | ⟨a1, a2, a3, a4⟩ | ⟨a1, a2, a4⟩ <;> first | exact a4 | (exfalso; omega))
            have k1 : decide (0 < (k : Int)) = true := decide_eq_true (by omega)
            have k0 : decide (0 < k) = true := decide_eq_true (by omega)
            have k3 : (W == 0) = true := by rw [beq_iff_eq]; omega
            have k4 : (P == 0) = false := by rw [beq_eq_false_iff_ne]; omega
            clear hR h1 h2 hpl hW hP q1 h3
            go_wp2_with (first | go_skip | (go_at_call 77; with_reducible refine (HI1.out _ ?_).mono ?_; (focus exact (by repeat (first | (with_reducible exact Gx.refl _) | (with_reducible assumption) | (with_reducible refine Gx.gx ?_) | (with_reducible refine Gx.alloc ?_) | (with_reducible refine Gx.drew ?_) | (with_reducible refine Gx.drewN ?_) | (with_reducible refine Gx.setRow ?_ (by first | omega | (simp; done) | (simp <;> omega))) | (with_reducible refine Gx.setCell ?_ (by first | omega | (simp; done) | (simp <;> omega)))))); rintro e w' ⟨rfl, x1, rfl⟩) | (go_at_call 77; with_reducible refine (HI2.out _ ?_).mono ?_; (focus exact (by repeat (first | (with_reducible exact Gx.refl _) | (with_reducible assumption) | (with_reducible refine Gx.gx ?_) | (with_reducible refine Gx.alloc ?_) | (with_reducible refine Gx.drew ?_) | (with_reducible refine Gx.drewN ?_) | (with_reducible refine Gx.setRow ?_ (by first | omega | (simp; done) | (simp <;> omega))) | (with_reducible refine Gx.setCell ?_ (by first | omega | (simp; done) | (simp <;> omega)))))); rintro e w' ⟨rfl, x2, rfl⟩))
            go_ret
            exact ⟨by rw [HR.out]; first | rfl | (rw [← empty_app (I1 ++ (⟨#[46]⟩ ++ I2.extract 1 I2.size))]; rfl), (by repeat (first | (with_reducible exact Gx.refl _) | (with_reducible assumption) | (with_reducible refine Gx.gx ?_) | (with_reducible refine Gx.alloc ?_) | (with_reducible refine Gx.drew ?_) | (with_reducible refine Gx.drewN ?_) | (with_reducible refine Gx.setRow ?_ (by first | omega | (simp; done) | (simp <;> omega))) | (with_reducible refine Gx.setCell ?_ (by first | omega | (simp; done) | (simp <;> omega)))))⟩
          · have HR : Hid (R = I1) := Lib.hid (by rcases hR with ⟨a1, a2, a3, a4⟩ | ⟨a1, a2, a4⟩ | ⟨a1, a2, a3, a4⟩ | ⟨a1, a2, a4⟩ <;> first | exact a4 | (exfalso; omega))
            have k1 : decide (0 < (k : Int)) = false := decide_eq_false (by omega)
            have k0 : decide (0 < k) = false := decide_eq_false (by omega)
            have k3 : (W == 0) = true := by rw [beq_iff_eq]; omega
            have k4 : (P == 0) = true := by rw [beq_iff_eq]; omega
            clear hR h1 h2 hpl hW hP q1 h3
            go_wp2_with (first | go_skip | (go_at_call 77; with_reducible refine (HI1.out _ ?_).mono ?_; (focus exact (by repeat (first | (with_reducible exact Gx.refl _) | (with_reducible assumption) | (with_reducible refine Gx.gx ?_) | (with_reducible refine Gx.alloc ?_) | (with_reducible refine Gx.drew ?_) | (with_reducible refine Gx.drewN ?_) | (with_reducible refine Gx.setRow ?_ (by first | omega | (simp; done) | (simp <;> omega))) | (with_reducible refine Gx.setCell ?_ (by first | omega | (simp; done) | (simp <;> omega)))))); rintro e w' ⟨rfl, x1, rfl⟩) | (go_at_call 77; with_reducible refine (HI2.out _ ?_).mono ?_; (focus exact (by repeat (first | (with_reducible exact Gx.refl _) | (with_reducible assumption) | (with_reducible refine Gx.gx ?_) | (with_reducible refine Gx.alloc ?_) | (with_reducible refine Gx.drew ?_) | (with_reducible refine Gx.drewN ?_) | (with_reducible refine Gx.setRow ?_ (by first | omega | (simp; done) | (simp <;> omega))) | (with_reducible refine Gx.setCell ?_ (by first | omega | (simp; done) | (simp <;> omega)))))); rintro e w' ⟨rfl, x2, rfl⟩))
            go_ret
            exact ⟨by rw [HR.out]; first | rfl | (rw [← empty_app (I1)]; rfl), (by repeat (first | (with_reducible exact Gx.refl _) | (with_reducible assumption) | (with_reducible refine Gx.gx ?_) | (with_reducible refine Gx.alloc ?_) | (with_reducible refine Gx.drew ?_) | (with_reducible refine Gx.drewN ?_) | (with_reducible refine Gx.setRow ?_ (by first | omega | (simp; done) | (simp <;> omega))) | (with_reducible refine Gx.setCell ?_ (by first | omega | (simp; done) | (simp <;> omega)))))⟩
          · have HR : Hid (R = I1 ++ (⟨#[46]⟩ ++ I2.extract 1 I2.size)) := Lib.hid (by rcases hR with ⟨a1, a2, a3, a4⟩ | ⟨a1, a2, a4⟩ | ⟨a1, a2, a3, a4⟩ | ⟨a1, a2, a4⟩ <;> first | exact a4 | (exfalso; omega))
            have k1 : decide (0 < (k : Int)) = true := decide_eq_true (by omega)
            have k0 : decide (0 < k) = true := decide_eq_true (by omega)
            have k3 : (W == 0) = true := by rw [beq_iff_eq]; omega
            have k4 : (P == 0) = true := by rw [beq_iff_eq]; omega
            clear hR h1 h2 hpl hW hP q1 h3
            go_wp2_with (first | go_skip | (go_at_call 77; with_reducible refine (HI1.out _ ?_).mono ?_; (focus exact (by repeat (first | (with_reducible exact Gx.refl _) | (with_reducible assumption) | (with_reducible refine Gx.gx ?_) | (with_reducible refine Gx.alloc ?_) | (with_reducible refine Gx.drew ?_) | (with_reducible refine Gx.drewN ?_) | (with_reducible refine Gx.setRow ?_ (by first | omega | (simp; done) | (simp <;> omega))) | (with_reducible refine Gx.setCell ?_ (by first | omega | (simp; done) | (simp <;> omega)))))); rintro e w' ⟨rfl, x1, rfl⟩) | (go_at_call 77; with_reducible refine (HI2.out _ ?_).mono ?_; (focus exact (by repeat (first | (with_reducible exact Gx.refl _) | (with_reducible assumption) | (with_reducible refine Gx.gx ?_) | (with_reducible refine Gx.alloc ?_) | (with_reducible refine Gx.drew ?_) | (with_reducible refine Gx.drewN ?_) | (with_reducible refine Gx.setRow ?_ (by first | omega | (simp; done) | (simp <;> omega))) | (with_reducible refine Gx.setCell ?_ (by first | omega | (simp; done) | (simp <;> omega)))))); rintro e w' ⟨rfl, x2, rfl⟩))
            go_ret
            exact ⟨by rw [HR.out]; first | rfl | (rw [← empty_app (I1 ++ (⟨#[46]⟩ ++ I2.extract 1 I2.size))]; rfl), (by repeat (first | (with_reducible exact Gx.refl _) | (with_reducible assumption) | (with_reducible refine Gx.gx ?_) | (with_reducible refine Gx.alloc ?_) | (with_reducible refine Gx.drew ?_) | (with_reducible refine Gx.drewN ?_) | (with_reducible refine Gx.setRow ?_ (by first | omega | (simp; done) | (simp <;> omega))) | (with_reducible refine Gx.setCell ?_ (by first | omega | (simp; done) | (simp <;> omega)))))⟩
  · have k2 : decide (n < 0) = true := decide_eq_true (by omega)
    go_enter Tryz.func53, Tryz.ntmps53
    go_wp2
    go_loop [9, 19] (fun u i => ∃ k : Nat, k ≤ pl ∧ i = .int .i64 k ∧ u = .int .i64 (tenN k)) (fun u i => pl - (intOf i).toNat)
    case atStart => exact ⟨0, Nat.zero_le _, rfl, by rw [HT0.out]⟩
    case round =>
      obtain ⟨k, hk, rfl, rfl⟩ := hrel
      by_cases hlt : k < pl
      · have hlt' : (k : Int) < (pl : Int) := by omega
        have hd : decide ((k : Int) < (pl : Int)) = true := decide_eq_true hlt'
        have hm : IntKind.i64.wrap (tenN k * 10) = tenN (k + 1) := by
          have := tenN_b (k + 1) (by omega)
          rw [tenN_s, IntWalk.i64_in _ (by omega)]
        have HM := Lib.hid hk
        generalize tenN k = t at *
        obtain ⟨t2, ht2⟩ : ∃ t2, tenN (k + 1) = t2 := ⟨_, rfl⟩
        rw [ht2] at hm
        have Ht2 := Lib.hid ht2
        clear ht2
        go_wp2
        go_round
        case rel => exact ⟨k + 1, by omega, by go_num, by rw [Ht2.out]⟩
        case measure => simp [intOf]; omega
      · obtain rfl : k = pl := by omega
        have hd : decide ((k : Int) < (k : Int)) = false := decide_eq_false (by omega)
        rw [HTp.out]
        clear HTp HT0 hlt hk
        go_wp2
        go_quiet (fail)
        rcases hq with ⟨q1, q2, rfl, q4⟩ | ⟨q1, rfl, rfl⟩
        · have kq : (q0 == U) = true := by rw [beq_iff_eq]; exact q1
          have e19 : IntKind.i64.wrap U = V := by have h := e18; rwa [Int.add_zero] at h
          have e20 : wrap64 U = V := by rw [IntWalk.i64_in _ (by omega)] at e19; unfold wrap64; omega
          clear e18
          have hc : (W ≠ 0 ∧ k = 0) ∨ (W ≠ 0 ∧ 0 < k) := by omega
          rcases hc with ⟨h1, h2⟩ | ⟨h1, h2⟩
          · have HR : Hid (R = ⟨#[45]⟩ ++ I1) := Lib.hid (by rcases hR with ⟨a1, a2, a3, a4⟩ | ⟨a1, a2, a4⟩ | ⟨a1, a2, a3, a4⟩ | ⟨a1, a2, a4⟩ <;> first | exact a4 | (exfalso; omega))
            have k1 : decide (0 < (k : Int)) = false := decide_eq_false (by omega)
            have k0 : decide (0 < k) = false := decide_eq_false (by omega)
            have k3 : (W == 0) = false := by rw [beq_eq_false_iff_ne]; omega
            clear hR h1 h2 hpl hW hP q1 q4
            go_wp2_with (first | go_skip | (go_at_call 77; with_reducible refine (HI1.out _ ?_).mono ?_; (focus exact (by repeat (first | (with_reducible exact Gx.refl _) | (with_reducible assumption) | (with_reducible refine Gx.gx ?_) | (with_reducible refine Gx.alloc ?_) | (with_reducible refine Gx.drew ?_) | (with_reducible refine Gx.drewN ?_) | (with_reducible refine Gx.setRow ?_ (by first | omega | (simp; done) | (simp <;> omega))) | (with_reducible refine Gx.setCell ?_ (by first | omega | (simp; done) | (simp <;> omega)))))); rintro e w' ⟨rfl, x1, rfl⟩) | (go_at_call 77; with_reducible refine (HI2.out _ ?_).mono ?_; (focus exact (by repeat (first | (with_reducible exact Gx.refl _) | (with_reducible assumption) | (with_reducible refine Gx.gx ?_) | (with_reducible refine Gx.alloc ?_) | (with_reducible refine Gx.drew ?_) | (with_reducible refine Gx.drewN ?_) | (with_reducible refine Gx.setRow ?_ (by first | omega | (simp; done) | (simp <;> omega))) | (with_reducible refine Gx.setCell ?_ (by first | omega | (simp; done) | (simp <;> omega)))))); rintro e w' ⟨rfl, x2, rfl⟩))
            go_ret
            exact ⟨by rw [HR.out]; first | rfl | (rw [← empty_app (I1)]; rfl), (by repeat (first | (with_reducible exact Gx.refl _) | (with_reducible assumption) | (with_reducible refine Gx.gx ?_) | (with_reducible refine Gx.alloc ?_) | (with_reducible refine Gx.drew ?_) | (with_reducible refine Gx.drewN ?_) | (with_reducible refine Gx.setRow ?_ (by first | omega | (simp; done) | (simp <;> omega))) | (with_reducible refine Gx.setCell ?_ (by first | omega | (simp; done) | (simp <;> omega)))))⟩
          · have HR : Hid (R = ⟨#[45]⟩ ++ (I1 ++ (⟨#[46]⟩ ++ I2.extract 1 I2.size))) := Lib.hid (by rcases hR with ⟨a1, a2, a3, a4⟩ | ⟨a1, a2, a4⟩ | ⟨a1, a2, a3, a4⟩ | ⟨a1, a2, a4⟩ <;> first | exact a4 | (exfalso; omega))
            have k1 : decide (0 < (k : Int)) = true := decide_eq_true (by omega)
            have k0 : decide (0 < k) = true := decide_eq_true (by omega)
            have k3 : (W == 0) = false := by rw [beq_eq_false_iff_ne]; omega
            clear hR h1 h2 hpl hW hP q1 q4
            go_wp2_with (first | go_skip | (go_at_call 77; with_reducible refine (HI1.out _ ?_).mono ?_; (focus exact (by repeat (first | (with_reducible exact Gx.refl _) | (with_reducible assumption) | (with_reducible refine Gx.gx ?_) | (with_reducible refine Gx.alloc ?_) | (with_reducible refine Gx.drew ?_) | (with_reducible refine Gx.drewN ?_) | (with_reducible refine Gx.setRow ?_ (by first | omega | (simp; done) | (simp <;> omega))) | (with_reducible refine Gx.setCell ?_ (by first | omega | (simp; done) | (simp <;> omega)))))); rintro e w' ⟨rfl, x1, rfl⟩) | (go_at_call 77; with_reducible refine (HI2.out _ ?_).mono ?_; (focus exact (by repeat (first | (with_reducible exact Gx.refl _) | (with_reducible assumption) | (with_reducible refine Gx.gx ?_) | (with_reducible refine Gx.alloc ?_) | (with_reducible refine Gx.drew ?_) | (with_reducible refine Gx.drewN ?_) | (with_reducible refine Gx.setRow ?_ (by first | omega | (simp; done) | (simp <;> omega))) | (with_reducible refine Gx.setCell ?_ (by first | omega | (simp; done) | (simp <;> omega)))))); rintro e w' ⟨rfl, x2, rfl⟩))
            go_ret
            exact ⟨by rw [HR.out]; first | rfl | (rw [← empty_app (I1 ++ (⟨#[46]⟩ ++ I2.extract 1 I2.size))]; rfl), (by repeat (first | (with_reducible exact Gx.refl _) | (with_reducible assumption) | (with_reducible refine Gx.gx ?_) | (with_reducible refine Gx.alloc ?_) | (with_reducible refine Gx.drew ?_) | (with_reducible refine Gx.drewN ?_) | (with_reducible refine Gx.setRow ?_ (by first | omega | (simp; done) | (simp <;> omega))) | (with_reducible refine Gx.setCell ?_ (by first | omega | (simp; done) | (simp <;> omega)))))⟩
        · have kq : (P == U) = false := by rw [beq_eq_false_iff_ne]; exact q1
          have hc : (W ≠ 0 ∧ k = 0) ∨ (W ≠ 0 ∧ 0 < k) ∨ (W = 0 ∧ P ≠ 0 ∧ k = 0) ∨ (W = 0 ∧ P ≠ 0 ∧ 0 < k) ∨ (W = 0 ∧ P = 0 ∧ k = 0) ∨ (W = 0 ∧ P = 0 ∧ 0 < k) := by omega
          rcases hc with ⟨h1, h2⟩ | ⟨h1, h2⟩ | ⟨h1, h3, h2⟩ | ⟨h1, h3, h2⟩ | ⟨h1, h3, h2⟩ | ⟨h1, h3, h2⟩
          · have HR : Hid (R = ⟨#[45]⟩ ++ I1) := Lib.hid (by rcases hR with ⟨a1, a2, a3, a4⟩ | ⟨a1, a2, a4⟩ | ⟨a1, a2, a3, a4⟩ | ⟨a1, a2, a4⟩ <;> first | exact a4 | (exfalso; omega))
            have k1 : decide (0 < (k : Int)) = false := decide_eq_false (by omega)
            have k0 : decide (0 < k) = false := decide_eq_false (by omega)
            have k3 : (W == 0) = false := by rw [beq_eq_false_iff_ne]; omega
            clear hR h1 h2 hpl hW hP q1
            go_wp2_with (first | go_skip | (go_at_call 77; with_reducible refine (HI1.out _ ?_).mono ?_; (focus exact (by repeat (first | (with_reducible exact Gx.refl _) | (with_reducible assumption) | (with_reducible refine Gx.gx ?_) | (with_reducible refine Gx.alloc ?_) | (with_reducible refine Gx.drew ?_) | (with_reducible refine Gx.drewN ?_) | (with_reducible refine Gx.setRow ?_ (by first | omega | (simp; done) | (simp <;> omega))) | (with_reducible refine Gx.setCell ?_ (by first | omega | (simp; done) | (simp <;> omega)))))); rintro e w' ⟨rfl, x1, rfl⟩) | (go_at_call 77; with_reducible refine (HI2.out _ ?_).mono ?_; (focus exact (by repeat (first | (with_reducible exact Gx.refl _) | (with_reducible assumption) | (with_reducible refine Gx.gx ?_) | (with_reducible refine Gx.alloc ?_) | (with_reducible refine Gx.drew ?_) | (with_reducible refine Gx.drewN ?_) | (with_reducible refine Gx.setRow ?_ (by first | omega | (simp; done) | (simp <;> omega))) | (with_reducible refine Gx.setCell ?_ (by first | omega | (simp; done) | (simp <;> omega)))))); rintro e w' ⟨rfl, x2, rfl⟩))
            go_ret
            exact ⟨by rw [HR.out]; first | rfl | (rw [← empty_app (I1)]; rfl), (by repeat (first | (with_reducible exact Gx.refl _) | (with_reducible assumption) | (with_reducible refine Gx.gx ?_) | (with_reducible refine Gx.alloc ?_) | (with_reducible refine Gx.drew ?_) | (with_reducible refine Gx.drewN ?_) | (with_reducible refine Gx.setRow ?_ (by first | omega | (simp; done) | (simp <;> omega))) | (with_reducible refine Gx.setCell ?_ (by first | omega | (simp; done) | (simp <;> omega)))))⟩
          · have HR : Hid (R = ⟨#[45]⟩ ++ (I1 ++ (⟨#[46]⟩ ++ I2.extract 1 I2.size))) := Lib.hid (by rcases hR with ⟨a1, a2, a3, a4⟩ | ⟨a1, a2, a4⟩ | ⟨a1, a2, a3, a4⟩ | ⟨a1, a2, a4⟩ <;> first | exact a4 | (exfalso; omega))
            have k1 : decide (0 < (k : Int)) = true := decide_eq_true (by omega)
            have k0 : decide (0 < k) = true := decide_eq_true (by omega)
            have k3 : (W == 0) = false := by rw [beq_eq_false_iff_ne]; omega
            clear hR h1 h2 hpl hW hP q1
            go_wp2_with (first | go_skip | (go_at_call 77; with_reducible refine (HI1.out _ ?_).mono ?_; (focus exact (by repeat (first | (with_reducible exact Gx.refl _) | (with_reducible assumption) | (with_reducible refine Gx.gx ?_) | (with_reducible refine Gx.alloc ?_) | (with_reducible refine Gx.drew ?_) | (with_reducible refine Gx.drewN ?_) | (with_reducible refine Gx.setRow ?_ (by first | omega | (simp; done) | (simp <;> omega))) | (with_reducible refine Gx.setCell ?_ (by first | omega | (simp; done) | (simp <;> omega)))))); rintro e w' ⟨rfl, x1, rfl⟩) | (go_at_call 77; with_reducible refine (HI2.out _ ?_).mono ?_; (focus exact (by repeat (first | (with_reducible exact Gx.refl _) | (with_reducible assumption) | (with_reducible refine Gx.gx ?_) | (with_reducible refine Gx.alloc ?_) | (with_reducible refine Gx.drew ?_) | (with_reducible refine Gx.drewN ?_) | (with_reducible refine Gx.setRow ?_ (by first | omega | (simp; done) | (simp <;> omega))) | (with_reducible refine Gx.setCell ?_ (by first | omega | (simp; done) | (simp <;> omega)))))); rintro e w' ⟨rfl, x2, rfl⟩))
            go_ret
            exact ⟨by rw [HR.out]; first | rfl | (rw [← empty_app (I1 ++ (⟨#[46]⟩ ++ I2.extract 1 I2.size))]; rfl), (by repeat (first | (with_reducible exact Gx.refl _) | (with_reducible assumption) | (with_reducible refine Gx.gx ?_) | (with_reducible refine Gx.alloc ?_) | (with_reducible refine Gx.drew ?_) | (with_reducible refine Gx.drewN ?_) | (with_reducible refine Gx.setRow ?_ (by first | omega | (simp; done) | (simp <;> omega))) | (with_reducible refine Gx.setCell ?_ (by first | omega | (simp; done) | (simp <;> omega)))))⟩
          · have HR : Hid (R = ⟨#[45]⟩ ++ I1) := Lib.hid (by rcases hR with ⟨a1, a2, a3, a4⟩ | ⟨a1, a2, a4⟩ | ⟨a1, a2, a3, a4⟩ | ⟨a1, a2, a4⟩ <;> first | exact a4 | (exfalso; omega))
            have k1 : decide (0 < (k : Int)) = false := decide_eq_false (by omega)
            have k0 : decide (0 < k) = false := decide_eq_false (by omega)
            have k3 : (W == 0) = true := by rw [beq_iff_eq]; omega
            have k4 : (P == 0) = false := by rw [beq_eq_false_iff_ne]; omega
            clear hR h1 h2 hpl hW hP q1 h3
            go_wp2_with (first | go_skip | (go_at_call 77; with_reducible refine (HI1.out _ ?_).mono ?_; (focus exact (by repeat (first | (with_reducible exact Gx.refl _) | (with_reducible assumption) | (with_reducible refine Gx.gx ?_) | (with_reducible refine Gx.alloc ?_) | (with_reducible refine Gx.drew ?_) | (with_reducible refine Gx.drewN ?_) | (with_reducible refine Gx.setRow ?_ (by first | omega | (simp; done) | (simp <;> omega))) | (with_reducible refine Gx.setCell ?_ (by first | omega | (simp; done) | (simp <;> omega)))))); rintro e w' ⟨rfl, x1, rfl⟩) | (go_at_call 77; with_reducible refine (HI2.out _ ?_).mono ?_; (focus exact (by repeat (first | (with_reducible exact Gx.refl _) | (with_reducible assumption) | (with_reducible refine Gx.gx ?_) | (with_reducible refine Gx.alloc ?_) | (with_reducible refine Gx.drew ?_) | (with_reducible refine Gx.drewN ?_) | (with_reducible refine Gx.setRow ?_ (by first | omega | (simp; done) | (simp <;> omega))) | (with_reducible refine Gx.setCell ?_ (by first | omega | (simp; done) | (simp <;> omega)))))); rintro e w' ⟨rfl, x2, rfl⟩))
            go_ret
            exact ⟨by rw [HR.out]; first | rfl | (rw [← empty_app (I1)]; rfl), (by repeat (first | (with_reducible exact Gx.refl _) | (with_reducible assumption) | (with_reducible refine Gx.gx ?_) | (with_reducible refine Gx.alloc ?_) | (with_reducible refine Gx.drew ?_) | (with_reducible refine Gx.drewN ?_) | (with_reducible refine Gx.setRow ?_ (by first | omega | (simp; done) | (simp <;> omega))) | (with_reducible refine Gx.setCell ?_ (by first | omega | (simp; done) | (simp <;> omega)))))⟩
          · have HR : Hid (R = ⟨#[45]⟩ ++ (I1 ++ (⟨#[46]⟩ ++ I2.extract 1 I2.size))) := Lib.hid (by rcases hR with ⟨a1, a2, a3, a4⟩ | ⟨a1, a2, a4⟩ | ⟨a1, a2, a3, a4⟩ | ⟨a1, a2, a4⟩ <;> first | exact a4 | (exfalso; omega))
            have k1 : decide (0 < (k : Int)) = true := decide_eq_true (by omega)
            have k0 : decide (0 < k) = true := decide_eq_true (by omega)
            have k3 : (W == 0) = true := by rw [beq_iff_eq]; omega
            have k4 : (P == 0) = false := by rw [beq_eq_false_iff_ne]; omega
            clear hR h1 h2 hpl hW hP q1 h3
            go_wp2_with (first | go_skip | (go_at_call 77; with_reducible refine (HI1.out _ ?_).mono ?_; (focus exact (by repeat (first | (with_reducible exact Gx.refl _) | (with_reducible assumption) | (with_reducible refine Gx.gx ?_) | (with_reducible refine Gx.alloc ?_) | (with_reducible refine Gx.drew ?_) | (with_reducible refine Gx.drewN ?_) | (with_reducible refine Gx.setRow ?_ (by first | omega | (simp; done) | (simp <;> omega))) | (with_reducible refine Gx.setCell ?_ (by first | omega | (simp; done) | (simp <;> omega)))))); rintro e w' ⟨rfl, x1, rfl⟩) | (go_at_call 77; with_reducible refine (HI2.out _ ?_).mono ?_; (focus exact (by repeat (first | (with_reducible exact Gx.refl _) | (with_reducible assumption) | (with_reducible refine Gx.gx ?_) | (with_reducible refine Gx.alloc ?_) | (with_reducible refine Gx.drew ?_) | (with_reducible refine Gx.drewN ?_) | (with_reducible refine Gx.setRow ?_ (by first | omega | (simp; done) | (simp <;> omega))) | (with_reducible refine Gx.setCell ?_ (by first | omega | (simp; done) | (simp <;> omega)))))); rintro e w' ⟨rfl, x2, rfl⟩))
            go_ret
            exact ⟨by rw [HR.out]; first | rfl | (rw [← empty_app (I1 ++ (⟨#[46]⟩ ++ I2.extract 1 I2.size))]; rfl), (by repeat (first | (with_reducible exact Gx.refl _) | (with_reducible assumption) | (with_reducible refine Gx.gx ?_) | (with_reducible refine Gx.alloc ?_) | (with_reducible refine Gx.drew ?_) | (with_reducible refine Gx.drewN ?_) | (with_reducible refine Gx.setRow ?_ (by first | omega | (simp; done) | (simp <;> omega))) | (with_reducible refine Gx.setCell ?_ (by first | omega | (simp; done) | (simp <;> omega)))))⟩
          · have HR : Hid (R = I1) := Lib.hid (by rcases hR with ⟨a1, a2, a3, a4⟩ | ⟨a1, a2, a4⟩ | ⟨a1, a2, a3, a4⟩ | ⟨a1, a2, a4⟩ <;> first | exact a4 | (exfalso; omega))
            have k1 : decide (0 < (k : Int)) = false := decide_eq_false (by omega)
            have k0 : decide (0 < k) = false := decide_eq_false (by omega)
            have k3 : (W == 0) = true := by rw [beq_iff_eq]; omega
            have k4 : (P == 0) = true := by rw [beq_iff_eq]; omega
            clear hR h1 h2 hpl hW hP q1 h3
            go_wp2_with (first | go_skip | (go_at_call 77; with_reducible refine (HI1.out _ ?_).mono ?_; (focus exact (by repeat (first | (with_reducible exact Gx.refl _) | (with_reducible assumption) | (with_reducible refine Gx.gx ?_) | (with_reducible refine Gx.alloc ?_) | (with_reducible refine Gx.drew ?_) | (with_reducible refine Gx.drewN ?_) | (with_reducible refine Gx.setRow ?_ (by first | omega | (simp; done) | (simp <;> omega))) | (with_reducible refine Gx.setCell ?_ (by first | omega | (simp; done) | (simp <;> omega)))))); rintro e w' ⟨rfl, x1, rfl⟩) | (go_at_call 77; with_reducible refine (HI2.out _ ?_).mono ?_; (focus exact (by repeat (first | (with_reducible exact Gx.refl _) | (with_reducible assumption) | (with_reducible refine Gx.gx ?_) | (with_reducible refine Gx.alloc ?_) | (with_reducible refine Gx.drew ?_) | (with_reducible refine Gx.drewN ?_) | (with_reducible refine Gx.setRow ?_ (by first | omega | (simp; done) | (simp <;> omega))) | (with_reducible refine Gx.setCell ?_ (by first | omega | (simp; done) | (simp <;> omega)))))); rintro e w' ⟨rfl, x2, rfl⟩))
            go_ret
            exact ⟨by rw [HR.out]; first | rfl | (rw [← empty_app (I1)]; rfl), (by repeat (first | (with_reducible exact Gx.refl _) | (with_reducible assumption) | (with_reducible refine Gx.gx ?_) | (with_reducible refine Gx.alloc ?_) | (with_reducible refine Gx.drew ?_) | (with_reducible refine Gx.drewN ?_) | (with_reducible refine Gx.setRow ?_ (by first | omega | (simp; done) | (simp <;> omega))) | (with_reducible refine Gx.setCell ?_ (by first | omega | (simp; done) | (simp <;> omega)))))⟩
          · have HR : Hid (R = I1 ++ (⟨#[46]⟩ ++ I2.extract 1 I2.size)) := Lib.hid (by rcases hR with ⟨a1, a2, a3, a4⟩ | ⟨a1, a2, a4⟩ | ⟨a1, a2, a3, a4⟩ | ⟨a1, a2, a4⟩ <;> first | exact a4 | (exfalso; omega))
            have k1 : decide (0 < (k : Int)) = true := decide_eq_true (by omega)
            have k0 : decide (0 < k) = true := decide_eq_true (by omega)
            have k3 : (W == 0) = true := by rw [beq_iff_eq]; omega
            have k4 : (P == 0) = true := by rw [beq_iff_eq]; omega
            clear hR h1 h2 hpl hW hP q1 h3
            go_wp2_with (first | go_skip | (go_at_call 77; with_reducible refine (HI1.out _ ?_).mono ?_; (focus exact (by repeat (first | (with_reducible exact Gx.refl _) | (with_reducible assumption) | (with_reducible refine Gx.gx ?_) | (with_reducible refine Gx.alloc ?_) | (with_reducible refine Gx.drew ?_) | (with_reducible refine Gx.drewN ?_) | (with_reducible refine Gx.setRow ?_ (by first | omega | (simp; done) | (simp <;> omega))) | (with_reducible refine Gx.setCell ?_ (by first | omega | (simp; done) | (simp <;> omega)))))); rintro e w' ⟨rfl, x1, rfl⟩) | (go_at_call 77; with_reducible refine (HI2.out _ ?_).mono ?_; (focus exact (by repeat (first | (with_reducible exact Gx.refl _) | (with_reducible assumption) | (with_reducible refine Gx.gx ?_) | (with_reducible refine Gx.alloc ?_) | (with_reducible refine Gx.drew ?_) | (with_reducible refine Gx.drewN ?_) | (with_reducible refine Gx.setRow ?_ (by first | omega | (simp; done) | (simp <;> omega))) | (with_reducible refine Gx.setCell ?_ (by first | omega | (simp; done) | (simp <;> omega)))))); rintro e w' ⟨rfl, x2, rfl⟩))
            go_ret
            exact ⟨by rw [HR.out]; first | rfl | (rw [← empty_app (I1 ++ (⟨#[46]⟩ ++ I2.extract 1 I2.size))]; rfl), (by repeat (first | (with_reducible exact Gx.refl _) | (with_reducible assumption) | (with_reducible refine Gx.gx ?_) | (with_reducible refine Gx.alloc ?_) | (with_reducible refine Gx.drew ?_) | (with_reducible refine Gx.drewN ?_) | (with_reducible refine Gx.setRow ?_ (by first | omega | (simp; done) | (simp <;> omega))) | (with_reducible refine Gx.setCell ?_ (by first | omega | (simp; done) | (simp <;> omega)))))⟩
end Go.Proofs.YtbhcjaejkplfeaaGreatDoor
