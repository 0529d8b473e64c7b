/-
  Texts that this claim leans on, merged: PItoa, PDig, PDgB, PHol, PChk, PSmall, PDgG.
-/
import Derived.Shelf.Strconv.Itoa3
import Derived.Shelf.SlSorted.Search
import Derived.LoopN
import Derived.BigRegion
import Derived.BigQuiet
import Derived.Lib.ItoaLen
import Derived.Lib.AppendIntMem
import Derived.Test.YtocaphcnnmcnjaaGreatDoorM1
import Derived.Test.YtocaphcnnmcnjaaGreatDoorM2

/-
  strconv.Itoa: the shelf's contract at this program.
-/
namespace Go.Proofs.YtocaphcnnmcnjaaGreatDoor
open Go.RowKit
open Go.Shelf Go.Sort
-- AT2
def itoaA_ren : Go.Shelf.Ren := ⟨fun | 171 => 77 | 243 => 108 | 246 => 129 | 283 => 137 | 284 => 138 | 285 => 139 | 286 => 140 | 129 => 150 | 317 => 149 | 318 => 151 | 319 => 152 | 320 => 153 | 337 => 157 | 338 => 158 | n => n, fun | 3 => 3 | 9 => 9 | 2 => 2 | 4 => 4 | 171 => 162 | 0 => 0 | 53 => 163 | 37 => 166 | 5 => 5 | 173 => 167 | 212 => 187 | 51 => 188 | 20 => 20 | 213 => 189 | 46 => 158 | 232 => 196 | 233 => 197 | n => n, fun | 17 => 2 | 18 => 4 | 19 => 5 | n => n⟩
theorem itoaA : Go.Proofs.LaysM.n171 Tryz.prog itoaA_ren := {
  mixed := by kernel_rfl
  f129 := Tryz.func150.trans (congrArg some (by kernel_rfl))
  f171 := Tryz.func77.trans (congrArg some (by kernel_rfl))
  f243 := Tryz.func108.trans (congrArg some (by kernel_rfl))
  f246 := Tryz.func129.trans (congrArg some (by kernel_rfl))
  f283 := Tryz.func137.trans (congrArg some (by kernel_rfl))
  f284 := Tryz.func138.trans (congrArg some (by kernel_rfl))
  f285 := Tryz.func139.trans (congrArg some (by kernel_rfl))
  f286 := Tryz.func140.trans (congrArg some (by kernel_rfl))
  f317 := Tryz.func149.trans (congrArg some (by kernel_rfl))
  f318 := Tryz.func151.trans (congrArg some (by kernel_rfl))
  f319 := Tryz.func152.trans (congrArg some (by kernel_rfl))
  f320 := Tryz.func153.trans (congrArg some (by kernel_rfl))
  f337 := Tryz.func157.trans (congrArg some (by kernel_rfl))
  f338 := Tryz.func158.trans (congrArg some (by kernel_rfl))
  t0 := Tryz.underlying0
  a0 := Tryz.isAgg0
  z0 := Tryz.sizeOf0
  v0 := Tryz.zeroValue0
  t2 := Tryz.underlying2
  a2 := Tryz.isAgg2
  z2 := Tryz.sizeOf2
  v2 := Tryz.zeroValue2
  t3 := Tryz.underlying3
  a3 := Tryz.isAgg3
  z3 := Tryz.sizeOf3
  v3 := Tryz.zeroValue3
  t4 := Tryz.underlying4
  a4 := Tryz.isAgg4
  z4 := Tryz.sizeOf4
  v4 := Tryz.zeroValue4
  t5 := Tryz.underlying5
  a5 := Tryz.isAgg5
  z5 := Tryz.sizeOf5
  v5 := Tryz.zeroValue5
  t9 := Tryz.underlying9
  a9 := Tryz.isAgg9
  z9 := Tryz.sizeOf9
  v9 := Tryz.zeroValue9
  t20 := Tryz.underlying20
  a20 := Tryz.isAgg20
  z20 := Tryz.sizeOf20
  v20 := Tryz.zeroValue20
  t37 := Tryz.underlying166
  a37 := Tryz.isAgg166
  z37 := Tryz.sizeOf166
  v37 := Tryz.zeroValue166
  t46 := Tryz.underlying158
  a46 := Tryz.isAgg158
  z46 := Tryz.sizeOf158
  v46 := Tryz.zeroValue158
  t51 := Tryz.underlying188
  a51 := Tryz.isAgg188
  z51 := Tryz.sizeOf188
  v51 := Tryz.zeroValue188
  t53 := Tryz.underlying163
  a53 := Tryz.isAgg163
  z53 := Tryz.sizeOf163
  v53 := Tryz.zeroValue163
  t171 := Tryz.underlying162
  a171 := Tryz.isAgg162
  z171 := Tryz.sizeOf162
  v171 := Tryz.zeroValue162
  t173 := Tryz.underlying167
  a173 := Tryz.isAgg167
  z173 := Tryz.sizeOf167
  v173 := Tryz.zeroValue167
  t212 := Tryz.underlying187
  a212 := Tryz.isAgg187
  z212 := Tryz.sizeOf187
  v212 := Tryz.zeroValue187
  t213 := Tryz.underlying189
  a213 := Tryz.isAgg189
  z213 := Tryz.sizeOf189
  t232 := Tryz.underlying196
  a232 := Tryz.isAgg196
  z232 := Tryz.sizeOf196
  v232 := Tryz.zeroValue196
  t233 := Tryz.underlying197
  a233 := Tryz.isAgg197
  z233 := Tryz.sizeOf197
  v233 := Tryz.zeroValue197
  g17 := by kernel_rfl
  g18 := by kernel_rfl
  g19 := by kernel_rfl
  i0 := by kernel_rfl
  i2 := by kernel_rfl
  i3 := by kernel_rfl
  i4 := by kernel_rfl
  i5 := by kernel_rfl
  i9 := by kernel_rfl
  i20 := by kernel_rfl
  i37 := by kernel_rfl
  i46 := by kernel_rfl
  i51 := by kernel_rfl
  i53 := by kernel_rfl
  i171 := by kernel_rfl
  i173 := by kernel_rfl
  i212 := by kernel_rfl
  i232 := by kernel_rfl
  i233 := by kernel_rfl
  m17 := by kernel_rfl
  m18 := by kernel_rfl
  m19 := by kernel_rfl }

/-- The table of powers of ten, as the text lays it. -/
def Pow (w : World) : Prop := Lib.TabIs Tryz.prog w "internal/strconv.uint64pow10" .u64 Lib.pow10Tab
theorem Itoa_any (n : Int) (h0 : -9223372036854775808 ≤ n) (h1 : n ≤ 9223372036854775807) (w : World) (hp : Pow w) :
    Calls Tryz.prog 77 #[.int .i64 n] w fun e w' => e = .returned (.string ⟨(Lib.itoa n).toArray⟩) ∧ ∃ x, w' = gx w x := by
  refine (Go.Proofs.Any.strconv_Itoa itoaA n h0 h1 w hp).mono ?_
  rintro e w' ⟨he, k, os, rfl⟩
  exact ⟨he, gx_of_below (Go.Proofs.below_grown_sl w.heap.size w k os (Nat.le_refl _))⟩
end Go.Proofs.YtocaphcnnmcnjaaGreatDoor

/-
  The digits of a number: both sides.
-/
namespace Go.Proofs.YtocaphcnnmcnjaaGreatDoor
open Go.RowKit
-- AT2
-- AT3

/-- 10 to the power of k. -/
def tenN : Nat → Int
  | 0 => 1
  | k + 1 => tenN k * 10
theorem tenN_b : ∀ k, k ≤ 6 → 1 ≤ tenN k ∧ tenN k ≤ 1000000 := fun k hk => by
  have : k = 0 ∨ k = 1 ∨ k = 2 ∨ k = 3 ∨ k = 4 ∨ k = 5 ∨ k = 6 := by omega
  rcases this with rfl | rfl | rfl | rfl | rfl | rfl | rfl <;> decide
theorem tenN_s (k : Nat) : tenN k * 10 = tenN (k + 1) := rfl
theorem tenN_0 : tenN 0 = 1 := rfl
attribute [irreducible] tenN
set_option maxHeartbeats 4000000 in
set_option maxRecDepth 100000 in
theorem digits_core (n den : Int) (pl : Nat) (hpl : pl ≤ 6) (U sz r a b c d q0 w0 q1 W P V : Int) (I1 I2 R : ByteArray) (w : World)
    (HT0 : Hid (tenN 0 = 1)) (HTp : Hid (tenN pl = U)) (e1 : IntKind.i64.wrap (-n) = -n) (e2 : max n (-n) = sz) (_z1 : (den == 0) = false) (z2 : ¬ den = 0) (e3 : sz.tmod den = r) (_e4 : IntKind.i64.wrap r = r)
    (e5 : IntKind.i64.wrap (r * U) = a) (e6 : IntKind.i64.wrap (a * 2) = b) (e7 : IntKind.i64.wrap (b + den) = c) (e8 : IntKind.i64.wrap (den * 2) = d) (_z3 : (d == 0) = false) (z4 : ¬ d = 0) (e9 : c.tdiv d = q0) (e10 : IntKind.i64.wrap q0 = q0)
    (e11 : sz.tdiv den = w0) (e12 : IntKind.i64.wrap w0 = w0) (_z5 : (U == 0) = false) (z6 : ¬ U = 0) (e13 : q0.tdiv U = q1) (e14 : IntKind.i64.wrap q1 = q1) (e15 : IntKind.i64.wrap (w0 + q1) = W) (e16 : q0.tmod U = P) (e17 : IntKind.i64.wrap P = P) (e18 : IntKind.i64.wrap (U + P) = V)
    (HI1 : Hid (∀ W', (∃ x, W' = gx w x) → Calls Tryz.prog 77 #[.int .i64 W] W' fun e w' => e = .returned (.string I1) ∧ ∃ x, w' = gx W' x))
    (HI2 : Hid (∀ W', (∃ x, W' = gx w x) → Calls Tryz.prog 77 #[.int .i64 V] W' fun e w' => e = .returned (.string I2) ∧ ∃ x, w' = gx W' x))
    (hs2 : 1 ≤ I2.size) (hs3 : I1.size ≤ 100) (hs4 : I2.size ≤ 100) (hR : (pl = 0 ∧ n < 0 ∧ (0 < W ∨ (W ≤ 0 ∧ 0 < P)) ∧ R = ⟨#[45]⟩ ++ I1) ∨ (pl = 0 ∧ (0 ≤ n ∨ (n < 0 ∧ W ≤ 0 ∧ P ≤ 0)) ∧ R = I1) ∨ (0 < pl ∧ n < 0 ∧ (0 < W ∨ (W ≤ 0 ∧ 0 < P)) ∧ R = ⟨#[45]⟩ ++ (I1 ++ (⟨#[46]⟩ ++ I2.extract 1 I2.size))) ∨ (0 < pl ∧ (0 ≤ n ∨ (n < 0 ∧ W ≤ 0 ∧ P ≤ 0)) ∧ R = I1 ++ (⟨#[46]⟩ ++ I2.extract 1 I2.size))) :
    Calls Tryz.prog 52 #[.int .i64 n, .int .i64 den, .int .i64 pl] w fun e w' => e = .returned (.string R) ∧ ∃ x, w' = gx w x := by
  have y2 : (1 : Int) ≤ (I2.size : Int) := by omega
  have m0 : ¬ 9223372036854775807 < I2.size := by omega
  have m1 : ¬ 9223372036854775807 < I1.size + I2.size := by omega
  have m2 : ¬ 9223372036854775807 < I1.size := by omega
  have m3 : ¬ 9223372036854775807 < I1.size + 1 := by omega
  have m4 : ¬ 9223372036854775807 < 1 + I1.size := by omega
  have m5 : ¬ 9223372036854775807 < I1.size + I2.size + 1 := by omega
  have m6 : ¬ 9223372036854775807 < 1 + (I1.size + I2.size) := by omega
  go_enter Tryz.func52, Tryz.ntmps52
  go_wp2
  go_loop [7, 13] (fun u i => ∃ k : Nat, k ≤ pl ∧ i = .int .i64 k ∧ u = .int .i64 (tenN k)) (fun u i => pl - (intOf i).toNat)
  case atStart => exact ⟨0, Nat.zero_le _, rfl, by rw [HT0.out]⟩
  case round =>
    obtain ⟨k, hk, rfl, rfl⟩ := hrel
    by_cases hlt : k < pl
    · have hlt' : (k : Int) < (pl : Int) := by omega
      have hd : decide ((k : Int) < (pl : Int)) = true := decide_eq_true hlt'
      have hm : IntKind.i64.wrap (tenN k * 10) = tenN (k + 1) := by
        have := tenN_b (k + 1) (by omega)
        rw [tenN_s, IntWalk.i64_in _ (by omega)]
      have HM := Lib.hid hk
      generalize tenN k = t at *
      obtain ⟨t2, ht2⟩ : ∃ t2, tenN (k + 1) = t2 := ⟨_, rfl⟩
      rw [ht2] at hm
      have Ht2 := Lib.hid ht2
      clear ht2
      go_wp2
      go_round
      case rel => exact ⟨k + 1, by omega, by go_num, by rw [Ht2.out]⟩
      case measure => simp [intOf]; omega
    · obtain rfl : k = pl := by omega
      have hd : decide ((k : Int) < (k : Int)) = false := decide_eq_false (by omega)
      rw [HTp.out]
      clear HTp HT0 hlt hk
      have hcs : (k = 0 ∧ n < 0 ∧ 0 < W ∧ R = ⟨#[45]⟩ ++ I1) ∨ (k = 0 ∧ n < 0 ∧ W ≤ 0 ∧ 0 < P ∧ R = ⟨#[45]⟩ ++ I1) ∨ (k = 0 ∧ 0 ≤ n ∧ R = I1) ∨ (k = 0 ∧ n < 0 ∧ W ≤ 0 ∧ P ≤ 0 ∧ R = I1) ∨ (0 < k ∧ n < 0 ∧ 0 < W ∧ R = ⟨#[45]⟩ ++ (I1 ++ (⟨#[46]⟩ ++ I2.extract 1 I2.size))) ∨ (0 < k ∧ n < 0 ∧ W ≤ 0 ∧ 0 < P ∧ R = ⟨#[45]⟩ ++ (I1 ++ (⟨#[46]⟩ ++ I2.extract 1 I2.size))) ∨ (0 < k ∧ 0 ≤ n ∧ R = I1 ++ (⟨#[46]⟩ ++ I2.extract 1 I2.size)) ∨ (0 < k ∧ n < 0 ∧ W ≤ 0 ∧ P ≤ 0 ∧ R = I1 ++ (⟨#[46]⟩ ++ I2.extract 1 I2.size)) := by
        rcases hR with ⟨a1, a2, a3 | ⟨a3, a5⟩, a4⟩ | ⟨a1, a2 | ⟨a2, a3, a5⟩, a4⟩ | ⟨a1, a2, a3 | ⟨a3, a5⟩, a4⟩ | ⟨a1, a2 | ⟨a2, a3, a5⟩, a4⟩
        · exact .inl ⟨a1, a2, a3, a4⟩
        · exact .inr (.inl ⟨a1, a2, a3, a5, a4⟩)
        · exact .inr (.inr (.inl ⟨a1, a2, a4⟩))
        · exact .inr (.inr (.inr (.inl ⟨a1, a2, a3, a5, a4⟩)))
        · exact .inr (.inr (.inr (.inr (.inl ⟨a1, a2, a3, a4⟩))))
        · exact .inr (.inr (.inr (.inr (.inr (.inl ⟨a1, a2, a3, a5, a4⟩)))))
        · exact .inr (.inr (.inr (.inr (.inr (.inr (.inl ⟨a1, a2, a4⟩))))))
        · exact .inr (.inr (.inr (.inr (.inr (.inr (.inr ⟨a1, a2, a3, a5, a4⟩))))))
      clear hR hpl
      go_wp2
      go_quiet (fail)
      rcases hcs with ⟨h1, h2, h3, hR⟩ | ⟨h1, h2, h3, h4, hR⟩ | ⟨h1, h2, hR⟩ | ⟨h1, h2, h3, h4, hR⟩ | ⟨h1, h2, h3, hR⟩ | ⟨h1, h2, h3, h4, hR⟩ | ⟨h1, h2, hR⟩ | ⟨h1, h2, h3, h4, hR⟩
      · have HR := Lib.hid hR
        have k1 : decide (0 < (k : Int)) = false := decide_eq_false (by omega)
        have k0 : decide (0 < k) = false := decide_eq_false (by omega)
        have k2 : decide (n < 0) = true := decide_eq_true (by omega)
        have k3 : decide (0 < W) = true := decide_eq_true (by omega)
        clear hR h1 h2 h3
        go_wp2_with (first | go_skip | (go_at_call 77; with_reducible refine (HI1.out _ ?_).mono ?_; (focus exact (by repeat (first | (with_reducible exact Gx.refl _) | (with_reducible assumption) | (with_reducible refine Gx.gx ?_) | (with_reducible refine Gx.alloc ?_) | (with_reducible refine Gx.drew ?_) | (with_reducible refine Gx.drewN ?_) | (with_reducible refine Gx.setRow ?_ (by first | omega | (simp; done) | (simp <;> omega))) | (with_reducible refine Gx.setCell ?_ (by first | omega | (simp; done) | (simp <;> omega)))))); rintro e w' ⟨rfl, x1, rfl⟩) | (go_at_call 77; with_reducible refine (HI2.out _ ?_).mono ?_; (focus exact (by repeat (first | (with_reducible exact Gx.refl _) | (with_reducible assumption) | (with_reducible refine Gx.gx ?_) | (with_reducible refine Gx.alloc ?_) | (with_reducible refine Gx.drew ?_) | (with_reducible refine Gx.drewN ?_) | (with_reducible refine Gx.setRow ?_ (by first | omega | (simp; done) | (simp <;> omega))) | (with_reducible refine Gx.setCell ?_ (by first | omega | (simp; done) | (simp <;> omega)))))); rintro e w' ⟨rfl, x2, rfl⟩))
        go_ret
        exact ⟨by rw [HR.out]; rfl, (by repeat (first | (with_reducible exact Gx.refl _) | (with_reducible assumption) | (with_reducible refine Gx.gx ?_) | (with_reducible refine Gx.alloc ?_) | (with_reducible refine Gx.drew ?_) | (with_reducible refine Gx.drewN ?_) | (with_reducible refine Gx.setRow ?_ (by first | omega | (simp; done) | (simp <;> omega))) | (with_reducible refine Gx.setCell ?_ (by first | omega | (simp; done) | (simp <;> omega)))))⟩
      · have HR := Lib.hid hR
        have k1 : decide (0 < (k : Int)) = false := decide_eq_false (by omega)
        have k0 : decide (0 < k) = false := decide_eq_false (by omega)
        have k2 : decide (n < 0) = true := decide_eq_true (by omega)
        have k3 : decide (0 < W) = false := decide_eq_false (by omega)
        have k4 : decide (0 < P) = true := decide_eq_true (by omega)
        clear hR h1 h2 h3 h4
        go_wp2_with (first | go_skip | (go_at_call 77; with_reducible refine (HI1.out _ ?_).mono ?_; (focus exact (by repeat (first | (with_reducible exact Gx.refl _) | (with_reducible assumption) | (with_reducible refine Gx.gx ?_) | (with_reducible refine Gx.alloc ?_) | (with_reducible refine Gx.drew ?_) | (with_reducible refine Gx.drewN ?_) | (with_reducible refine Gx.setRow ?_ (by first | omega | (simp; done) | (simp <;> omega))) | (with_reducible refine Gx.setCell ?_ (by first | omega | (simp; done) | (simp <;> omega)))))); rintro e w' ⟨rfl, x1, rfl⟩) | (go_at_call 77; with_reducible refine (HI2.out _ ?_).mono ?_; (focus exact (by repeat (first | (with_reducible exact Gx.refl _) | (with_reducible assumption) | (with_reducible refine Gx.gx ?_) | (with_reducible refine Gx.alloc ?_) | (with_reducible refine Gx.drew ?_) | (with_reducible refine Gx.drewN ?_) | (with_reducible refine Gx.setRow ?_ (by first | omega | (simp; done) | (simp <;> omega))) | (with_reducible refine Gx.setCell ?_ (by first | omega | (simp; done) | (simp <;> omega)))))); rintro e w' ⟨rfl, x2, rfl⟩))
        go_ret
        exact ⟨by rw [HR.out]; rfl, (by repeat (first | (with_reducible exact Gx.refl _) | (with_reducible assumption) | (with_reducible refine Gx.gx ?_) | (with_reducible refine Gx.alloc ?_) | (with_reducible refine Gx.drew ?_) | (with_reducible refine Gx.drewN ?_) | (with_reducible refine Gx.setRow ?_ (by first | omega | (simp; done) | (simp <;> omega))) | (with_reducible refine Gx.setCell ?_ (by first | omega | (simp; done) | (simp <;> omega)))))⟩
      · have HR := Lib.hid hR
        have k1 : decide (0 < (k : Int)) = false := decide_eq_false (by omega)
        have k0 : decide (0 < k) = false := decide_eq_false (by omega)
        have k2 : decide (n < 0) = false := decide_eq_false (by omega)
        clear hR h1 h2
        go_wp2_with (first | go_skip | (go_at_call 77; with_reducible refine (HI1.out _ ?_).mono ?_; (focus exact (by repeat (first | (with_reducible exact Gx.refl _) | (with_reducible assumption) | (with_reducible refine Gx.gx ?_) | (with_reducible refine Gx.alloc ?_) | (with_reducible refine Gx.drew ?_) | (with_reducible refine Gx.drewN ?_) | (with_reducible refine Gx.setRow ?_ (by first | omega | (simp; done) | (simp <;> omega))) | (with_reducible refine Gx.setCell ?_ (by first | omega | (simp; done) | (simp <;> omega)))))); rintro e w' ⟨rfl, x1, rfl⟩) | (go_at_call 77; with_reducible refine (HI2.out _ ?_).mono ?_; (focus exact (by repeat (first | (with_reducible exact Gx.refl _) | (with_reducible assumption) | (with_reducible refine Gx.gx ?_) | (with_reducible refine Gx.alloc ?_) | (with_reducible refine Gx.drew ?_) | (with_reducible refine Gx.drewN ?_) | (with_reducible refine Gx.setRow ?_ (by first | omega | (simp; done) | (simp <;> omega))) | (with_reducible refine Gx.setCell ?_ (by first | omega | (simp; done) | (simp <;> omega)))))); rintro e w' ⟨rfl, x2, rfl⟩))
        go_ret
        exact ⟨by rw [HR.out]; rfl, (by repeat (first | (with_reducible exact Gx.refl _) | (with_reducible assumption) | (with_reducible refine Gx.gx ?_) | (with_reducible refine Gx.alloc ?_) | (with_reducible refine Gx.drew ?_) | (with_reducible refine Gx.drewN ?_) | (with_reducible refine Gx.setRow ?_ (by first | omega | (simp; done) | (simp <;> omega))) | (with_reducible refine Gx.setCell ?_ (by first | omega | (simp; done) | (simp <;> omega)))))⟩
      · have HR := Lib.hid hR
        have k1 : decide (0 < (k : Int)) = false := decide_eq_false (by omega)
        have k0 : decide (0 < k) = false := decide_eq_false (by omega)
        have k2 : decide (n < 0) = true := decide_eq_true (by omega)
        have k3 : decide (0 < W) = false := decide_eq_false (by omega)
        have k4 : decide (0 < P) = false := decide_eq_false (by omega)
        clear hR h1 h2 h3 h4
        go_wp2_with (first | go_skip | (go_at_call 77; with_reducible refine (HI1.out _ ?_).mono ?_; (focus exact (by repeat (first | (with_reducible exact Gx.refl _) | (with_reducible assumption) | (with_reducible refine Gx.gx ?_) | (with_reducible refine Gx.alloc ?_) | (with_reducible refine Gx.drew ?_) | (with_reducible refine Gx.drewN ?_) | (with_reducible refine Gx.setRow ?_ (by first | omega | (simp; done) | (simp <;> omega))) | (with_reducible refine Gx.setCell ?_ (by first | omega | (simp; done) | (simp <;> omega)))))); rintro e w' ⟨rfl, x1, rfl⟩) | (go_at_call 77; with_reducible refine (HI2.out _ ?_).mono ?_; (focus exact (by repeat (first | (with_reducible exact Gx.refl _) | (with_reducible assumption) | (with_reducible refine Gx.gx ?_) | (with_reducible refine Gx.alloc ?_) | (with_reducible refine Gx.drew ?_) | (with_reducible refine Gx.drewN ?_) | (with_reducible refine Gx.setRow ?_ (by first | omega | (simp; done) | (simp <;> omega))) | (with_reducible refine Gx.setCell ?_ (by first | omega | (simp; done) | (simp <;> omega)))))); rintro e w' ⟨rfl, x2, rfl⟩))
        go_ret
        exact ⟨by rw [HR.out]; rfl, (by repeat (first | (with_reducible exact Gx.refl _) | (with_reducible assumption) | (with_reducible refine Gx.gx ?_) | (with_reducible refine Gx.alloc ?_) | (with_reducible refine Gx.drew ?_) | (with_reducible refine Gx.drewN ?_) | (with_reducible refine Gx.setRow ?_ (by first | omega | (simp; done) | (simp <;> omega))) | (with_reducible refine Gx.setCell ?_ (by first | omega | (simp; done) | (simp <;> omega)))))⟩
      · have HR := Lib.hid hR
        have k1 : decide (0 < (k : Int)) = true := decide_eq_true (by omega)
        have k0 : decide (0 < k) = true := decide_eq_true (by omega)
        have k2 : decide (n < 0) = true := decide_eq_true (by omega)
        have k3 : decide (0 < W) = true := decide_eq_true (by omega)
        clear hR h1 h2 h3
        go_wp2_with (first | go_skip | (go_at_call 77; with_reducible refine (HI1.out _ ?_).mono ?_; (focus exact (by repeat (first | (with_reducible exact Gx.refl _) | (with_reducible assumption) | (with_reducible refine Gx.gx ?_) | (with_reducible refine Gx.alloc ?_) | (with_reducible refine Gx.drew ?_) | (with_reducible refine Gx.drewN ?_) | (with_reducible refine Gx.setRow ?_ (by first | omega | (simp; done) | (simp <;> omega))) | (with_reducible refine Gx.setCell ?_ (by first | omega | (simp; done) | (simp <;> omega)))))); rintro e w' ⟨rfl, x1, rfl⟩) | (go_at_call 77; with_reducible refine (HI2.out _ ?_).mono ?_; (focus exact (by repeat (first | (with_reducible exact Gx.refl _) | (with_reducible assumption) | (with_reducible refine Gx.gx ?_) | (with_reducible refine Gx.alloc ?_) | (with_reducible refine Gx.drew ?_) | (with_reducible refine Gx.drewN ?_) | (with_reducible refine Gx.setRow ?_ (by first | omega | (simp; done) | (simp <;> omega))) | (with_reducible refine Gx.setCell ?_ (by first | omega | (simp; done) | (simp <;> omega)))))); rintro e w' ⟨rfl, x2, rfl⟩))
        go_ret
        exact ⟨by rw [HR.out]; rfl, (by repeat (first | (with_reducible exact Gx.refl _) | (with_reducible assumption) | (with_reducible refine Gx.gx ?_) | (with_reducible refine Gx.alloc ?_) | (with_reducible refine Gx.drew ?_) | (with_reducible refine Gx.drewN ?_) | (with_reducible refine Gx.setRow ?_ (by first | omega | (simp; done) | (simp <;> omega))) | (with_reducible refine Gx.setCell ?_ (by first | omega | (simp; done) | (simp <;> omega)))))⟩
      · have HR := Lib.hid hR
        have k1 : decide (0 < (k : Int)) = true := decide_eq_true (by omega)
        have k0 : decide (0 < k) = true := decide_eq_true (by omega)
        have k2 : decide (n < 0) = true := decide_eq_true (by omega)
        have k3 : decide (0 < W) = false := decide_eq_false (by omega)
        have k4 : decide (0 < P) = true := decide_eq_true (by omega)
        clear hR h1 h2 h3 h4
        go_wp2_with (first | go_skip | (go_at_call 77; with_reducible refine (HI1.out _ ?_).mono ?_; (focus exact (by repeat (first | (with_reducible exact Gx.refl _) | (with_reducible assumption) | (with_reducible refine Gx.gx ?_) | (with_reducible refine Gx.alloc ?_) | (with_reducible refine Gx.drew ?_) | (with_reducible refine Gx.drewN ?_) | (with_reducible refine Gx.setRow ?_ (by first | omega | (simp; done) | (simp <;> omega))) | (with_reducible refine Gx.setCell ?_ (by first | omega | (simp; done) | (simp <;> omega)))))); rintro e w' ⟨rfl, x1, rfl⟩) | (go_at_call 77; with_reducible refine (HI2.out _ ?_).mono ?_; (focus exact (by repeat (first | (with_reducible exact Gx.refl _) | (with_reducible assumption) | (with_reducible refine Gx.gx ?_) | (with_reducible refine Gx.alloc ?_) | (with_reducible refine Gx.drew ?_) | (with_reducible refine Gx.drewN ?_) | (with_reducible refine Gx.setRow ?_ (by first | omega | (simp; done) | (simp <;> omega))) | (with_reducible refine Gx.setCell ?_ (by first | omega | (simp; done) | (simp <;> omega)))))); rintro e w' ⟨rfl, x2, rfl⟩))
        go_ret
        exact ⟨by rw [HR.out]; rfl, (by repeat (first | (with_reducible exact Gx.refl _) | (with_reducible assumption) | (with_reducible refine Gx.gx ?_) | (with_reducible refine Gx.alloc ?_) | (with_reducible refine Gx.drew ?_) | (with_reducible refine Gx.drewN ?_) | (with_reducible refine Gx.setRow ?_ (by first | omega | (simp; done) | (simp <;> omega))) | (with_reducible refine Gx.setCell ?_ (by first | omega | (simp; done) | (simp <;> omega)))))⟩
      · have HR := Lib.hid hR
        have k1 : decide (0 < (k : Int)) = true := decide_eq_true (by omega)
        have k0 : decide (0 < k) = true := decide_eq_true (by omega)
        have k2 : decide (n < 0) = false := decide_eq_false (by omega)
        clear hR h1 h2
        go_wp2_with (first | go_skip | (go_at_call 77; with_reducible refine (HI1.out _ ?_).mono ?_; (focus exact (by repeat (first | (with_reducible exact Gx.refl _) | (with_reducible assumption) | (with_reducible refine Gx.gx ?_) | (with_reducible refine Gx.alloc ?_) | (with_reducible refine Gx.drew ?_) | (with_reducible refine Gx.drewN ?_) | (with_reducible refine Gx.setRow ?_ (by first | omega | (simp; done) | (simp <;> omega))) | (with_reducible refine Gx.setCell ?_ (by first | omega | (simp; done) | (simp <;> omega)))))); rintro e w' ⟨rfl, x1, rfl⟩) | (go_at_call 77; with_reducible refine (HI2.out _ ?_).mono ?_; (focus exact (by repeat (first | (with_reducible exact Gx.refl _) | (with_reducible assumption) | (with_reducible refine Gx.gx ?_) | (with_reducible refine Gx.alloc ?_) | (with_reducible refine Gx.drew ?_) | (with_reducible refine Gx.drewN ?_) | (with_reducible refine Gx.setRow ?_ (by first | omega | (simp; done) | (simp <;> omega))) | (with_reducible refine Gx.setCell ?_ (by first | omega | (simp; done) | (simp <;> omega)))))); rintro e w' ⟨rfl, x2, rfl⟩))
        go_ret
        exact ⟨by rw [HR.out]; rfl, (by repeat (first | (with_reducible exact Gx.refl _) | (with_reducible assumption) | (with_reducible refine Gx.gx ?_) | (with_reducible refine Gx.alloc ?_) | (with_reducible refine Gx.drew ?_) | (with_reducible refine Gx.drewN ?_) | (with_reducible refine Gx.setRow ?_ (by first | omega | (simp; done) | (simp <;> omega))) | (with_reducible refine Gx.setCell ?_ (by first | omega | (simp; done) | (simp <;> omega)))))⟩
      · have HR := Lib.hid hR
        have k1 : decide (0 < (k : Int)) = true := decide_eq_true (by omega)
        have k0 : decide (0 < k) = true := decide_eq_true (by omega)
        have k2 : decide (n < 0) = true := decide_eq_true (by omega)
        have k3 : decide (0 < W) = false := decide_eq_false (by omega)
        have k4 : decide (0 < P) = false := decide_eq_false (by omega)
        clear hR h1 h2 h3 h4
        go_wp2_with (first | go_skip | (go_at_call 77; with_reducible refine (HI1.out _ ?_).mono ?_; (focus exact (by repeat (first | (with_reducible exact Gx.refl _) | (with_reducible assumption) | (with_reducible refine Gx.gx ?_) | (with_reducible refine Gx.alloc ?_) | (with_reducible refine Gx.drew ?_) | (with_reducible refine Gx.drewN ?_) | (with_reducible refine Gx.setRow ?_ (by first | omega | (simp; done) | (simp <;> omega))) | (with_reducible refine Gx.setCell ?_ (by first | omega | (simp; done) | (simp <;> omega)))))); rintro e w' ⟨rfl, x1, rfl⟩) | (go_at_call 77; with_reducible refine (HI2.out _ ?_).mono ?_; (focus exact (by repeat (first | (with_reducible exact Gx.refl _) | (with_reducible assumption) | (with_reducible refine Gx.gx ?_) | (with_reducible refine Gx.alloc ?_) | (with_reducible refine Gx.drew ?_) | (with_reducible refine Gx.drewN ?_) | (with_reducible refine Gx.setRow ?_ (by first | omega | (simp; done) | (simp <;> omega))) | (with_reducible refine Gx.setCell ?_ (by first | omega | (simp; done) | (simp <;> omega)))))); rintro e w' ⟨rfl, x2, rfl⟩))
        go_ret
        exact ⟨by rw [HR.out]; rfl, (by repeat (first | (with_reducible exact Gx.refl _) | (with_reducible assumption) | (with_reducible refine Gx.gx ?_) | (with_reducible refine Gx.alloc ?_) | (with_reducible refine Gx.drew ?_) | (with_reducible refine Gx.drewN ?_) | (with_reducible refine Gx.setRow ?_ (by first | omega | (simp; done) | (simp <;> omega))) | (with_reducible refine Gx.setCell ?_ (by first | omega | (simp; done) | (simp <;> omega)))))⟩
theorem empty_app (s : ByteArray) : (⟨#[]⟩ : ByteArray) ++ s = s := by
  apply ByteArray.ext
  rw [ByteArray.data_append]
  simp
set_option maxHeartbeats 4000000 in
set_option maxRecDepth 100000 in
theorem rdigits_core (n den : Int) (pl : Nat) (hpl : pl ≤ 6) (U sz r u2 b c d q0 w0 W P V : Int) (I1 I2 R : ByteArray) (w : World)
    (HT0 : Hid (tenN 0 = 1)) (HTp : Hid (tenN pl = U)) (hU : 1 ≤ U ∧ U ≤ 1000000) (hsz : (0 ≤ n ∧ sz = n) ∨ (n < 0 ∧ IntKind.i64.wrap (-n) = sz)) (_z1 : (den == 0) = false) (z2 : ¬ den = 0) (e3 : sz.tmod den = r) (_e4 : IntKind.i64.wrap r = r)
    (e5 : IntKind.i64.wrap (2 * U) = u2) (e6 : IntKind.i64.wrap (u2 * r) = b) (e7 : IntKind.i64.wrap (b + den) = c) (e8 : IntKind.i64.wrap (2 * den) = d) (_z3 : (d == 0) = false) (z4 : ¬ d = 0) (e9 : c.tdiv d = q0) (e10 : IntKind.i64.wrap q0 = q0)
    (e11 : sz.tdiv den = w0) (e12 : IntKind.i64.wrap w0 = w0) (hq : (q0 = U ∧ IntKind.i64.wrap (w0 + 1) = W ∧ P = 0 ∧ 0 < W) ∨ (q0 ≠ U ∧ W = w0 ∧ P = q0)) (hW : 0 ≤ W) (hP : 0 ≤ P) (e18 : IntKind.i64.wrap (U + P) = V)
    (HI1 : Hid (∀ W', (∃ x, W' = gx w x) → Calls Tryz.prog 77 #[.int .i64 W] W' fun e w' => e = .returned (.string I1) ∧ ∃ x, w' = gx W' x))
    (HI2 : Hid (∀ W', (∃ x, W' = gx w x) → Calls Tryz.prog 77 #[.int .i64 V] W' fun e w' => e = .returned (.string I2) ∧ ∃ x, w' = gx W' x))
    (hs2 : 1 ≤ I2.size) (hs3 : I1.size ≤ 100) (hs4 : I2.size ≤ 100) (hR : (pl = 0 ∧ n < 0 ∧ (0 < W ∨ (W ≤ 0 ∧ 0 < P)) ∧ R = ⟨#[45]⟩ ++ I1) ∨ (pl = 0 ∧ (0 ≤ n ∨ (n < 0 ∧ W ≤ 0 ∧ P ≤ 0)) ∧ R = I1) ∨ (0 < pl ∧ n < 0 ∧ (0 < W ∨ (W ≤ 0 ∧ 0 < P)) ∧ R = ⟨#[45]⟩ ++ (I1 ++ (⟨#[46]⟩ ++ I2.extract 1 I2.size))) ∨ (0 < pl ∧ (0 ≤ n ∨ (n < 0 ∧ W ≤ 0 ∧ P ≤ 0)) ∧ R = I1 ++ (⟨#[46]⟩ ++ I2.extract 1 I2.size))) :
    Calls Tryz.prog 53 #[.int .i64 n, .int .i64 den, .int .i64 pl] w fun e w' => e = .returned (.string R) ∧ ∃ x, w' = gx w x := by
  have y2 : (1 : Int) ≤ (I2.size : Int) := by omega
  have m0 : ¬ 9223372036854775807 < I2.size := by omega
  have m1 : ¬ 9223372036854775807 < I1.size + I2.size := by omega
  have m2 : ¬ 9223372036854775807 < I1.size := by omega
  have m3 : ¬ 9223372036854775807 < I1.size + 1 := by omega
  have m4 : ¬ 9223372036854775807 < 1 + I1.size := by omega
  have m5 : ¬ 9223372036854775807 < I1.size + I2.size + 1 := by omega
  have m6 : ¬ 9223372036854775807 < 1 + (I1.size + I2.size) := by omega
  have m7 : ¬ 9223372036854775807 < 1 + I2.size := by omega
  rcases hsz with ⟨g1, rfl⟩ | ⟨g1, g2⟩
  · have k2 : decide (sz < 0) = false := decide_eq_false (by omega)
    go_enter Tryz.func53, Tryz.ntmps53
    go_wp2
    go_loop [9, 19] (fun u i => ∃ k : Nat, k ≤ pl ∧ i = .int .i64 k ∧ u = .int .i64 (tenN k)) (fun u i => pl - (intOf i).toNat)
    case atStart => exact ⟨0, Nat.zero_le _, rfl, by rw [HT0.out]⟩
    case round =>
      obtain ⟨k, hk, rfl, rfl⟩ := hrel
      by_cases hlt : k < pl
      · have hlt' : (k : Int) < (pl : Int) := by omega
        have hd : decide ((k : Int) < (pl : Int)) = true := decide_eq_true hlt'
        have hm : IntKind.i64.wrap (tenN k * 10) = tenN (k + 1) := by
          have := tenN_b (k + 1) (by omega)
          rw [tenN_s, IntWalk.i64_in _ (by omega)]
        have HM := Lib.hid hk
        generalize tenN k = t at *
        obtain ⟨t2, ht2⟩ : ∃ t2, tenN (k + 1) = t2 := ⟨_, rfl⟩
        rw [ht2] at hm
        have Ht2 := Lib.hid ht2
        clear ht2
        go_wp2
        go_round
        case rel => exact ⟨k + 1, by omega, by go_num, by rw [Ht2.out]⟩
        case measure => simp [intOf]; omega
      · obtain rfl : k = pl := by omega
        have hd : decide ((k : Int) < (k : Int)) = false := decide_eq_false (by omega)
        rw [HTp.out]
        clear HTp HT0 hlt hk
        go_wp2
        go_quiet (fail)
        rcases hq with ⟨q1, q2, rfl, q4⟩ | ⟨q1, rfl, rfl⟩
        · have kq : (q0 == U) = true := by rw [beq_iff_eq]; exact q1
          have e19 : IntKind.i64.wrap U = V := by have h := e18; rwa [Int.add_zero] at h
          have e20 : wrap64 U = V := by rw [IntWalk.i64_in _ (by omega)] at e19; unfold wrap64; omega
          clear e18
          have hc : (W ≠ 0 ∧ k = 0) ∨ (W ≠ 0 ∧ 0 < k) := by omega
          rcases hc with ⟨h1, h2⟩ | ⟨h1, h2⟩
          · have HR : Hid (R = I1) := Lib.hid (by rcases hR with ⟨a1, a2, a3, a4⟩ | ⟨a1, a2, a4⟩ | ⟨a1, a2, a3, a4⟩ | ⟨a1, a2, a4⟩ <;> first | exact a4 | (exfalso; omega))
            have k1 : decide (0 < (k : Int)) = false := decide_eq_false (by omega)
            have k0 : decide (0 < k) = false := decide_eq_false (by omega)
            have k3 : (W == 0) = false := by rw [beq_eq_false_iff_ne]; omega
            clear hR h1 h2 hpl hW hP q1 q4
            go_wp2_with (first | go_skip | (go_at_call 77; with_reducible refine (HI1.out _ ?_).mono ?_; (focus exact (by repeat (first | (with_reducible exact Gx.refl _) | (with_reducible assumption) | (with_reducible refine Gx.gx ?_) | (with_reducible refine Gx.alloc ?_) | (with_reducible refine Gx.drew ?_) | (with_reducible refine Gx.drewN ?_) | (with_reducible refine Gx.setRow ?_ (by first | omega | (simp; done) | (simp <;> omega))) | (with_reducible refine Gx.setCell ?_ (by first | omega | (simp; done) | (simp <;> omega)))))); rintro e w' ⟨rfl, x1, rfl⟩) | (go_at_call 77; with_reducible refine (HI2.out _ ?_).mono ?_; (focus exact (by repeat (first | (with_reducible exact Gx.refl _) | (with_reducible assumption) | (with_reducible refine Gx.gx ?_) | (with_reducible refine Gx.alloc ?_) | (with_reducible refine Gx.drew ?_) | (with_reducible refine Gx.drewN ?_) | (with_reducible refine Gx.setRow ?_ (by first | omega | (simp; done) | (simp <;> omega))) | (with_reducible refine Gx.setCell ?_ (by first | omega | (simp; done) | (simp <;> omega)))))); rintro e w' ⟨rfl, x2, rfl⟩))
            go_ret
            exact ⟨by rw [HR.out]; first | rfl | (rw [← empty_app (I1)]; rfl), (by repeat (first | (with_reducible exact Gx.refl _) | (with_reducible assumption) | (with_reducible refine Gx.gx ?_) | (with_reducible refine Gx.alloc ?_) | (with_reducible refine Gx.drew ?_) | (with_reducible refine Gx.drewN ?_) | (with_reducible refine Gx.setRow ?_ (by first | omega | (simp; done) | (simp <;> omega))) | (with_reducible refine Gx.setCell ?_ (by first | omega | (simp; done) | (simp <;> omega)))))⟩
          · have HR : Hid (R = I1 ++ (⟨#[46]⟩ ++ I2.extract 1 I2.size)) := Lib.hid (by rcases hR with ⟨a1, a2, a3, a4⟩ | ⟨a1, a2, a4⟩ | ⟨a1, a2, a3, a4⟩ | ⟨a1, a2, a4⟩ <;> first | exact a4 | (exfalso; omega))
            have k1 : decide (0 < (k : Int)) = true := decide_eq_true (by omega)
            have k0 : decide (0 < k) = true := decide_eq_true (by omega)
            have k3 : (W == 0) = false := by rw [beq_eq_false_iff_ne]; omega
            clear hR h1 h2 hpl hW hP q1 q4
            go_wp2_with (first | go_skip | (go_at_call 77; with_reducible refine (HI1.out _ ?_).mono ?_; (focus exact (by repeat (first | (with_reducible exact Gx.refl _) | (with_reducible assumption) | (with_reducible refine Gx.gx ?_) | (with_reducible refine Gx.alloc ?_) | (with_reducible refine Gx.drew ?_) | (with_reducible refine Gx.drewN ?_) | (with_reducible refine Gx.setRow ?_ (by first | omega | (simp; done) | (simp <;> omega))) | (with_reducible refine Gx.setCell ?_ (by first | omega | (simp; done) | (simp <;> omega)))))); rintro e w' ⟨rfl, x1, rfl⟩) | (go_at_call 77; with_reducible refine (HI2.out _ ?_).mono ?_; (focus exact (by repeat (first | (with_reducible exact Gx.refl _) | (with_reducible assumption) | (with_reducible refine Gx.gx ?_) | (with_reducible refine Gx.alloc ?_) | (with_reducible refine Gx.drew ?_) | (with_reducible refine Gx.drewN ?_) | (with_reducible refine Gx.setRow ?_ (by first | omega | (simp; done) | (simp <;> omega))) | (with_reducible refine Gx.setCell ?_ (by first | omega | (simp; done) | (simp <;> omega)))))); rintro e w' ⟨rfl, x2, rfl⟩))
            go_ret
            exact ⟨by rw [HR.out]; first | rfl | (rw [← empty_app (I1 ++ (⟨#[46]⟩ ++ I2.extract 1 I2.size))]; rfl), (by repeat (first | (with_reducible exact Gx.refl _) | (with_reducible assumption) | (with_reducible refine Gx.gx ?_) | (with_reducible refine Gx.alloc ?_) | (with_reducible refine Gx.drew ?_) | (with_reducible refine Gx.drewN ?_) | (with_reducible refine Gx.setRow ?_ (by first | omega | (simp; done) | (simp <;> omega))) | (with_reducible refine Gx.setCell ?_ (by first | omega | (simp; done) | (simp <;> omega)))))⟩
        · have kq : (P == U) = false := by rw [beq_eq_false_iff_ne]; exact q1
          have hc : (W ≠ 0 ∧ k = 0) ∨ (W ≠ 0 ∧ 0 < k) ∨ (W = 0 ∧ P ≠ 0 ∧ k = 0) ∨ (W = 0 ∧ P ≠ 0 ∧ 0 < k) ∨ (W = 0 ∧ P = 0 ∧ k = 0) ∨ (W = 0 ∧ P = 0 ∧ 0 < k) := by omega
          rcases hc with ⟨h1, h2⟩ | ⟨h1, h2⟩ | ⟨h1, h3, h2⟩ | ⟨h1, h3, h2⟩ | ⟨h1, h3, h2⟩ | ⟨h1, h3, h2⟩
          · have HR : Hid (R = I1) := Lib.hid (by rcases hR with ⟨a1, a2, a3, a4⟩ | ⟨a1, a2, a4⟩ | ⟨a1, a2, a3, a4⟩ | ⟨a1, a2, a4⟩ <;> first | exact a4 | (exfalso; omega))
            have k1 : decide (0 < (k : Int)) = false := decide_eq_false (by omega)
            have k0 : decide (0 < k) = false := decide_eq_false (by omega)
            have k3 : (W == 0) = false := by rw [beq_eq_false_iff_ne]; omega
            clear hR h1 h2 hpl hW hP q1
            go_wp2_with (first | go_skip | (go_at_call 77; with_reducible refine (HI1.out _ ?_).mono ?_; (focus exact (by repeat (first | (with_reducible exact Gx.refl _) | (with_reducible assumption) | (with_reducible refine Gx.gx ?_) | (with_reducible refine Gx.alloc ?_) | (with_reducible refine Gx.drew ?_) | (with_reducible refine Gx.drewN ?_) | (with_reducible refine Gx.setRow ?_ (by first | omega | (simp; done) | (simp <;> omega))) | (with_reducible refine Gx.setCell ?_ (by first | omega | (simp; done) | (simp <;> omega)))))); rintro e w' ⟨rfl, x1, rfl⟩) | (go_at_call 77; with_reducible refine (HI2.out _ ?_).mono ?_; (focus exact (by repeat (first | (with_reducible exact Gx.refl _) | (with_reducible assumption) | (with_reducible refine Gx.gx ?_) | (with_reducible refine Gx.alloc ?_) | (with_reducible refine Gx.drew ?_) | (with_reducible refine Gx.drewN ?_) | (with_reducible refine Gx.setRow ?_ (by first | omega | (simp; done) | (simp <;> omega))) | (with_reducible refine Gx.setCell ?_ (by first | omega | (simp; done) | (simp <;> omega)))))); rintro e w' ⟨rfl, x2, rfl⟩))
            go_ret
            exact ⟨by rw [HR.out]; first | rfl | (rw [← empty_app (I1)]; rfl), (by repeat (first | (with_reducible exact Gx.refl _) | (with_reducible assumption) | (with_reducible refine Gx.gx ?_) | (with_reducible refine Gx.alloc ?_) | (with_reducible refine Gx.drew ?_) | (with_reducible refine Gx.drewN ?_) | (with_reducible refine Gx.setRow ?_ (by first | omega | (simp; done) | (simp <;> omega))) | (with_reducible refine Gx.setCell ?_ (by first | omega | (simp; done) | (simp <;> omega)))))⟩
          · have HR : Hid (R = I1 ++ (⟨#[46]⟩ ++ I2.extract 1 I2.size)) := Lib.hid (by rcases hR with ⟨a1, a2, a3, a4⟩ | ⟨a1, a2, a4⟩ | ⟨a1, a2, a3, a4⟩ | ⟨a1, a2, a4⟩ <;> first | exact a4 | (exfalso; omega))
            have k1 : decide (0 < (k : Int)) = true := decide_eq_true (by omega)
            have k0 : decide (0 < k) = true := decide_eq_true (by omega)
            have k3 : (W == 0) = false := by rw [beq_eq_false_iff_ne]; omega
            clear hR h1 h2 hpl hW hP q1
            go_wp2_with (first | go_skip | (go_at_call 77; with_reducible refine (HI1.out _ ?_).mono ?_; (focus exact (by repeat (first | (with_reducible exact Gx.refl _) | (with_reducible assumption) | (with_reducible refine Gx.gx ?_) | (with_reducible refine Gx.alloc ?_) | (with_reducible refine Gx.drew ?_) | (with_reducible refine Gx.drewN ?_) | (with_reducible refine Gx.setRow ?_ (by first | omega | (simp; done) | (simp <;> omega))) | (with_reducible refine Gx.setCell ?_ (by first | omega | (simp; done) | (simp <;> omega)))))); rintro e w' ⟨rfl, x1, rfl⟩) | (go_at_call 77; with_reducible refine (HI2.out _ ?_).mono ?_; (focus exact (by repeat (first | (with_reducible exact Gx.refl _) | (with_reducible assumption) | (with_reducible refine Gx.gx ?_) | (with_reducible refine Gx.alloc ?_) | (with_reducible refine Gx.drew ?_) | (with_reducible refine Gx.drewN ?_) | (with_reducible refine Gx.setRow ?_ (by first | omega | (simp; done) | (simp <;> omega))) | (with_reducible refine Gx.setCell ?_ (by first | omega | (simp; done) | (simp <;> omega)))))); rintro e w' ⟨rfl, x2, rfl⟩))
            go_ret
            exact ⟨by rw [HR.out]; first | rfl | (rw [← empty_app (I1 ++ (⟨#[46]⟩ ++ I2.extract 1 I2.size))]; rfl), (by repeat (first | (with_reducible exact Gx.refl _) | (with_reducible assumption) | (with_reducible refine Gx.gx ?_) | (with_reducible refine Gx.alloc ?_) | (with_reducible refine Gx.drew ?_) | (with_reducible refine Gx.drewN ?_) | (with_reducible refine Gx.setRow ?_ (by first | omega | (simp; done) | (simp <;> omega))) | (with_reducible refine Gx.setCell ?_ (by first | omega | (simp; done) | (simp <;> omega)))))⟩
          · have HR : Hid (R = I1) := Lib.hid (by rcases hR with ⟨a1, a2, a3, a4⟩ | ⟨a1, a2, a4⟩ | ⟨a1, a2, a3, a4⟩ | ⟨a1, a2, a4⟩ <;> first | exact a4 | (exfalso; omega))
            have k1 : decide (0 < (k : Int)) = false := decide_eq_false (by omega)
            have k0 : decide (0 < k) = false := decide_eq_false (by omega)
            have k3 : (W == 0) = true := by rw [beq_iff_eq]; omega
            have k4 : (P == 0) = false := by rw [beq_eq_false_iff_ne]; omega
            clear hR h1 h2 hpl hW hP q1 h3
            go_wp2_with (first | go_skip | (go_at_call 77; with_reducible refine (HI1.out _ ?_).mono ?_; (focus exact (by repeat (first | (with_reducible exact Gx.refl _) | (with_reducible assumption) | (with_reducible refine Gx.gx ?_) | (with_reducible refine Gx.alloc ?_) | (with_reducible refine Gx.drew ?_) | (with_reducible refine Gx.drewN ?_) | (with_reducible refine Gx.setRow ?_ (by first | omega | (simp; done) | (simp <;> omega))) | (with_reducible refine Gx.setCell ?_ (by first | omega | (simp; done) | (simp <;> omega)))))); rintro e w' ⟨rfl, x1, rfl⟩) | (go_at_call 77; with_reducible refine (HI2.out _ ?_).mono ?_; (focus exact (by repeat (first | (with_reducible exact Gx.refl _) | (with_reducible assumption) | (with_reducible refine Gx.gx ?_) | (with_reducible refine Gx.alloc ?_) | (with_reducible refine Gx.drew ?_) | (with_reducible refine Gx.drewN ?_) | (with_reducible refine Gx.setRow ?_ (by first | omega | (simp; done) | (simp <;> omega))) | (with_reducible refine Gx.setCell ?_ (by first | omega | (simp; done) | (simp <;> omega)))))); rintro e w' ⟨rfl, x2, rfl⟩))
            go_ret
            exact ⟨by rw [HR.out]; first | rfl | (rw [← empty_app (I1)]; rfl), (by repeat (first | (with_reducible exact Gx.refl _) | (with_reducible assumption) | (with_reducible refine Gx.gx ?_) | (with_reducible refine Gx.alloc ?_) | (with_reducible refine Gx.drew ?_) | (with_reducible refine Gx.drewN ?_) | (with_reducible refine Gx.setRow ?_ (by first | omega | (simp; done) | (simp <;> omega))) | (with_reducible refine Gx.setCell ?_ (by first | omega | (simp; done) | (simp <;> omega)))))⟩
          · have HR : Hid (R = I1 ++ (⟨#[46]⟩ ++ I2.extract 1 I2.size)) := Lib.hid (by rcases hR with ⟨a1, a2, a3, a4⟩ | ⟨a1, a2, a4⟩ | ⟨a1, a2, a3, a4⟩ | ⟨a1, a2, a4⟩ <;> first | exact a4 | (exfalso; omega))
            have k1 : decide (0 < (k : Int)) = true := decide_eq_true (by omega)
            have k0 : decide (0 < k) = true := decide_eq_true (by omega)
            have k3 : (W == 0) = true := by rw [beq_iff_eq]; omega
            have k4 : (P == 0) = false := by rw [beq_eq_false_iff_ne]; omega
            clear hR h1 h2 hpl hW hP q1 h3
            go_wp2_with (first | go_skip | (go_at_call 77; with_reducible refine (HI1.out _ ?_).mono ?_; (focus exact (by repeat (first | (with_reducible exact Gx.refl _) | (with_reducible assumption) | (with_reducible refine Gx.gx ?_) | (with_reducible refine Gx.alloc ?_) | (with_reducible refine Gx.drew ?_) | (with_reducible refine Gx.drewN ?_) | (with_reducible refine Gx.setRow ?_ (by first | omega | (simp; done) | (simp <;> omega))) | (with_reducible refine Gx.setCell ?_ (by first | omega | (simp; done) | (simp <;> omega)))))); rintro e w' ⟨rfl, x1, rfl⟩) | (go_at_call 77; with_reducible refine (HI2.out _ ?_).mono ?_; (focus exact (by repeat (first | (with_reducible exact Gx.refl _) | (with_reducible assumption) | (with_reducible refine Gx.gx ?_) | (with_reducible refine Gx.alloc ?_) | (with_reducible refine Gx.drew ?_) | (with_reducible refine Gx.drewN ?_) | (with_reducible refine Gx.setRow ?_ (by first | omega | (simp; done) | (simp <;> omega))) | (with_reducible refine Gx.setCell ?_ (by first | omega | (simp; done) | (simp <;> omega)))))); rintro e w' ⟨rfl, x2, rfl⟩))
            go_ret
            exact ⟨by rw [HR.out]; first | rfl | (rw [← empty_app (I1 ++ (⟨#[46]⟩ ++ I2.extract 1 I2.size))]; rfl), (by repeat (first | (with_reducible exact Gx.refl _) | (with_reducible assumption) | (with_reducible refine Gx.gx ?_) | (with_reducible refine Gx.alloc ?_) | (with_reducible refine Gx.drew ?_) | (with_reducible refine Gx.drewN ?_) | (with_reducible refine Gx.setRow ?_ (by first | omega | (simp; done) | (simp <;> omega))) | (with_reducible refine Gx.setCell ?_ (by first | omega | (simp; done) | (simp <;> omega)))))⟩
          · have HR : Hid (R = I1) := Lib.hid (by rcases hR with ⟨a1, a2, a3, a4⟩ | ⟨a1, a2, a4⟩ | ⟨a1, a2, a3, a4⟩ | ⟨a1, a2, a4⟩ <;> first | exact a4 | (exfalso; omega))
            have k1 : decide (0 < (k : Int)) = false := decide_eq_false (by omega)
            have k0 : decide (0 < k) = false := decide_eq_false (by omega)
            have k3 : (W == 0) = true := by rw [beq_iff_eq]; omega
            have k4 : (P == 0) = true := by rw [beq_iff_eq]; omega
            clear hR h1 h2 hpl hW hP q1 h3
            go_wp2_with (first | go_skip | (go_at_call 77; with_reducible refine (HI1.out _ ?_).mono ?_; (focus exact (by repeat (first | (with_reducible exact Gx.refl _) | (with_reducible assumption) | (with_reducible refine Gx.gx ?_) | (with_reducible refine Gx.alloc ?_) | (with_reducible refine Gx.drew ?_) | (with_reducible refine Gx.drewN ?_) | (with_reducible refine Gx.setRow ?_ (by first | omega | (simp; done) | (simp <;> omega))) | (with_reducible refine Gx.setCell ?_ (by first | omega | (simp; done) | (simp <;> omega)))))); rintro e w' ⟨rfl, x1, rfl⟩) | (go_at_call 77; with_reducible refine (HI2.out _ ?_).mono ?_; (focus exact (by repeat (first | (with_reducible exact Gx.refl _) | (with_reducible assumption) | (with_reducible refine Gx.gx ?_) | (with_reducible refine Gx.alloc ?_) | (with_reducible refine Gx.drew ?_) | (with_reducible refine Gx.drewN ?_) | (with_reducible refine Gx.setRow ?_ (by first | omega | (simp; done) | (simp <;> omega))) | (with_reducible refine Gx.setCell ?_ (by first | omega | (simp; done) | (simp <;> omega)))))); rintro e w' ⟨rfl, x2, rfl⟩))
            go_ret
            exact ⟨by rw [HR.out]; first | rfl | (rw [← empty_app (I1)]; rfl), (by repeat (first | (with_reducible exact Gx.refl _) | (with_reducible assumption) | (with_reducible refine Gx.gx ?_) | (with_reducible refine Gx.alloc ?_) | (with_reducible refine Gx.drew ?_) | (with_reducible refine Gx.drewN ?_) | (with_reducible refine Gx.setRow ?_ (by first | omega | (simp; done) | (simp <;> omega))) | (with_reducible refine Gx.setCell ?_ (by first | omega | (simp; done) | (simp <;> omega)))))⟩
          · have HR : Hid (R = I1 ++ (⟨#[46]⟩ ++ I2.extract 1 I2.size)) := Lib.hid (by rcases hR with ⟨a1, a2, a3, a4⟩ | ⟨a1, a2, a4⟩ | ⟨a1, a2, a3, a4⟩ | ⟨a1, a2, a4⟩ <;> first | exact a4 | (exfalso; omega))
            have k1 : decide (0 < (k : Int)) = true := decide_eq_true (by omega)
            have k0 : decide (0 < k) = true := decide_eq_true (by omega)
            have k3 : (W == 0) = true := by rw [beq_iff_eq]; omega
            have k4 : (P == 0) = true := by rw [beq_iff_eq]; omega
            clear hR h1 h2 hpl hW hP q1 h3
            go_wp2_with (first | go_skip | (go_at_call 77; with_reducible refine (HI1.out _ ?_).mono ?_; (focus exact (by repeat (first | (with_reducible exact Gx.refl _) | (with_reducible assumption) | (with_reducible refine Gx.gx ?_) | (with_reducible refine Gx.alloc ?_) | (with_reducible refine Gx.drew ?_) | (with_reducible refine Gx.drewN ?_) | (with_reducible refine Gx.setRow ?_ (by first | omega | (simp; done) | (simp <;> omega))) | (with_reducible refine Gx.setCell ?_ (by first | omega | (simp; done) | (simp <;> omega)))))); rintro e w' ⟨rfl, x1, rfl⟩) | (go_at_call 77; with_reducible refine (HI2.out _ ?_).mono ?_; (focus exact (by repeat (first | (with_reducible exact Gx.refl _) | (with_reducible assumption) | (with_reducible refine Gx.gx ?_) | (with_reducible refine Gx.alloc ?_) | (with_reducible refine Gx.drew ?_) | (with_reducible refine Gx.drewN ?_) | (with_reducible refine Gx.setRow ?_ (by first | omega | (simp; done) | (simp <;> omega))) | (with_reducible refine Gx.setCell ?_ (by first | omega | (simp; done) | (simp <;> omega)))))); rintro e w' ⟨rfl, x2, rfl⟩))
            go_ret
            exact ⟨by rw [HR.out]; first | rfl | (rw [← empty_app (I1 ++ (⟨#[46]⟩ ++ I2.extract 1 I2.size))]; rfl), (by repeat (first | (with_reducible exact Gx.refl _) | (with_reducible assumption) | (with_reducible refine Gx.gx ?_) | (with_reducible refine Gx.alloc ?_) | (with_reducible refine Gx.drew ?_) | (with_reducible refine Gx.drewN ?_) | (with_reducible refine Gx.setRow ?_ (by first | omega | (simp; done) | (simp <;> omega))) | (with_reducible refine Gx.setCell ?_ (by first | omega | (simp; done) | (simp <;> omega)))))⟩
  · have k2 : decide (n < 0) = true := decide_eq_true (by omega)
    go_enter Tryz.func53, Tryz.ntmps53
    go_wp2
    go_loop [9, 19] (fun u i => ∃ k : Nat, k ≤ pl ∧ i = .int .i64 k ∧ u = .int .i64 (tenN k)) (fun u i => pl - (intOf i).toNat)
    case atStart => exact ⟨0, Nat.zero_le _, rfl, by rw [HT0.out]⟩
    case round =>
      obtain ⟨k, hk, rfl, rfl⟩ := hrel
      by_cases hlt : k < pl
      · have hlt' : (k : Int) < (pl : Int) := by omega
        have hd : decide ((k : Int) < (pl : Int)) = true := decide_eq_true hlt'
        have hm : IntKind.i64.wrap (tenN k * 10) = tenN (k + 1) := by
          have := tenN_b (k + 1) (by omega)
          rw [tenN_s, IntWalk.i64_in _ (by omega)]
        have HM := Lib.hid hk
        generalize tenN k = t at *
        obtain ⟨t2, ht2⟩ : ∃ t2, tenN (k + 1) = t2 := ⟨_, rfl⟩
        rw [ht2] at hm
        have Ht2 := Lib.hid ht2
        clear ht2
        go_wp2
        go_round
        case rel => exact ⟨k + 1, by omega, by go_num, by rw [Ht2.out]⟩
        case measure => simp [intOf]; omega
      · obtain rfl : k = pl := by omega
        have hd : decide ((k : Int) < (k : Int)) = false := decide_eq_false (by omega)
        rw [HTp.out]
        clear HTp HT0 hlt hk
        go_wp2
        go_quiet (fail)
        rcases hq with ⟨q1, q2, rfl, q4⟩ | ⟨q1, rfl, rfl⟩
        · have kq : (q0 == U) = true := by rw [beq_iff_eq]; exact q1
          have e19 : IntKind.i64.wrap U = V := by have h := e18; rwa [Int.add_zero] at h
          have e20 : wrap64 U = V := by rw [IntWalk.i64_in _ (by omega)] at e19; unfold wrap64; omega
          clear e18
          have hc : (W ≠ 0 ∧ k = 0) ∨ (W ≠ 0 ∧ 0 < k) := by omega
          rcases hc with ⟨h1, h2⟩ | ⟨h1, h2⟩
          · have HR : Hid (R = ⟨#[45]⟩ ++ I1) := Lib.hid (by rcases hR with ⟨a1, a2, a3, a4⟩ | ⟨a1, a2, a4⟩ | ⟨a1, a2, a3, a4⟩ | ⟨a1, a2, a4⟩ <;> first | exact a4 | (exfalso; omega))
            have k1 : decide (0 < (k : Int)) = false := decide_eq_false (by omega)
            have k0 : decide (0 < k) = false := decide_eq_false (by omega)
            have k3 : (W == 0) = false := by rw [beq_eq_false_iff_ne]; omega
            clear hR h1 h2 hpl hW hP q1 q4
            go_wp2_with (first | go_skip | (go_at_call 77; with_reducible refine (HI1.out _ ?_).mono ?_; (focus exact (by repeat (first | (with_reducible exact Gx.refl _) | (with_reducible assumption) | (with_reducible refine Gx.gx ?_) | (with_reducible refine Gx.alloc ?_) | (with_reducible refine Gx.drew ?_) | (with_reducible refine Gx.drewN ?_) | (with_reducible refine Gx.setRow ?_ (by first | omega | (simp; done) | (simp <;> omega))) | (with_reducible refine Gx.setCell ?_ (by first | omega | (simp; done) | (simp <;> omega)))))); rintro e w' ⟨rfl, x1, rfl⟩) | (go_at_call 77; with_reducible refine (HI2.out _ ?_).mono ?_; (focus exact (by repeat (first | (with_reducible exact Gx.refl _) | (with_reducible assumption) | (with_reducible refine Gx.gx ?_) | (with_reducible refine Gx.alloc ?_) | (with_reducible refine Gx.drew ?_) | (with_reducible refine Gx.drewN ?_) | (with_reducible refine Gx.setRow ?_ (by first | omega | (simp; done) | (simp <;> omega))) | (with_reducible refine Gx.setCell ?_ (by first | omega | (simp; done) | (simp <;> omega)))))); rintro e w' ⟨rfl, x2, rfl⟩))
            go_ret
            exact ⟨by rw [HR.out]; first | rfl | (rw [← empty_app (I1)]; rfl), (by repeat (first | (with_reducible exact Gx.refl _) | (with_reducible assumption) | (with_reducible refine Gx.gx ?_) | (with_reducible refine Gx.alloc ?_) | (with_reducible refine Gx.drew ?_) | (with_reducible refine Gx.drewN ?_) | (with_reducible refine Gx.setRow ?_ (by first | omega | (simp; done) | (simp <;> omega))) | (with_reducible refine Gx.setCell ?_ (by first | omega | (simp; done) | (simp <;> omega)))))⟩
          · have HR : Hid (R = ⟨#[45]⟩ ++ (I1 ++ (⟨#[46]⟩ ++ I2.extract 1 I2.size))) := Lib.hid (by rcases hR with ⟨a1, a2, a3, a4⟩ | ⟨a1, a2, a4⟩ | ⟨a1, a2, a3, a4⟩ | ⟨a1, a2, a4⟩ <;> first | exact a4 | (exfalso; omega))
            have k1 : decide (0 < (k : Int)) = true := decide_eq_true (by omega)
            have k0 : decide (0 < k) = true := decide_eq_true (by omega)
            have k3 : (W == 0) = false := by rw [beq_eq_false_iff_ne]; omega
            clear hR h1 h2 hpl hW hP q1 q4
            go_wp2_with (first | go_skip | (go_at_call 77; with_reducible refine (HI1.out _ ?_).mono ?_; (focus exact (by repeat (first | (with_reducible exact Gx.refl _) | (with_reducible assumption) | (with_reducible refine Gx.gx ?_) | (with_reducible refine Gx.alloc ?_) | (with_reducible refine Gx.drew ?_) | (with_reducible refine Gx.drewN ?_) | (with_reducible refine Gx.setRow ?_ (by first | omega | (simp; done) | (simp <;> omega))) | (with_reducible refine Gx.setCell ?_ (by first | omega | (simp; done) | (simp <;> omega)))))); rintro e w' ⟨rfl, x1, rfl⟩) | (go_at_call 77; with_reducible refine (HI2.out _ ?_).mono ?_; (focus exact (by repeat (first | (with_reducible exact Gx.refl _) | (with_reducible assumption) | (with_reducible refine Gx.gx ?_) | (with_reducible refine Gx.alloc ?_) | (with_reducible refine Gx.drew ?_) | (with_reducible refine Gx.drewN ?_) | (with_reducible refine Gx.setRow ?_ (by first | omega | (simp; done) | (simp <;> omega))) | (with_reducible refine Gx.setCell ?_ (by first | omega | (simp; done) | (simp <;> omega)))))); rintro e w' ⟨rfl, x2, rfl⟩))
            go_ret
            exact ⟨by rw [HR.out]; first | rfl | (rw [← empty_app (I1 ++ (⟨#[46]⟩ ++ I2.extract 1 I2.size))]; rfl), (by repeat (first | (with_reducible exact Gx.refl _) | (with_reducible assumption) | (with_reducible refine Gx.gx ?_) | (with_reducible refine Gx.alloc ?_) | (with_reducible refine Gx.drew ?_) | (with_reducible refine Gx.drewN ?_) | (with_reducible refine Gx.setRow ?_ (by first | omega | (simp; done) | (simp <;> omega))) | (with_reducible refine Gx.setCell ?_ (by first | omega | (simp; done) | (simp <;> omega)))))⟩
        · have kq : (P == U) = false := by rw [beq_eq_false_iff_ne]; exact q1
          have hc : (W ≠ 0 ∧ k = 0) ∨ (W ≠ 0 ∧ 0 < k) ∨ (W = 0 ∧ P ≠ 0 ∧ k = 0) ∨ (W = 0 ∧ P ≠ 0 ∧ 0 < k) ∨ (W = 0 ∧ P = 0 ∧ k = 0) ∨ (W = 0 ∧ P = 0 ∧ 0 < k) := by omega
          rcases hc with ⟨h1, h2⟩ | ⟨h1, h2⟩ | ⟨h1, h3, h2⟩ | ⟨h1, h3, h2⟩ | ⟨h1, h3, h2⟩ | ⟨h1, h3, h2⟩
          · have HR : Hid (R = ⟨#[45]⟩ ++ I1) := Lib.hid (by rcases hR with ⟨a1, a2, a3, a4⟩ | ⟨a1, a2, a4⟩ | ⟨a1, a2, a3, a4⟩ | ⟨a1, a2, a4⟩ <;> first | exact a4 | (exfalso; omega))
            have k1 : decide (0 < (k : Int)) = false := decide_eq_false (by omega)
            have k0 : decide (0 < k) = false := decide_eq_false (by omega)
            have k3 : (W == 0) = false := by rw [beq_eq_false_iff_ne]; omega
            clear hR h1 h2 hpl hW hP q1
            go_wp2_with (first | go_skip | (go_at_call 77; with_reducible refine (HI1.out _ ?_).mono ?_; (focus exact (by repeat (first | (with_reducible exact Gx.refl _) | (with_reducible assumption) | (with_reducible refine Gx.gx ?_) | (with_reducible refine Gx.alloc ?_) | (with_reducible refine Gx.drew ?_) | (with_reducible refine Gx.drewN ?_) | (with_reducible refine Gx.setRow ?_ (by first | omega | (simp; done) | (simp <;> omega))) | (with_reducible refine Gx.setCell ?_ (by first | omega | (simp; done) | (simp <;> omega)))))); rintro e w' ⟨rfl, x1, rfl⟩) | (go_at_call 77; with_reducible refine (HI2.out _ ?_).mono ?_; (focus exact (by repeat (first | (with_reducible exact Gx.refl _) | (with_reducible assumption) | (with_reducible refine Gx.gx ?_) | (with_reducible refine Gx.alloc ?_) | (with_reducible refine Gx.drew ?_) | (with_reducible refine Gx.drewN ?_) | (with_reducible refine Gx.setRow ?_ (by first | omega | (simp; done) | (simp <;> omega))) | (with_reducible refine Gx.setCell ?_ (by first | omega | (simp; done) | (simp <;> omega)))))); rintro e w' ⟨rfl, x2, rfl⟩))
            go_ret
            exact ⟨by rw [HR.out]; first | rfl | (rw [← empty_app (I1)]; rfl), (by repeat (first | (with_reducible exact Gx.refl _) | (with_reducible assumption) | (with_reducible refine Gx.gx ?_) | (with_reducible refine Gx.alloc ?_) | (with_reducible refine Gx.drew ?_) | (with_reducible refine Gx.drewN ?_) | (with_reducible refine Gx.setRow ?_ (by first | omega | (simp; done) | (simp <;> omega))) | (with_reducible refine Gx.setCell ?_ (by first | omega | (simp; done) | (simp <;> omega)))))⟩
          · have HR : Hid (R = ⟨#[45]⟩ ++ (I1 ++ (⟨#[46]⟩ ++ I2.extract 1 I2.size))) := Lib.hid (by rcases hR with ⟨a1, a2, a3, a4⟩ | ⟨a1, a2, a4⟩ | ⟨a1, a2, a3, a4⟩ | ⟨a1, a2, a4⟩ <;> first | exact a4 | (exfalso; omega))
            have k1 : decide (0 < (k : Int)) = true := decide_eq_true (by omega)
            have k0 : decide (0 < k) = true := decide_eq_true (by omega)
            have k3 : (W == 0) = false := by rw [beq_eq_false_iff_ne]; omega
            clear hR h1 h2 hpl hW hP q1
            go_wp2_with (first | go_skip | (go_at_call 77; with_reducible refine (HI1.out _ ?_).mono ?_; (focus exact (by repeat (first | (with_reducible exact Gx.refl _) | (with_reducible assumption) | (with_reducible refine Gx.gx ?_) | (with_reducible refine Gx.alloc ?_) | (with_reducible refine Gx.drew ?_) | (with_reducible refine Gx.drewN ?_) | (with_reducible refine Gx.setRow ?_ (by first | omega | (simp; done) | (simp <;> omega))) | (with_reducible refine Gx.setCell ?_ (by first | omega | (simp; done) | (simp <;> omega)))))); rintro e w' ⟨rfl, x1, rfl⟩) | (go_at_call 77; with_reducible refine (HI2.out _ ?_).mono ?_; (focus exact (by repeat (first | (with_reducible exact Gx.refl _) | (with_reducible assumption) | (with_reducible refine Gx.gx ?_) | (with_reducible refine Gx.alloc ?_) | (with_reducible refine Gx.drew ?_) | (with_reducible refine Gx.drewN ?_) | (with_reducible refine Gx.setRow ?_ (by first | omega | (simp; done) | (simp <;> omega))) | (with_reducible refine Gx.setCell ?_ (by first | omega | (simp; done) | (simp <;> omega)))))); rintro e w' ⟨rfl, x2, rfl⟩))
            go_ret
            exact ⟨by rw [HR.out]; first | rfl | (rw [← empty_app (I1 ++ (⟨#[46]⟩ ++ I2.extract 1 I2.size))]; rfl), (by repeat (first | (with_reducible exact Gx.refl _) | (with_reducible assumption) | (with_reducible refine Gx.gx ?_) | (with_reducible refine Gx.alloc ?_) | (with_reducible refine Gx.drew ?_) | (with_reducible refine Gx.drewN ?_) | (with_reducible refine Gx.setRow ?_ (by first | omega | (simp; done) | (simp <;> omega))) | (with_reducible refine Gx.setCell ?_ (by first | omega | (simp; done) | (simp <;> omega)))))⟩
          · have HR : Hid (R = ⟨#[45]⟩ ++ I1) := Lib.hid (by rcases hR with ⟨a1, a2, a3, a4⟩ | ⟨a1, a2, a4⟩ | ⟨a1, a2, a3, a4⟩ | ⟨a1, a2, a4⟩ <;> first | exact a4 | (exfalso; omega))
            have k1 : decide (0 < (k : Int)) = false := decide_eq_false (by omega)
            have k0 : decide (0 < k) = false := decide_eq_false (by omega)
            have k3 : (W == 0) = true := by rw [beq_iff_eq]; omega
            have k4 : (P == 0) = false := by rw [beq_eq_false_iff_ne]; omega
            clear hR h1 h2 hpl hW hP q1 h3
            go_wp2_with (first | go_skip | (go_at_call 77; with_reducible refine (HI1.out _ ?_).mono ?_; (focus exact (by repeat (first | (with_reducible exact Gx.refl _) | (with_reducible assumption) | (with_reducible refine Gx.gx ?_) | (with_reducible refine Gx.alloc ?_) | (with_reducible refine Gx.drew ?_) | (with_reducible refine Gx.drewN ?_) | (with_reducible refine Gx.setRow ?_ (by first | omega | (simp; done) | (simp <;> omega))) | (with_reducible refine Gx.setCell ?_ (by first | omega | (simp; done) | (simp <;> omega)))))); rintro e w' ⟨rfl, x1, rfl⟩) | (go_at_call 77; with_reducible refine (HI2.out _ ?_).mono ?_; (focus exact (by repeat (first | (with_reducible exact Gx.refl _) | (with_reducible assumption) | (with_reducible refine Gx.gx ?_) | (with_reducible refine Gx.alloc ?_) | (with_reducible refine Gx.drew ?_) | (with_reducible refine Gx.drewN ?_) | (with_reducible refine Gx.setRow ?_ (by first | omega | (simp; done) | (simp <;> omega))) | (with_reducible refine Gx.setCell ?_ (by first | omega | (simp; done) | (simp <;> omega)))))); rintro e w' ⟨rfl, x2, rfl⟩))
            go_ret
            exact ⟨by rw [HR.out]; first | rfl | (rw [← empty_app (I1)]; rfl), (by repeat (first | (with_reducible exact Gx.refl _) | (with_reducible assumption) | (with_reducible refine Gx.gx ?_) | (with_reducible refine Gx.alloc ?_) | (with_reducible refine Gx.drew ?_) | (with_reducible refine Gx.drewN ?_) | (with_reducible refine Gx.setRow ?_ (by first | omega | (simp; done) | (simp <;> omega))) | (with_reducible refine Gx.setCell ?_ (by first | omega | (simp; done) | (simp <;> omega)))))⟩
          · have HR : Hid (R = ⟨#[45]⟩ ++ (I1 ++ (⟨#[46]⟩ ++ I2.extract 1 I2.size))) := Lib.hid (by rcases hR with ⟨a1, a2, a3, a4⟩ | ⟨a1, a2, a4⟩ | ⟨a1, a2, a3, a4⟩ | ⟨a1, a2, a4⟩ <;> first | exact a4 | (exfalso; omega))
            have k1 : decide (0 < (k : Int)) = true := decide_eq_true (by omega)
            have k0 : decide (0 < k) = true := decide_eq_true (by omega)
            have k3 : (W == 0) = true := by rw [beq_iff_eq]; omega
            have k4 : (P == 0) = false := by rw [beq_eq_false_iff_ne]; omega
            clear hR h1 h2 hpl hW hP q1 h3
            go_wp2_with (first | go_skip | (go_at_call 77; with_reducible refine (HI1.out _ ?_).mono ?_; (focus exact (by repeat (first | (with_reducible exact Gx.refl _) | (with_reducible assumption) | (with_reducible refine Gx.gx ?_) | (with_reducible refine Gx.alloc ?_) | (with_reducible refine Gx.drew ?_) | (with_reducible refine Gx.drewN ?_) | (with_reducible refine Gx.setRow ?_ (by first | omega | (simp; done) | (simp <;> omega))) | (with_reducible refine Gx.setCell ?_ (by first | omega | (simp; done) | (simp <;> omega)))))); rintro e w' ⟨rfl, x1, rfl⟩) | (go_at_call 77; with_reducible refine (HI2.out _ ?_).mono ?_; (focus exact (by repeat (first | (with_reducible exact Gx.refl _) | (with_reducible assumption) | (with_reducible refine Gx.gx ?_) | (with_reducible refine Gx.alloc ?_) | (with_reducible refine Gx.drew ?_) | (with_reducible refine Gx.drewN ?_) | (with_reducible refine Gx.setRow ?_ (by first | omega | (simp; done) | (simp <;> omega))) | (with_reducible refine Gx.setCell ?_ (by first | omega | (simp; done) | (simp <;> omega)))))); rintro e w' ⟨rfl, x2, rfl⟩))
            go_ret
            exact ⟨by rw [HR.out]; first | rfl | (rw [← empty_app (I1 ++ (⟨#[46]⟩ ++ I2.extract 1 I2.size))]; rfl), (by repeat (first | (with_reducible exact Gx.refl _) | (with_reducible assumption) | (with_reducible refine Gx.gx ?_) | (with_reducible refine Gx.alloc ?_) | (with_reducible refine Gx.drew ?_) | (with_reducible refine Gx.drewN ?_) | (with_reducible refine Gx.setRow ?_ (by first | omega | (simp; done) | (simp <;> omega))) | (with_reducible refine Gx.setCell ?_ (by first | omega | (simp; done) | (simp <;> omega)))))⟩
          · have HR : Hid (R = I1) := Lib.hid (by rcases hR with ⟨a1, a2, a3, a4⟩ | ⟨a1, a2, a4⟩ | ⟨a1, a2, a3, a4⟩ | ⟨a1, a2, a4⟩ <;> first | exact a4 | (exfalso; omega))
            have k1 : decide (0 < (k : Int)) = false := decide_eq_false (by omega)
            have k0 : decide (0 < k) = false := decide_eq_false (by omega)
            have k3 : (W == 0) = true := by rw [beq_iff_eq]; omega
            have k4 : (P == 0) = true := by rw [beq_iff_eq]; omega
            clear hR h1 h2 hpl hW hP q1 h3
            go_wp2_with (first | go_skip | (go_at_call 77; with_reducible refine (HI1.out _ ?_).mono ?_; (focus exact (by repeat (first | (with_reducible exact Gx.refl _) | (with_reducible assumption) | (with_reducible refine Gx.gx ?_) | (with_reducible refine Gx.alloc ?_) | (with_reducible refine Gx.drew ?_) | (with_reducible refine Gx.drewN ?_) | (with_reducible refine Gx.setRow ?_ (by first | omega | (simp; done) | (simp <;> omega))) | (with_reducible refine Gx.setCell ?_ (by first | omega | (simp; done) | (simp <;> omega)))))); rintro e w' ⟨rfl, x1, rfl⟩) | (go_at_call 77; with_reducible refine (HI2.out _ ?_).mono ?_; (focus exact (by repeat (first | (with_reducible exact Gx.refl _) | (with_reducible assumption) | (with_reducible refine Gx.gx ?_) | (with_reducible refine Gx.alloc ?_) | (with_reducible refine Gx.drew ?_) | (with_reducible refine Gx.drewN ?_) | (with_reducible refine Gx.setRow ?_ (by first | omega | (simp; done) | (simp <;> omega))) | (with_reducible refine Gx.setCell ?_ (by first | omega | (simp; done) | (simp <;> omega)))))); rintro e w' ⟨rfl, x2, rfl⟩))
            go_ret
            exact ⟨by rw [HR.out]; first | rfl | (rw [← empty_app (I1)]; rfl), (by repeat (first | (with_reducible exact Gx.refl _) | (with_reducible assumption) | (with_reducible refine Gx.gx ?_) | (with_reducible refine Gx.alloc ?_) | (with_reducible refine Gx.drew ?_) | (with_reducible refine Gx.drewN ?_) | (with_reducible refine Gx.setRow ?_ (by first | omega | (simp; done) | (simp <;> omega))) | (with_reducible refine Gx.setCell ?_ (by first | omega | (simp; done) | (simp <;> omega)))))⟩
          · have HR : Hid (R = I1 ++ (⟨#[46]⟩ ++ I2.extract 1 I2.size)) := Lib.hid (by rcases hR with ⟨a1, a2, a3, a4⟩ | ⟨a1, a2, a4⟩ | ⟨a1, a2, a3, a4⟩ | ⟨a1, a2, a4⟩ <;> first | exact a4 | (exfalso; omega))
            have k1 : decide (0 < (k : Int)) = true := decide_eq_true (by omega)
            have k0 : decide (0 < k) = true := decide_eq_true (by omega)
            have k3 : (W == 0) = true := by rw [beq_iff_eq]; omega
            have k4 : (P == 0) = true := by rw [beq_iff_eq]; omega
            clear hR h1 h2 hpl hW hP q1 h3
            go_wp2_with (first | go_skip | (go_at_call 77; with_reducible refine (HI1.out _ ?_).mono ?_; (focus exact (by repeat (first | (with_reducible exact Gx.refl _) | (with_reducible assumption) | (with_reducible refine Gx.gx ?_) | (with_reducible refine Gx.alloc ?_) | (with_reducible refine Gx.drew ?_) | (with_reducible refine Gx.drewN ?_) | (with_reducible refine Gx.setRow ?_ (by first | omega | (simp; done) | (simp <;> omega))) | (with_reducible refine Gx.setCell ?_ (by first | omega | (simp; done) | (simp <;> omega)))))); rintro e w' ⟨rfl, x1, rfl⟩) | (go_at_call 77; with_reducible refine (HI2.out _ ?_).mono ?_; (focus exact (by repeat (first | (with_reducible exact Gx.refl _) | (with_reducible assumption) | (with_reducible refine Gx.gx ?_) | (with_reducible refine Gx.alloc ?_) | (with_reducible refine Gx.drew ?_) | (with_reducible refine Gx.drewN ?_) | (with_reducible refine Gx.setRow ?_ (by first | omega | (simp; done) | (simp <;> omega))) | (with_reducible refine Gx.setCell ?_ (by first | omega | (simp; done) | (simp <;> omega)))))); rintro e w' ⟨rfl, x2, rfl⟩))
            go_ret
            exact ⟨by rw [HR.out]; first | rfl | (rw [← empty_app (I1 ++ (⟨#[46]⟩ ++ I2.extract 1 I2.size))]; rfl), (by repeat (first | (with_reducible exact Gx.refl _) | (with_reducible assumption) | (with_reducible refine Gx.gx ?_) | (with_reducible refine Gx.alloc ?_) | (with_reducible refine Gx.drew ?_) | (with_reducible refine Gx.drewN ?_) | (with_reducible refine Gx.setRow ?_ (by first | omega | (simp; done) | (simp <;> omega))) | (with_reducible refine Gx.setCell ?_ (by first | omega | (simp; done) | (simp <;> omega)))))⟩
end Go.Proofs.YtocaphcnnmcnjaaGreatDoor

/-
  The digits of a number: both sides are the same.
-/
namespace Go.Proofs.YtocaphcnnmcnjaaGreatDoor
open Go.RowKit
-- AT2
-- AT3

theorem Pow.on {w W : World} (h : Pow w) (hW : ∃ x, W = gx w x) : Pow W := by
  obtain ⟨x, rfl⟩ := hW
  exact ((Lib.tabBelow_of_tabIs h).on (below_gx w x)).here
theorem itoa_pos (v : Int) : 1 ≤ (Lib.itoa v).length := by
  have h : ∀ u : Nat, 1 ≤ (Lib.decDigits u).length := fun u => by
    rw [Lib.decDigits]
    split
    · simp
    · simp
  unfold Lib.itoa
  split
  · simp
  · exact h _
theorem digits_both (n den : Int) (pl : Nat) (hn : -1125899906842624 ≤ n ∧ n ≤ 1125899906842624) (hd : 1 ≤ den ∧ den ≤ 1000000) (hpl : pl ≤ 6) :
    ∃ R : ByteArray, (∀ W, Pow W → Calls Tryz.prog 52 #[.int .i64 n, .int .i64 den, .int .i64 pl] W fun e w' => e = .returned (.string R) ∧ ∃ x, w' = gx W x) ∧ (∀ W, Pow W → Calls Tryz.prog 53 #[.int .i64 n, .int .i64 den, .int .i64 pl] W fun e w' => e = .returned (.string R) ∧ ∃ x, w' = gx W x) := by
  obtain ⟨U, hUe⟩ : ∃ U, tenN pl = U := ⟨_, rfl⟩
  have hU : 1 ≤ U ∧ U ≤ 1000000 := by rw [← hUe]; exact tenN_b pl hpl
  obtain ⟨sz, hsz⟩ : ∃ sz, max n (-n) = sz := ⟨_, rfl⟩
  have hs0 : 0 ≤ sz ∧ sz ≤ 1125899906842624 := by omega
  obtain ⟨r, hr⟩ : ∃ r, sz % den = r := ⟨_, rfl⟩
  obtain ⟨w0, hw0⟩ : ∃ w0, sz / den = w0 := ⟨_, rfl⟩
  have hr0 : 0 ≤ r ∧ r < den := by rw [← hr]; exact ⟨Int.emod_nonneg _ (by omega), Int.emod_lt_of_pos _ (by omega)⟩
  have hw1 : 0 ≤ w0 ∧ w0 ≤ sz := by rw [← hw0]; exact ⟨Int.ediv_nonneg hs0.1 (by omega), Int.ediv_le_self _ hs0.1⟩
  obtain ⟨a, ha⟩ : ∃ a, r * U = a := ⟨_, rfl⟩
  have ha0 : 0 ≤ a := by rw [← ha]; exact Int.mul_nonneg hr0.1 (by omega)
  obtain ⟨D, hD⟩ : ∃ D, den * U = D := ⟨_, rfl⟩
  have ha1 : a ≤ D - U := by
    have h := Int.mul_le_mul_of_nonneg_right (show r ≤ den - 1 by omega) (show 0 ≤ U by omega)
    rw [Int.sub_mul, Int.one_mul, hD, ha] at h
    exact h
  have hD1 : D ≤ 1000000000000 := by
    have h := Int.mul_le_mul hd.2 hU.2 (show (0 : Int) ≤ U by omega) (by decide)
    rw [hD] at h
    omega
  obtain ⟨q0, hq0⟩ : ∃ q0, (a * 2 + den) / (den * 2) = q0 := ⟨_, rfl⟩
  have hq1 : 0 ≤ q0 := by rw [← hq0]; exact Int.ediv_nonneg (by omega) (by omega)
  have hq2 : q0 ≤ U := by
    have h : (a * 2 + den) / (den * 2) < U + 1 := Int.ediv_lt_of_lt_mul (by omega) (by
      have e : (U + 1) * (den * 2) = D * 2 + den * 2 := by rw [Int.add_mul, Int.one_mul, ← hD, ← Int.mul_assoc, Int.mul_comm U den]
      rw [e]
      omega)
    omega
  obtain ⟨q1, hq1e⟩ : ∃ q1, q0 / U = q1 := ⟨_, rfl⟩
  obtain ⟨P, hPe⟩ : ∃ P, q0 % U = P := ⟨_, rfl⟩
  have hcase : (q0 = U ∧ q1 = 1 ∧ P = 0) ∨ (q0 < U ∧ q1 = 0 ∧ P = q0) := by
    by_cases e : q0 = U
    · refine .inl ⟨e, ?_, ?_⟩
      · rw [← hq1e, e]; exact Int.ediv_self (by omega)
      · rw [← hPe, e]; exact Int.emod_self
    · refine .inr ⟨by omega, ?_, ?_⟩
      · rw [← hq1e]; exact Int.ediv_eq_zero_of_lt hq1 (by omega)
      · rw [← hPe]; exact Int.emod_eq_of_lt hq1 (by omega)
  obtain ⟨R, hR⟩ : ∃ R : ByteArray, (pl = 0 ∧ n < 0 ∧ (0 < w0 + q1 ∨ (w0 + q1 ≤ 0 ∧ 0 < P)) ∧ R = ⟨#[45]⟩ ++ ⟨(Lib.itoa (w0 + q1)).toArray⟩) ∨ (pl = 0 ∧ (0 ≤ n ∨ (n < 0 ∧ w0 + q1 ≤ 0 ∧ P ≤ 0)) ∧ R = ⟨(Lib.itoa (w0 + q1)).toArray⟩) ∨ (0 < pl ∧ n < 0 ∧ (0 < w0 + q1 ∨ (w0 + q1 ≤ 0 ∧ 0 < P)) ∧ R = ⟨#[45]⟩ ++ (⟨(Lib.itoa (w0 + q1)).toArray⟩ ++ (⟨#[46]⟩ ++ (⟨(Lib.itoa (U + P)).toArray⟩ : ByteArray).extract 1 (⟨(Lib.itoa (U + P)).toArray⟩ : ByteArray).size))) ∨ (0 < pl ∧ (0 ≤ n ∨ (n < 0 ∧ w0 + q1 ≤ 0 ∧ P ≤ 0)) ∧ R = ⟨(Lib.itoa (w0 + q1)).toArray⟩ ++ (⟨#[46]⟩ ++ (⟨(Lib.itoa (U + P)).toArray⟩ : ByteArray).extract 1 (⟨(Lib.itoa (U + P)).toArray⟩ : ByteArray).size)) := by
    have hs : (n < 0 ∧ (0 < w0 + q1 ∨ (w0 + q1 ≤ 0 ∧ 0 < P))) ∨ (0 ≤ n ∨ (n < 0 ∧ w0 + q1 ≤ 0 ∧ P ≤ 0)) := by omega
    by_cases hp : pl = 0
    · rcases hs with ⟨h1, h2⟩ | h1
      · exact ⟨_, .inl ⟨hp, h1, h2, rfl⟩⟩
      · exact ⟨_, .inr (.inl ⟨hp, h1, rfl⟩)⟩
    · rcases hs with ⟨h1, h2⟩ | h1
      · exact ⟨_, .inr (.inr (.inl ⟨by omega, h1, h2, rfl⟩))⟩
      · exact ⟨_, .inr (.inr (.inr ⟨by omega, h1, rfl⟩))⟩
  have T0 : Hid (tenN 0 = 1) := Lib.hid tenN_0
  have Tp : Hid (tenN pl = U) := Lib.hid hUe
  have len : ∀ v : Int, (⟨(Lib.itoa v).toArray⟩ : ByteArray).size = (Lib.itoa v).length := fun v => by
    show (Lib.itoa v).toArray.size = _
    simp
  have i1 : (⟨(Lib.itoa (w0 + q1)).toArray⟩ : ByteArray).size ≤ 100 := by rw [len]; have := Lib.itoa_length_le (w0 + q1) (by omega) (by omega); omega
  have i2 : (⟨(Lib.itoa (U + P)).toArray⟩ : ByteArray).size ≤ 100 := by rw [len]; have := Lib.itoa_length_le (U + P) (by omega) (by omega); omega
  have i3 : 1 ≤ (⟨(Lib.itoa (U + P)).toArray⟩ : ByteArray).size := by rw [len]; exact itoa_pos _
  have I1 : ∀ W, Pow W → Hid (∀ W', (∃ x, W' = gx W x) → Calls Tryz.prog 77 #[.int .i64 (w0 + q1)] W' fun e w' => e = .returned (.string ⟨(Lib.itoa (w0 + q1)).toArray⟩) ∧ ∃ x, w' = gx W' x) := fun W h => Lib.hid fun W' hW => Itoa_any _ (by omega) (by omega) W' (h.on hW)
  have I2 : ∀ W, Pow W → Hid (∀ W', (∃ x, W' = gx W x) → Calls Tryz.prog 77 #[.int .i64 (U + P)] W' fun e w' => e = .returned (.string ⟨(Lib.itoa (U + P)).toArray⟩) ∧ ∃ x, w' = gx W' x) := fun W h => Lib.hid fun W' hW => Itoa_any _ (by omega) (by omega) W' (h.on hW)
  have t1 : sz.tmod den = r := by rw [Int.tmod_eq_emod_of_nonneg hs0.1, hr]
  have t2 : sz.tdiv den = w0 := by rw [Int.tdiv_eq_ediv_of_nonneg hs0.1, hw0]
  have t3 : (a * 2 + den).tdiv (den * 2) = q0 := by rw [Int.tdiv_eq_ediv_of_nonneg (by omega), hq0]
  have t4 : q0.tdiv U = q1 := by rw [Int.tdiv_eq_ediv_of_nonneg hq1, hq1e]
  have t5 : q0.tmod U = P := by rw [Int.tmod_eq_emod_of_nonneg hq1, hPe]
  have nz : ∀ z : Int, 1 ≤ z → (z == 0) = false := fun z h => by rw [beq_eq_false_iff_ne]; omega
  have w64 : ∀ z : Int, -9223372036854775808 ≤ z → z ≤ 9223372036854775807 → IntKind.i64.wrap z = z := fun z h1 h2 => IntWalk.i64_in _ (by omega)
  refine ⟨R, fun W hW => ?_, fun W hW => ?_⟩
  · refine digits_core n den pl hpl U sz r a (a * 2) (a * 2 + den) (den * 2) q0 w0 q1 (w0 + q1) P (U + P) _ _ R W T0 Tp (w64 _ (by omega) (by omega)) hsz (nz _ hd.1) (by omega) t1 (w64 _ (by omega) (by omega)) ?_ (w64 _ (by omega) (by omega)) (w64 _ (by omega) (by omega)) (w64 _ (by omega) (by omega)) (nz _ (by omega)) (by omega) t3 (w64 _ (by omega) (by omega)) t2 (w64 _ (by omega) (by omega)) (nz _ hU.1) (by omega) t4 (w64 _ (by omega) (by omega)) (w64 _ (by omega) (by omega)) t5 (w64 _ (by omega) (by omega)) (w64 _ (by omega) (by omega)) (I1 W hW) (I2 W hW) i3 i1 i2 hR
    rw [ha]; exact w64 _ (by omega) (by omega)
  · have e1 : 2 * U * r = a * 2 := by rw [← ha, Int.mul_comm 2 U, Int.mul_comm r U, Int.mul_assoc, Int.mul_comm 2 r, ← Int.mul_assoc]
    refine rdigits_core n den pl hpl U sz r (2 * U) (a * 2) (a * 2 + den) (den * 2) q0 w0 (w0 + q1) P (U + P) _ _ R W T0 Tp hU ?_ (nz _ hd.1) (by omega) t1 (w64 _ (by omega) (by omega)) (w64 _ (by omega) (by omega)) ?_ (w64 _ (by omega) (by omega)) ?_ (nz _ (by omega)) (by omega) t3 (w64 _ (by omega) (by omega)) t2 (w64 _ (by omega) (by omega)) ?_ (by omega) (by omega) (w64 _ (by omega) (by omega)) (I1 W hW) (I2 W hW) i3 i1 i2 hR
    · by_cases h : n < 0
      · exact .inr ⟨h, by rw [w64 _ (by omega) (by omega)]; omega⟩
      · exact .inl ⟨by omega, by omega⟩
    · rw [e1]; exact w64 _ (by omega) (by omega)
    · rw [Int.mul_comm 2 den]; exact w64 _ (by omega) (by omega)
    · rcases hcase with ⟨h1, h2, h3⟩ | ⟨h1, h2, h3⟩
      · exact .inl ⟨h1, by rw [h2]; exact w64 _ (by omega) (by omega), h3, by omega⟩
      · exact .inr ⟨by omega, by omega, h3⟩
end Go.Proofs.YtocaphcnnmcnjaaGreatDoor

/-
  Comparing two numbers, and the tests of what digits are asked for: both sides.
-/
namespace Go.Proofs.YtocaphcnnmcnjaaGreatDoor
open Go.RowKit
-- AT2
-- AT3

theorem isNaN_any (a : Int) (w : World) : Calls Tryz.prog 109 #[.int .i64 a] w fun e w' => e = .returned (.bool false) ∧ w = w' := by
  go_enter Tryz.func109, Tryz.ntmps109
  go_wp2
  go_ret
  exact ⟨by simp, rfl⟩
theorem Compare_any (a b c : Int) (h : (a < b ∧ c = -1) ∨ (b < a ∧ c = 1) ∨ (a = b ∧ c = 0)) (w : World) : Calls Tryz.prog 79 #[.int .i64 a, .int .i64 b] w fun e w' => e = .returned (.int .i64 c) ∧ w = w' := by
  rcases h with ⟨h, rfl⟩ | ⟨h, rfl⟩ | ⟨rfl, rfl⟩
  · have k1 : decide (a < b) = true := decide_eq_true h
    go_enter Tryz.func79, Tryz.ntmps79
    go_wp2_with (go_at_call 109; refine (isNaN_any _ _).mono ?_; rintro e w' ⟨rfl, rfl⟩)
    go_ret
    exact ⟨rfl, rfl⟩
  · have k1 : decide (a < b) = false := decide_eq_false (by omega)
    have k2 : decide (b < a) = true := decide_eq_true h
    clear h
    go_enter Tryz.func79, Tryz.ntmps79
    go_wp2_with (go_at_call 109; refine (isNaN_any _ _).mono ?_; rintro e w' ⟨rfl, rfl⟩)
    go_ret
    exact ⟨rfl, rfl⟩
  · have k1 : decide (a < a) = false := decide_eq_false (by omega)
    go_enter Tryz.func79, Tryz.ntmps79
    go_wp2_with (go_at_call 109; refine (isNaN_any _ _).mono ?_; rintro e w' ⟨rfl, rfl⟩)
    go_ret
    exact ⟨rfl, rfl⟩
/-- Do two numbers compare so? -/
@[irreducible] def opB (op c : Int) : Bool := if op = 1 then decide (c < 0) else if op = 2 then decide (c ≤ 0) else if op = 3 then decide (c = 0) else if op = 4 then decide (c ≠ 0) else if op = 5 then decide (0 ≤ c) else decide (0 < c)
theorem evHolds_any (op c : Int) (ho : 1 ≤ op ∧ op ≤ 6) (hc : c = -1 ∨ c = 0 ∨ c = 1) (w : World) : Calls Tryz.prog 78 #[.int .i64 op, .int .i64 c] w fun e w' => e = .returned (.bool (opB op c)) ∧ w = w' := by
  have ho' : op = 1 ∨ op = 2 ∨ op = 3 ∨ op = 4 ∨ op = 5 ∨ op = 6 := by omega
  rcases ho' with rfl | rfl | rfl | rfl | rfl | rfl
  all_goals rcases hc with rfl | rfl | rfl
  all_goals
    go_enter Tryz.func78, Tryz.ntmps78
    go_wp2
    go_ret
    exact ⟨by unfold opB; rfl, rfl⟩
theorem holds_any' (op a b c : Int) (ho : 1 ≤ op ∧ op ≤ 6) (h : (a < b ∧ c = -1) ∨ (b < a ∧ c = 1) ∨ (a = b ∧ c = 0)) (w : World) : Calls Tryz.prog 55 #[.int .i64 op, .int .i64 a, .int .i64 b] w fun e w' => e = .returned (.bool (opB op c)) ∧ w = w' := by
  have H1 := Lib.hid (fun W => Compare_any a b c h W)
  have H2 := Lib.hid (fun W => evHolds_any op c ho (by omega) W)
  clear ho h
  go_enter Tryz.func55, Tryz.ntmps55
  go_wp2_with (first | (go_at_call 79; refine (H1.out _).mono ?_; rintro e w' ⟨rfl, rfl⟩) | (go_at_call 78; refine (H2.out _).mono ?_; rintro e w' ⟨rfl, rfl⟩))
  go_ret
  exact ⟨rfl, rfl⟩
set_option maxHeartbeats 1000000 in
theorem rholds_any (op a b c : Int) (ho : 1 ≤ op ∧ op ≤ 6) (h : (a < b ∧ c = -1) ∨ (b < a ∧ c = 1) ∨ (a = b ∧ c = 0)) (w : World) : Calls Tryz.prog 56 #[.int .i64 op, .int .i64 a, .int .i64 b] w fun e w' => e = .returned (.bool (opB op c)) ∧ w = w' := by
  have ho' : op = 1 ∨ op = 2 ∨ op = 3 ∨ op = 4 ∨ op = 5 ∨ op = 6 := by omega
  clear ho
  rcases h with ⟨h, rfl⟩ | ⟨h, rfl⟩ | ⟨rfl, rfl⟩
  · have k1 : decide (a < b) = true := decide_eq_true h
    have k2 : decide (b < a) = false := decide_eq_false (by omega)
    have k3 : decide (a ≤ b) = true := decide_eq_true (by omega)
    have k4 : decide (b ≤ a) = false := decide_eq_false (by omega)
    have k5 : (a == b) = false := by rw [beq_eq_false_iff_ne]; omega
    have k6 : (a != b) = true := by rw [bne, k5]; rfl
    clear h
    rcases ho' with rfl | rfl | rfl | rfl | rfl | rfl
    all_goals
      go_enter Tryz.func56, Tryz.ntmps56
      go_wp2
      go_ret
      exact ⟨by unfold opB; first | rfl | (simp [*]; done), rfl⟩
  · have k1 : decide (a < b) = false := decide_eq_false (by omega)
    have k2 : decide (b < a) = true := decide_eq_true h
    have k3 : decide (a ≤ b) = false := decide_eq_false (by omega)
    have k4 : decide (b ≤ a) = true := decide_eq_true (by omega)
    have k5 : (a == b) = false := by rw [beq_eq_false_iff_ne]; omega
    have k6 : (a != b) = true := by rw [bne, k5]; rfl
    clear h
    rcases ho' with rfl | rfl | rfl | rfl | rfl | rfl
    all_goals
      go_enter Tryz.func56, Tryz.ntmps56
      go_wp2
      go_ret
      exact ⟨by unfold opB; first | rfl | (simp [*]; done), rfl⟩
  · have k1 : decide (a < a) = false := decide_eq_false (by omega)
    have k3 : decide (a ≤ a) = true := decide_eq_true (by omega)
    rcases ho' with rfl | rfl | rfl | rfl | rfl | rfl
    all_goals
      go_enter Tryz.func56, Tryz.ntmps56
      go_wp2
      go_ret
      exact ⟨by unfold opB; first | rfl | (simp [*]; done), rfl⟩
end Go.Proofs.YtocaphcnnmcnjaaGreatDoor

/-
  The guard of stage 8: its panel is good (over the contract of CheckInstrument).
-/
namespace Go.Proofs.YtocaphcnnmcnjaaGreatDoor
open Go.RowKit
-- AT2
-- AT3

/-- The instrument of the guard. -/
abbrev inG : Value := inV 1 ⟨#[97]⟩ ⟨#[116]⟩ 1 0 0 0 none 0 0 0 0 false 0
/-- It lies at the beginning of a block. -/
structure InAt (w : World) (b : Nat) : Prop where
  c0 : w.cell? ⟨b, 0, none⟩ = some (.int .i64 1)
  c1 : w.cell? ⟨b, 1, none⟩ = some (.string ⟨#[97]⟩)
  c2 : w.cell? ⟨b, 2, none⟩ = some (.string ⟨#[116]⟩)
  c3 : w.cell? ⟨b, 3, none⟩ = some (.int .i64 1)
  c4 : w.cell? ⟨b, 4, none⟩ = some (.int .i64 0)
  c5 : w.cell? ⟨b, 5, none⟩ = some (.int .i64 0)
  c6 : w.cell? ⟨b, 6, none⟩ = some (.int .i64 0)
  c7 : w.cell? ⟨b, 7, none⟩ = some (.slice none 0 0)
  c8 : w.cell? ⟨b, 8, none⟩ = some (.int .i64 0)
  c9 : w.cell? ⟨b, 9, none⟩ = some (.int .i64 0)
  c10 : w.cell? ⟨b, 10, none⟩ = some (.bool false)
  c11 : w.cell? ⟨b, 11, none⟩ = some (.int .i64 0)
theorem InAt.on {w W : World} {b : Nat} (h : InAt w b) (hW : ∃ x, W = Go.Proofs.YtocaphcnnmcnjaaGreatDoor.gx w x) : InAt W b := by
  obtain ⟨x, rfl⟩ := hW
  exact ⟨cell_keep_gx h.c0, cell_keep_gx h.c1, cell_keep_gx h.c2, cell_keep_gx h.c3, cell_keep_gx h.c4, cell_keep_gx h.c5, cell_keep_gx h.c6, cell_keep_gx h.c7, cell_keep_gx h.c8, cell_keep_gx h.c9, cell_keep_gx h.c10, cell_keep_gx h.c11⟩
theorem ContainsIn_none (A : Option Addr) (c : Nat) (f : Value) (w : World) : Calls Tryz.prog 34 #[.slice A 0 c, f] w fun e w' => e = .returned (.bool false) ∧ ∃ x, w' = gx w x := by
  have h : ∀ w, Calls Tryz.prog 62 #[.slice A 0 c, f] w fun e w' => e = .returned (.int .i64 (-1)) ∧ ∃ x, w' = gx w x := by
    intro w
    go_enter Tryz.func62, Tryz.ntmps62
    go_wp2
    refine wp_loop_rounds 1 ?_
    rw [rounds_succ]
    go_wp2
    go_ret
    exact ⟨rfl, (by repeat (first | (with_reducible exact Gx.refl _) | (with_reducible assumption) | (with_reducible refine Gx.gx ?_) | (with_reducible refine Gx.alloc ?_) | (with_reducible refine Gx.drew ?_) | (with_reducible refine Gx.drewN ?_) | (with_reducible refine Gx.setRow ?_ (by first | omega | (simp; done) | (simp <;> omega))) | (with_reducible refine Gx.setCell ?_ (by first | omega | (simp; done) | (simp <;> omega)))))⟩
  go_enter Tryz.func34, Tryz.ntmps34
  go_wp2_with (first | (go_at_call 62; refine (h _).mono ?_; rintro e w' ⟨rfl, x, rfl⟩))
  go_ret
  exact ⟨rfl, (by repeat (first | (with_reducible exact Gx.refl _) | (with_reducible assumption) | (with_reducible refine Gx.gx ?_) | (with_reducible refine Gx.alloc ?_) | (with_reducible refine Gx.drew ?_) | (with_reducible refine Gx.drewN ?_) | (with_reducible refine Gx.setRow ?_ (by first | omega | (simp; done) | (simp <;> omega))) | (with_reducible refine Gx.setCell ?_ (by first | omega | (simp; done) | (simp <;> omega)))))⟩
set_option maxHeartbeats 1000000 in
theorem Check_one (b c : Nat) (w : World) (h : InAt w b)
    (HI : Hid (∀ W, (∃ x, W = gx w x) → Calls Tryz.prog 7 #[inG] W fun e w' => e = .returned (.int .i64 0) ∧ ∃ x, w' = gx W x)) :
    Calls Tryz.prog 11 #[.agg #[.slice (some ⟨b, 0, none⟩) 1 c]] w fun e w' => e = .returned (.int .i64 0) ∧ ∃ x, w' = gx w x := by
  have hb : b < w.heap.size := World.block_lt_of_cell? w _ h.c0
  obtain ⟨c0, c1, c2, c3, c4, c5, c6, c7, c8, c9, c10, c11⟩ := h
  go_enter Tryz.func11, Tryz.ntmps11
  go_wp2
  refine wp_loop_rounds 2 ?_
  rw [rounds_succ]
  go_wp2_with (first
    | (go_at_call 7; refine (HI.out _ (by repeat (first | (with_reducible exact Gx.refl _) | (with_reducible assumption) | (with_reducible refine Gx.gx ?_) | (with_reducible refine Gx.alloc ?_) | (with_reducible refine Gx.drew ?_) | (with_reducible refine Gx.drewN ?_) | (with_reducible refine Gx.setRow ?_ (by first | omega | (simp; done) | (simp <;> omega))) | (with_reducible refine Gx.setCell ?_ (by first | omega | (simp; done) | (simp <;> omega)))))).mono ?_; rintro e w' ⟨rfl, x1, rfl⟩)
    | (go_at_call 34; refine (ContainsIn_none _ _ _ _).mono ?_; rintro e w' ⟨rfl, x2, rfl⟩))
  rw [rounds_succ]
  go_wp2
  go_ret
  exact ⟨rfl, (by repeat (first | (with_reducible exact Gx.refl _) | (with_reducible assumption) | (with_reducible refine Gx.gx ?_) | (with_reducible refine Gx.alloc ?_) | (with_reducible refine Gx.drew ?_) | (with_reducible refine Gx.drewN ?_) | (with_reducible refine Gx.setRow ?_ (by first | omega | (simp; done) | (simp <;> omega))) | (with_reducible refine Gx.setCell ?_ (by first | omega | (simp; done) | (simp <;> omega)))))⟩
set_option maxHeartbeats 1000000 in
theorem checkBoth_one (b c bt ct : Nat) (den : Int) (A : Option Addr) (n cs : Nat) (lg : Int) (f : Nat → Sm) (w : World) (h : InAt w b) (hT : TrAt w bt 0 den A n cs lg) (hL : SmAt w f n A) (h0 : serE den f n = 0) (hl : 0 ≤ lg ∧ lg ≤ 1099511627776)
    (HI : Hid (∀ W, (∃ x, W = gx w x) → Calls Tryz.prog 7 #[inG] W fun e w' => e = .returned (.int .i64 0) ∧ ∃ x, w' = gx W x)) :
    Calls Tryz.prog 64 #[.agg #[.slice (some ⟨b, 0, none⟩) 1 c], .slice (some ⟨bt, 0, none⟩) 1 ct] w fun e w' => e = .returned (.int .i64 0) ∧ ∃ x, w' = gx w x := by
  have hb : b < w.heap.size := World.block_lt_of_cell? w _ h.c0
  have K1 := Lib.hid (fun W (hW : ∃ x, W = gx w x) => Check_one b c W (h.on hW) (Lib.hid (fun W' hW' => HI.out W' (Gx.trans hW' hW))))
  have K2 := Lib.hid (fun W (hW : ∃ x, W = gx w x) => CheckTracks_one bt ct den A n cs lg f W (hT.on hW) (by obtain ⟨x, rfl⟩ := hW; exact hL.gx) h0 hl)
  have K3 := Lib.hid (fun W (hW : ∃ x, W = gx w x) => TrackNumber_one bt ct den A n cs lg W (hT.on hW))
  obtain ⟨c0, c1, c2, c3, c4, c5, c6, c7, c8, c9, c10, c11⟩ := h
  clear HI hT
  go_enter Tryz.func64, Tryz.ntmps64
  go_wp2_with (first
    | (go_at_call 11; refine (K1.out _ (by repeat (first | (with_reducible exact Gx.refl _) | (with_reducible assumption) | (with_reducible refine Gx.gx ?_) | (with_reducible refine Gx.alloc ?_) | (with_reducible refine Gx.drew ?_) | (with_reducible refine Gx.drewN ?_) | (with_reducible refine Gx.setRow ?_ (by first | omega | (simp; done) | (simp <;> omega))) | (with_reducible refine Gx.setCell ?_ (by first | omega | (simp; done) | (simp <;> omega)))))).mono ?_; rintro e w' ⟨rfl, x1, rfl⟩)
    | (go_at_call 41; refine (K2.out _ (by repeat (first | (with_reducible exact Gx.refl _) | (with_reducible assumption) | (with_reducible refine Gx.gx ?_) | (with_reducible refine Gx.alloc ?_) | (with_reducible refine Gx.drew ?_) | (with_reducible refine Gx.drewN ?_) | (with_reducible refine Gx.setRow ?_ (by first | omega | (simp; done) | (simp <;> omega))) | (with_reducible refine Gx.setCell ?_ (by first | omega | (simp; done) | (simp <;> omega)))))).mono ?_; rintro e w' ⟨rfl, x2, rfl⟩))
  refine wp_loop_rounds 2 ?_
  rw [rounds_succ]
  go_wp2_with (first
    | (go_at_call 70; refine (K3.out _ (by repeat (first | (with_reducible exact Gx.refl _) | (with_reducible assumption) | (with_reducible refine Gx.gx ?_) | (with_reducible refine Gx.alloc ?_) | (with_reducible refine Gx.drew ?_) | (with_reducible refine Gx.drewN ?_) | (with_reducible refine Gx.setRow ?_ (by first | omega | (simp; done) | (simp <;> omega))) | (with_reducible refine Gx.setCell ?_ (by first | omega | (simp; done) | (simp <;> omega)))))).mono ?_; rintro e w' ⟨rfl, x3, rfl⟩))
  rw [rounds_succ]
  go_wp2
  go_ret
  exact ⟨rfl, (by repeat (first | (with_reducible exact Gx.refl _) | (with_reducible assumption) | (with_reducible refine Gx.gx ?_) | (with_reducible refine Gx.alloc ?_) | (with_reducible refine Gx.drew ?_) | (with_reducible refine Gx.drewN ?_) | (with_reducible refine Gx.setRow ?_ (by first | omega | (simp; done) | (simp <;> omega))) | (with_reducible refine Gx.setCell ?_ (by first | omega | (simp; done) | (simp <;> omega)))))⟩
end Go.Proofs.YtocaphcnnmcnjaaGreatDoor

/-
  strconv.Itoa of small numbers: the shelf's contract at this program.
-/
namespace Go.Proofs.YtocaphcnnmcnjaaGreatDoor
open Go.RowKit
open Go.Shelf
-- AT2
def itoaS_ren : Go.Shelf.Ren := ⟨fun | 171 => 77 | 243 => 108 | 246 => 129 | 283 => 137 | 284 => 138 | 285 => 139 | 286 => 140 | 129 => 150 | 317 => 149 | 318 => 151 | 319 => 152 | 320 => 153 | 337 => 157 | 338 => 158 | n => n, fun | 3 => 3 | 9 => 9 | 2 => 2 | 4 => 4 | 171 => 162 | 0 => 0 | 53 => 163 | 37 => 166 | 5 => 5 | 173 => 167 | 212 => 187 | 51 => 188 | 20 => 20 | 213 => 189 | 46 => 158 | 232 => 196 | 233 => 197 | n => n, fun | 17 => 2 | 18 => 4 | 19 => 5 | n => n⟩
theorem itoaS : Go.Proofs.Lays.n171 Tryz.prog itoaS_ren := {
  mixed := by kernel_rfl
  f129 := Tryz.func150.trans (congrArg some (by kernel_rfl))
  f171 := Tryz.func77.trans (congrArg some (by kernel_rfl))
  f243 := Tryz.func108.trans (congrArg some (by kernel_rfl))
  f246 := Tryz.func129.trans (congrArg some (by kernel_rfl))
  f283 := Tryz.func137.trans (congrArg some (by kernel_rfl))
  f284 := Tryz.func138.trans (congrArg some (by kernel_rfl))
  f285 := Tryz.func139.trans (congrArg some (by kernel_rfl))
  f286 := Tryz.func140.trans (congrArg some (by kernel_rfl))
  f317 := Tryz.func149.trans (congrArg some (by kernel_rfl))
  f318 := Tryz.func151.trans (congrArg some (by kernel_rfl))
  f319 := Tryz.func152.trans (congrArg some (by kernel_rfl))
  f320 := Tryz.func153.trans (congrArg some (by kernel_rfl))
  f337 := Tryz.func157.trans (congrArg some (by kernel_rfl))
  f338 := Tryz.func158.trans (congrArg some (by kernel_rfl))
  t0 := Tryz.underlying0
  a0 := Tryz.isAgg0
  z0 := Tryz.sizeOf0
  v0 := Tryz.zeroValue0
  t2 := Tryz.underlying2
  a2 := Tryz.isAgg2
  z2 := Tryz.sizeOf2
  v2 := Tryz.zeroValue2
  t3 := Tryz.underlying3
  a3 := Tryz.isAgg3
  z3 := Tryz.sizeOf3
  v3 := Tryz.zeroValue3
  t4 := Tryz.underlying4
  a4 := Tryz.isAgg4
  z4 := Tryz.sizeOf4
  v4 := Tryz.zeroValue4
  t5 := Tryz.underlying5
  a5 := Tryz.isAgg5
  z5 := Tryz.sizeOf5
  v5 := Tryz.zeroValue5
  t9 := Tryz.underlying9
  a9 := Tryz.isAgg9
  z9 := Tryz.sizeOf9
  v9 := Tryz.zeroValue9
  t20 := Tryz.underlying20
  a20 := Tryz.isAgg20
  z20 := Tryz.sizeOf20
  v20 := Tryz.zeroValue20
  t37 := Tryz.underlying166
  a37 := Tryz.isAgg166
  z37 := Tryz.sizeOf166
  v37 := Tryz.zeroValue166
  t46 := Tryz.underlying158
  a46 := Tryz.isAgg158
  z46 := Tryz.sizeOf158
  v46 := Tryz.zeroValue158
  t51 := Tryz.underlying188
  a51 := Tryz.isAgg188
  z51 := Tryz.sizeOf188
  v51 := Tryz.zeroValue188
  t53 := Tryz.underlying163
  a53 := Tryz.isAgg163
  z53 := Tryz.sizeOf163
  v53 := Tryz.zeroValue163
  t171 := Tryz.underlying162
  a171 := Tryz.isAgg162
  z171 := Tryz.sizeOf162
  v171 := Tryz.zeroValue162
  t173 := Tryz.underlying167
  a173 := Tryz.isAgg167
  z173 := Tryz.sizeOf167
  v173 := Tryz.zeroValue167
  t212 := Tryz.underlying187
  a212 := Tryz.isAgg187
  z212 := Tryz.sizeOf187
  v212 := Tryz.zeroValue187
  t213 := Tryz.underlying189
  a213 := Tryz.isAgg189
  z213 := Tryz.sizeOf189
  t232 := Tryz.underlying196
  a232 := Tryz.isAgg196
  z232 := Tryz.sizeOf196
  v232 := Tryz.zeroValue196
  t233 := Tryz.underlying197
  a233 := Tryz.isAgg197
  z233 := Tryz.sizeOf197
  v233 := Tryz.zeroValue197
  g17 := by kernel_rfl
  g18 := by kernel_rfl
  g19 := by kernel_rfl }

theorem Itoa_small (i : Nat) (hi : i < 100) (w : World) : Calls Tryz.prog 77 #[.int .i64 (i : Int)] w fun e w' => e = .returned (.string ⟨(Lib.decDigits i).toArray⟩) ∧ w' = w :=
  Go.Proofs.Any.strconv_Itoa_small itoaS i hi w
end Go.Proofs.YtocaphcnnmcnjaaGreatDoor

/-
  The guard of stage 8: the digits that it shows.
-/
namespace Go.Proofs.YtocaphcnnmcnjaaGreatDoor
open Go.RowKit
-- AT2
-- AT3

theorem Itoa_1 (w : World) : Calls Tryz.prog 77 #[.int .i64 1] w fun e w' => e = .returned (.string ⟨#[49]⟩) ∧ w = w' :=
  (Itoa_small 1 (by omega) w).mono (by rintro e w' ⟨rfl, rfl⟩; exact ⟨by simp [Lib.decDigits], rfl⟩)
theorem Itoa_15 (w : World) : Calls Tryz.prog 77 #[.int .i64 15] w fun e w' => e = .returned (.string ⟨#[49, 53]⟩) ∧ w = w' :=
  (Itoa_small 15 (by omega) w).mono (by rintro e w' ⟨rfl, rfl⟩; exact ⟨by simp [Lib.decDigits], rfl⟩)
set_option maxHeartbeats 1000000 in
theorem digits_G (w : World) : Calls Tryz.prog 52 #[.int .i64 (-3), .int .i64 2, .int .i64 1] w fun e w' => e = .returned (.string ⟨#[45, 49, 46, 53]⟩) ∧ ∃ x, w' = gx w x := by
  have hm : max (-3 : Int) 3 = 3 := by decide
  go_enter Tryz.func52, Tryz.ntmps52
  go_wp2
  refine wp_loop_rounds 2 ?_
  rw [rounds_succ]
  go_wp2
  rw [rounds_succ]
  go_wp2
  go_region
  all_goals go_wp2_with (first | (go_at_call 77; with_reducible refine (Itoa_1 _).mono ?_; rintro e w' ⟨rfl, rfl⟩) | (go_at_call 77; with_reducible refine (Itoa_15 _).mono ?_; rintro e w' ⟨rfl, rfl⟩))
  all_goals refine bodyPost_ret (v := .string ⟨#[45, 49, 46, 53]⟩) (by simp only [results, Tryz.results52, go_sem]; kernel_rfl) rfl ⟨rfl, (by repeat (first | (with_reducible exact Gx.refl _) | (with_reducible assumption) | (with_reducible refine Gx.gx ?_) | (with_reducible refine Gx.alloc ?_) | (with_reducible refine Gx.drew ?_) | (with_reducible refine Gx.drewN ?_) | (with_reducible refine Gx.setRow ?_ (by first | omega | (simp; done) | (simp <;> omega))) | (with_reducible refine Gx.setCell ?_ (by first | omega | (simp; done) | (simp <;> omega)))))⟩
end Go.Proofs.YtocaphcnnmcnjaaGreatDoor
