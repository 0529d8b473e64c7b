/-
  ratio of the reference: a wide number divided by a number, in lowest terms.
-/
import Derived.Test.YtlnbadjjgbecgaaSWide
import Derived.Test.YtlnbadjjgbecgaaSGcd
namespace Go.Proofs.Ytlnbadjjgbecgaa
open Go.RowKit
-- AT2

abbrev ratV (n d : Int) : Value := .agg #[.int .i64 n, .int .i64 d]
/-- What the walk of ratio asks of its numbers. -/
structure RatF (D H L hd q1 r g h hg l r2 dg : Nat) : Prop where
  c1 : ∀ W, Calls Try.prog 41 #[.int .u64 hd, .int .u64 L, .int .u64 D] W fun e w' => e = .returned (.tuple #[.int .u64 q1, .int .u64 r]) ∧ ∃ x, w' = gx W x
  c2 : ∀ W, Calls Try.prog 42 #[.int .i64 D, .int .i64 r] W fun e w' => e = .returned (.int .i64 g) ∧ ∃ x, w' = gx W x
  c3 : ∀ W, Calls Try.prog 41 #[.int .u64 hg, .int .u64 L, .int .u64 g] W fun e w' => e = .returned (.tuple #[.int .u64 l, .int .u64 r2]) ∧ ∃ x, w' = gx W x
  f1 : (H : Int).tmod (D : Int) = (hd : Int)
  f2 : (H : Int).tdiv (g : Int) = (h : Int)
  f3 : (H : Int).tmod (g : Int) = (hg : Int)
  f4 : (D : Int).tdiv (g : Int) = (dg : Int)
  b0 : 0 < D
  b1 : D ≤ 4611686018427387904
  b2 : 0 < g
  b3 : g ≤ D
  b4 : r < D
  b5 : hd < D
  b6 : h < 18446744073709551616
  b7 : hg < g
  b8 : dg ≤ D
set_option maxHeartbeats 4000000 in
set_option maxRecDepth 100000 in
theorem ratio_z_ok_f (D H L hd q1 r g h hg l r2 dg : Nat) (F : RatF D H L hd q1 r g h hg l r2 dg) (hz : H = 0) (hz2 : 0 < L) (hh : h = 0) (hl : l ≤ 4611686018427387904) (w : World) :
    Calls Try.prog 30 #[.agg #[.bool false, .int .u64 H, .int .u64 L], .int .i64 D] w fun e w' => e = .returned (.tuple #[ratV l dg, .bool true]) ∧ ∃ x, w' = gx w x := by
  have C1 := Lib.hid F.c1
  have C2 := Lib.hid F.c2
  have C3 := Lib.hid F.c3
  obtain ⟨_, _, _, f1, f2, f3, f4, b0, b1, b2, b3, b4, b5, b6, b7, b8⟩ := F
  have n0 : ¬ (D : Int) = 0 := by omega
  have n0' : ¬ D = 0 := by omega
  have n1 : ((D : Int) == 0) = false := by rw [beq_eq_false_iff_ne]; omega
  have n2 : ¬ (g : Int) = 0 := by omega
  have n2' : ¬ g = 0 := by omega
  have n3 : ((g : Int) == 0) = false := by rw [beq_eq_false_iff_ne]; omega
  have e1 : IntKind.u64.wrap (D : Int) = (D : Int) := Go.Proofs.Mul64.wrapN _ (by omega)
  have e2 : IntKind.u64.wrap (g : Int) = (g : Int) := Go.Proofs.Mul64.wrapN _ (by omega)
  have e3 : IntKind.u64.wrap (hd : Int) = (hd : Int) := Go.Proofs.Mul64.wrapN _ (by omega)
  have e4 : IntKind.u64.wrap (h : Int) = (h : Int) := Go.Proofs.Mul64.wrapN _ (by omega)
  have e5 : IntKind.u64.wrap (hg : Int) = (hg : Int) := Go.Proofs.Mul64.wrapN _ (by omega)
  have e6 : IntKind.i64.wrap (r : Int) = (r : Int) := by rw [IntKind.wrap_i64]; omega
  have e7 : IntKind.i64.wrap (dg : Int) = (dg : Int) := by rw [IntKind.wrap_i64]; omega
  have t3 : decide (4611686018427387904 < (dg : Int)) = false := decide_eq_false (by omega)
  have t3n : decide (4611686018427387904 < dg) = false := decide_eq_false (by omega)
  have z1 : ((H : Int) == 0) = true := beq_iff_eq.2 (by omega)
  have z1b : ((H : Int) != 0) = false := by simp; omega
  have z1n : (H == 0) = true := beq_iff_eq.2 (by omega)
  have z2 : ((L : Int) == 0) = false := by rw [beq_eq_false_iff_ne]; omega
  have z2b : ((L : Int) != 0) = true := by simp; omega
  have z2n : (L == 0) = false := by rw [beq_eq_false_iff_ne]; omega
  have z2m : ¬ L = 0 := by omega
  have z2i : ¬ (L : Int) = 0 := by omega
  have y1 : ((h : Int) == 0) = true := beq_iff_eq.2 (by omega)
  have y1b : ((h : Int) != 0) = false := by simp; omega
  have y1n : (h == 0) = true := beq_iff_eq.2 (by omega)
  have t2 : decide (4611686018427387904 < (l : Int)) = false := decide_eq_false (by omega)
  have t2n : decide (4611686018427387904 < l) = false := decide_eq_false (by omega)
  have e8 : IntKind.i64.wrap (l : Int) = (l : Int) := by rw [IntKind.wrap_i64]; omega
  have e9 : IntKind.i64.wrap (-(l : Int)) = -(l : Int) := by rw [IntKind.wrap_i64]; omega
  clear hh hl hz

  clear b0 b1 b2 b3 b4 b5 b6 b7 b8
  go_enter Try.func30, Try.ntmps30
  go_wp2
  refine region_gx (by kernel_rfl) (by kernel_rfl) ?_
  repeat (any_goals (first | (refine quiet_fr rfl _ rfl _ rfl ?_ ?_ ?_ ?_; rotate_left; (focus (rintro _ ⟨x, rfl⟩; (focus (repeat (first | (with_reducible assumption) | (with_reducible exact At.new _ _) | (with_reducible refine At.row ?_) | (with_reducible refine At.app ?_) | (with_reducible refine At.tick ?_) | (with_reducible refine At.gx ?_) | ((with_reducible refine At.new' ?_); focus (simp; done)) | (with_reducible refine At.alloc ?_) | (with_reducible refine At.drew ?_) | (with_reducible exact Is.new _ _ _) | (with_reducible refine Is.row ?_) | (with_reducible refine Is.gx ?_) | ((with_reducible refine Is.new' ?_); focus (simp; done)) | (with_reducible refine Is.alloc ?_) | (with_reducible refine Is.drew ?_)))))); (focus (with_reducible (first | exact hl | exact hl1 | exact hl2 | exact hl3 | exact hl4 | exact zeroF_len)))) | go_big_quiet_step ((first | (go_at_call 41; exact calls_gx (C1.out _)))) | quiet_step ((first | (go_at_call 41; exact calls_gx (C1.out _))))))
  refine wpQuiet_nil ?_
  rintro _ ⟨x, rfl⟩
  go_wp2_with (go_at_call 42; refine (C2.out _).mono ?_; rintro e w' ⟨rfl, x2, rfl⟩)
  first | (with_reducible refine region_gxx (by kernel_rfl) (by kernel_rfl) ?_) | (with_reducible refine region_gx (by kernel_rfl) (by kernel_rfl) ?_)
  repeat (any_goals (first | (refine quiet_fr rfl _ rfl _ rfl ?_ ?_ ?_ ?_; rotate_left; (focus (rintro _ ⟨x, rfl⟩; (focus (repeat (first | (with_reducible assumption) | (with_reducible exact At.new _ _) | (with_reducible refine At.row ?_) | (with_reducible refine At.app ?_) | (with_reducible refine At.tick ?_) | (with_reducible refine At.gx ?_) | ((with_reducible refine At.new' ?_); focus (simp; done)) | (with_reducible refine At.alloc ?_) | (with_reducible refine At.drew ?_) | (with_reducible exact Is.new _ _ _) | (with_reducible refine Is.row ?_) | (with_reducible refine Is.gx ?_) | ((with_reducible refine Is.new' ?_); focus (simp; done)) | (with_reducible refine Is.alloc ?_) | (with_reducible refine Is.drew ?_)))))); (focus (with_reducible (first | exact hl | exact hl1 | exact hl2 | exact hl3 | exact hl4 | exact zeroF_len)))) | go_big_quiet_step ((first | (go_at_call 41; exact calls_gx (C3.out _)))) | quiet_step ((first | (go_at_call 41; exact calls_gx (C3.out _))))))
  refine wpQuiet_nil ?_
  rintro _ ⟨x, rfl⟩
  go_wp2
  exact bodyPost_ret (v := .tuple #[ratV l dg, .bool true]) (by simp [results, Try.results30, go_sem]) rfl ⟨rfl, (by repeat (first | (with_reducible exact Gx.refl _) | (with_reducible assumption) | (with_reducible refine Gx.gx ?_) | (with_reducible refine Gx.alloc ?_) | (with_reducible refine Gx.drew ?_) | (with_reducible refine Gx.drewN ?_) | (with_reducible refine Gx.setRow ?_ (by simp)) | (with_reducible refine Gx.setCell ?_ (by simp))))⟩
set_option maxHeartbeats 4000000 in
set_option maxRecDepth 100000 in
theorem ratio_z_ok_t (D H L hd q1 r g h hg l r2 dg : Nat) (F : RatF D H L hd q1 r g h hg l r2 dg) (hz : H = 0) (hz2 : 0 < L) (hh : h = 0) (hl : l ≤ 4611686018427387904) (w : World) :
    Calls Try.prog 30 #[.agg #[.bool true, .int .u64 H, .int .u64 L], .int .i64 D] w fun e w' => e = .returned (.tuple #[ratV (-(l : Int)) dg, .bool true]) ∧ ∃ x, w' = gx w x := by
  have C1 := Lib.hid F.c1
  have C2 := Lib.hid F.c2
  have C3 := Lib.hid F.c3
  obtain ⟨_, _, _, f1, f2, f3, f4, b0, b1, b2, b3, b4, b5, b6, b7, b8⟩ := F
  have n0 : ¬ (D : Int) = 0 := by omega
  have n0' : ¬ D = 0 := by omega
  have n1 : ((D : Int) == 0) = false := by rw [beq_eq_false_iff_ne]; omega
  have n2 : ¬ (g : Int) = 0 := by omega
  have n2' : ¬ g = 0 := by omega
  have n3 : ((g : Int) == 0) = false := by rw [beq_eq_false_iff_ne]; omega
  have e1 : IntKind.u64.wrap (D : Int) = (D : Int) := Go.Proofs.Mul64.wrapN _ (by omega)
  have e2 : IntKind.u64.wrap (g : Int) = (g : Int) := Go.Proofs.Mul64.wrapN _ (by omega)
  have e3 : IntKind.u64.wrap (hd : Int) = (hd : Int) := Go.Proofs.Mul64.wrapN _ (by omega)
  have e4 : IntKind.u64.wrap (h : Int) = (h : Int) := Go.Proofs.Mul64.wrapN _ (by omega)
  have e5 : IntKind.u64.wrap (hg : Int) = (hg : Int) := Go.Proofs.Mul64.wrapN _ (by omega)
  have e6 : IntKind.i64.wrap (r : Int) = (r : Int) := by rw [IntKind.wrap_i64]; omega
  have e7 : IntKind.i64.wrap (dg : Int) = (dg : Int) := by rw [IntKind.wrap_i64]; omega
  have t3 : decide (4611686018427387904 < (dg : Int)) = false := decide_eq_false (by omega)
  have t3n : decide (4611686018427387904 < dg) = false := decide_eq_false (by omega)
  have z1 : ((H : Int) == 0) = true := beq_iff_eq.2 (by omega)
  have z1b : ((H : Int) != 0) = false := by simp; omega
  have z1n : (H == 0) = true := beq_iff_eq.2 (by omega)
  have z2 : ((L : Int) == 0) = false := by rw [beq_eq_false_iff_ne]; omega
  have z2b : ((L : Int) != 0) = true := by simp; omega
  have z2n : (L == 0) = false := by rw [beq_eq_false_iff_ne]; omega
  have z2m : ¬ L = 0 := by omega
  have z2i : ¬ (L : Int) = 0 := by omega
  have y1 : ((h : Int) == 0) = true := beq_iff_eq.2 (by omega)
  have y1b : ((h : Int) != 0) = false := by simp; omega
  have y1n : (h == 0) = true := beq_iff_eq.2 (by omega)
  have t2 : decide (4611686018427387904 < (l : Int)) = false := decide_eq_false (by omega)
  have t2n : decide (4611686018427387904 < l) = false := decide_eq_false (by omega)
  have e8 : IntKind.i64.wrap (l : Int) = (l : Int) := by rw [IntKind.wrap_i64]; omega
  have e9 : IntKind.i64.wrap (-(l : Int)) = -(l : Int) := by rw [IntKind.wrap_i64]; omega
  clear hh hl hz

  clear b0 b1 b2 b3 b4 b5 b6 b7 b8
  go_enter Try.func30, Try.ntmps30
  go_wp2
  refine region_gx (by kernel_rfl) (by kernel_rfl) ?_
  repeat (any_goals (first | (refine quiet_fr rfl _ rfl _ rfl ?_ ?_ ?_ ?_; rotate_left; (focus (rintro _ ⟨x, rfl⟩; (focus (repeat (first | (with_reducible assumption) | (with_reducible exact At.new _ _) | (with_reducible refine At.row ?_) | (with_reducible refine At.app ?_) | (with_reducible refine At.tick ?_) | (with_reducible refine At.gx ?_) | ((with_reducible refine At.new' ?_); focus (simp; done)) | (with_reducible refine At.alloc ?_) | (with_reducible refine At.drew ?_) | (with_reducible exact Is.new _ _ _) | (with_reducible refine Is.row ?_) | (with_reducible refine Is.gx ?_) | ((with_reducible refine Is.new' ?_); focus (simp; done)) | (with_reducible refine Is.alloc ?_) | (with_reducible refine Is.drew ?_)))))); (focus (with_reducible (first | exact hl | exact hl1 | exact hl2 | exact hl3 | exact hl4 | exact zeroF_len)))) | go_big_quiet_step ((first | (go_at_call 41; exact calls_gx (C1.out _)))) | quiet_step ((first | (go_at_call 41; exact calls_gx (C1.out _))))))
  refine wpQuiet_nil ?_
  rintro _ ⟨x, rfl⟩
  go_wp2_with (go_at_call 42; refine (C2.out _).mono ?_; rintro e w' ⟨rfl, x2, rfl⟩)
  first | (with_reducible refine region_gxx (by kernel_rfl) (by kernel_rfl) ?_) | (with_reducible refine region_gx (by kernel_rfl) (by kernel_rfl) ?_)
  repeat (any_goals (first | (refine quiet_fr rfl _ rfl _ rfl ?_ ?_ ?_ ?_; rotate_left; (focus (rintro _ ⟨x, rfl⟩; (focus (repeat (first | (with_reducible assumption) | (with_reducible exact At.new _ _) | (with_reducible refine At.row ?_) | (with_reducible refine At.app ?_) | (with_reducible refine At.tick ?_) | (with_reducible refine At.gx ?_) | ((with_reducible refine At.new' ?_); focus (simp; done)) | (with_reducible refine At.alloc ?_) | (with_reducible refine At.drew ?_) | (with_reducible exact Is.new _ _ _) | (with_reducible refine Is.row ?_) | (with_reducible refine Is.gx ?_) | ((with_reducible refine Is.new' ?_); focus (simp; done)) | (with_reducible refine Is.alloc ?_) | (with_reducible refine Is.drew ?_)))))); (focus (with_reducible (first | exact hl | exact hl1 | exact hl2 | exact hl3 | exact hl4 | exact zeroF_len)))) | go_big_quiet_step ((first | (go_at_call 41; exact calls_gx (C3.out _)))) | quiet_step ((first | (go_at_call 41; exact calls_gx (C3.out _))))))
  refine wpQuiet_nil ?_
  rintro _ ⟨x, rfl⟩
  go_wp2
  exact bodyPost_ret (v := .tuple #[ratV (-(l : Int)) dg, .bool true]) (by simp [results, Try.results30, go_sem]) rfl ⟨rfl, (by repeat (first | (with_reducible exact Gx.refl _) | (with_reducible assumption) | (with_reducible refine Gx.gx ?_) | (with_reducible refine Gx.alloc ?_) | (with_reducible refine Gx.drew ?_) | (with_reducible refine Gx.drewN ?_) | (with_reducible refine Gx.setRow ?_ (by simp)) | (with_reducible refine Gx.setCell ?_ (by simp))))⟩
set_option maxHeartbeats 4000000 in
set_option maxRecDepth 100000 in
theorem ratio_z_big (neg : Bool) (D H L hd q1 r g h hg l r2 dg : Nat) (F : RatF D H L hd q1 r g h hg l r2 dg) (hz : H = 0) (hz2 : 0 < L) (hh : h = 0) (hl : 4611686018427387904 < l) (w : World) :
    Calls Try.prog 30 #[.agg #[.bool neg, .int .u64 H, .int .u64 L], .int .i64 D] w fun e w' => e = .returned (.tuple #[ratV 0 0, .bool false]) ∧ ∃ x, w' = gx w x := by
  have C1 := Lib.hid F.c1
  have C2 := Lib.hid F.c2
  have C3 := Lib.hid F.c3
  obtain ⟨_, _, _, f1, f2, f3, f4, b0, b1, b2, b3, b4, b5, b6, b7, b8⟩ := F
  have n0 : ¬ (D : Int) = 0 := by omega
  have n0' : ¬ D = 0 := by omega
  have n1 : ((D : Int) == 0) = false := by rw [beq_eq_false_iff_ne]; omega
  have n2 : ¬ (g : Int) = 0 := by omega
  have n2' : ¬ g = 0 := by omega
  have n3 : ((g : Int) == 0) = false := by rw [beq_eq_false_iff_ne]; omega
  have e1 : IntKind.u64.wrap (D : Int) = (D : Int) := Go.Proofs.Mul64.wrapN _ (by omega)
  have e2 : IntKind.u64.wrap (g : Int) = (g : Int) := Go.Proofs.Mul64.wrapN _ (by omega)
  have e3 : IntKind.u64.wrap (hd : Int) = (hd : Int) := Go.Proofs.Mul64.wrapN _ (by omega)
  have e4 : IntKind.u64.wrap (h : Int) = (h : Int) := Go.Proofs.Mul64.wrapN _ (by omega)
  have e5 : IntKind.u64.wrap (hg : Int) = (hg : Int) := Go.Proofs.Mul64.wrapN _ (by omega)
  have e6 : IntKind.i64.wrap (r : Int) = (r : Int) := by rw [IntKind.wrap_i64]; omega
  have e7 : IntKind.i64.wrap (dg : Int) = (dg : Int) := by rw [IntKind.wrap_i64]; omega
  have t3 : decide (4611686018427387904 < (dg : Int)) = false := decide_eq_false (by omega)
  have t3n : decide (4611686018427387904 < dg) = false := decide_eq_false (by omega)
  have z1 : ((H : Int) == 0) = true := beq_iff_eq.2 (by omega)
  have z1b : ((H : Int) != 0) = false := by simp; omega
  have z1n : (H == 0) = true := beq_iff_eq.2 (by omega)
  have z2 : ((L : Int) == 0) = false := by rw [beq_eq_false_iff_ne]; omega
  have z2b : ((L : Int) != 0) = true := by simp; omega
  have z2n : (L == 0) = false := by rw [beq_eq_false_iff_ne]; omega
  have z2m : ¬ L = 0 := by omega
  have z2i : ¬ (L : Int) = 0 := by omega
  have y1 : ((h : Int) == 0) = true := beq_iff_eq.2 (by omega)
  have y1b : ((h : Int) != 0) = false := by simp; omega
  have y1n : (h == 0) = true := beq_iff_eq.2 (by omega)
  have t2 : decide (4611686018427387904 < (l : Int)) = true := decide_eq_true (by omega)
  have t2n : decide (4611686018427387904 < l) = true := decide_eq_true (by omega)
  clear hh hl hz

  clear b0 b1 b2 b3 b4 b5 b6 b7 b8
  go_enter Try.func30, Try.ntmps30
  go_wp2
  refine region_gx (by kernel_rfl) (by kernel_rfl) ?_
  repeat (any_goals (first | (refine quiet_fr rfl _ rfl _ rfl ?_ ?_ ?_ ?_; rotate_left; (focus (rintro _ ⟨x, rfl⟩; (focus (repeat (first | (with_reducible assumption) | (with_reducible exact At.new _ _) | (with_reducible refine At.row ?_) | (with_reducible refine At.app ?_) | (with_reducible refine At.tick ?_) | (with_reducible refine At.gx ?_) | ((with_reducible refine At.new' ?_); focus (simp; done)) | (with_reducible refine At.alloc ?_) | (with_reducible refine At.drew ?_) | (with_reducible exact Is.new _ _ _) | (with_reducible refine Is.row ?_) | (with_reducible refine Is.gx ?_) | ((with_reducible refine Is.new' ?_); focus (simp; done)) | (with_reducible refine Is.alloc ?_) | (with_reducible refine Is.drew ?_)))))); (focus (with_reducible (first | exact hl | exact hl1 | exact hl2 | exact hl3 | exact hl4 | exact zeroF_len)))) | go_big_quiet_step ((first | (go_at_call 41; exact calls_gx (C1.out _)))) | quiet_step ((first | (go_at_call 41; exact calls_gx (C1.out _))))))
  refine wpQuiet_nil ?_
  rintro _ ⟨x, rfl⟩
  go_wp2_with (go_at_call 42; refine (C2.out _).mono ?_; rintro e w' ⟨rfl, x2, rfl⟩)
  first | (with_reducible refine region_gxx (by kernel_rfl) (by kernel_rfl) ?_) | (with_reducible refine region_gx (by kernel_rfl) (by kernel_rfl) ?_)
  repeat (any_goals (first | (refine quiet_fr rfl _ rfl _ rfl ?_ ?_ ?_ ?_; rotate_left; (focus (rintro _ ⟨x, rfl⟩; (focus (repeat (first | (with_reducible assumption) | (with_reducible exact At.new _ _) | (with_reducible refine At.row ?_) | (with_reducible refine At.app ?_) | (with_reducible refine At.tick ?_) | (with_reducible refine At.gx ?_) | ((with_reducible refine At.new' ?_); focus (simp; done)) | (with_reducible refine At.alloc ?_) | (with_reducible refine At.drew ?_) | (with_reducible exact Is.new _ _ _) | (with_reducible refine Is.row ?_) | (with_reducible refine Is.gx ?_) | ((with_reducible refine Is.new' ?_); focus (simp; done)) | (with_reducible refine Is.alloc ?_) | (with_reducible refine Is.drew ?_)))))); (focus (with_reducible (first | exact hl | exact hl1 | exact hl2 | exact hl3 | exact hl4 | exact zeroF_len)))) | go_big_quiet_step ((first | (go_at_call 41; exact calls_gx (C3.out _)))) | quiet_step ((first | (go_at_call 41; exact calls_gx (C3.out _))))))
  refine wpQuiet_nil ?_
  rintro _ ⟨x, rfl⟩
  go_wp2
  exact bodyPost_ret (v := .tuple #[ratV 0 0, .bool false]) (by simp [results, Try.results30, go_sem]) rfl ⟨rfl, (by repeat (first | (with_reducible exact Gx.refl _) | (with_reducible assumption) | (with_reducible refine Gx.gx ?_) | (with_reducible refine Gx.alloc ?_) | (with_reducible refine Gx.drew ?_) | (with_reducible refine Gx.drewN ?_) | (with_reducible refine Gx.setRow ?_ (by simp)) | (with_reducible refine Gx.setCell ?_ (by simp))))⟩
set_option maxHeartbeats 4000000 in
set_option maxRecDepth 100000 in
theorem ratio_p_ok_f (D H L hd q1 r g h hg l r2 dg : Nat) (F : RatF D H L hd q1 r g h hg l r2 dg) (hz : 0 < H) (hh : h = 0) (hl : l ≤ 4611686018427387904) (w : World) :
    Calls Try.prog 30 #[.agg #[.bool false, .int .u64 H, .int .u64 L], .int .i64 D] w fun e w' => e = .returned (.tuple #[ratV l dg, .bool true]) ∧ ∃ x, w' = gx w x := by
  have C1 := Lib.hid F.c1
  have C2 := Lib.hid F.c2
  have C3 := Lib.hid F.c3
  obtain ⟨_, _, _, f1, f2, f3, f4, b0, b1, b2, b3, b4, b5, b6, b7, b8⟩ := F
  have n0 : ¬ (D : Int) = 0 := by omega
  have n0' : ¬ D = 0 := by omega
  have n1 : ((D : Int) == 0) = false := by rw [beq_eq_false_iff_ne]; omega
  have n2 : ¬ (g : Int) = 0 := by omega
  have n2' : ¬ g = 0 := by omega
  have n3 : ((g : Int) == 0) = false := by rw [beq_eq_false_iff_ne]; omega
  have e1 : IntKind.u64.wrap (D : Int) = (D : Int) := Go.Proofs.Mul64.wrapN _ (by omega)
  have e2 : IntKind.u64.wrap (g : Int) = (g : Int) := Go.Proofs.Mul64.wrapN _ (by omega)
  have e3 : IntKind.u64.wrap (hd : Int) = (hd : Int) := Go.Proofs.Mul64.wrapN _ (by omega)
  have e4 : IntKind.u64.wrap (h : Int) = (h : Int) := Go.Proofs.Mul64.wrapN _ (by omega)
  have e5 : IntKind.u64.wrap (hg : Int) = (hg : Int) := Go.Proofs.Mul64.wrapN _ (by omega)
  have e6 : IntKind.i64.wrap (r : Int) = (r : Int) := by rw [IntKind.wrap_i64]; omega
  have e7 : IntKind.i64.wrap (dg : Int) = (dg : Int) := by rw [IntKind.wrap_i64]; omega
  have t3 : decide (4611686018427387904 < (dg : Int)) = false := decide_eq_false (by omega)
  have t3n : decide (4611686018427387904 < dg) = false := decide_eq_false (by omega)
  have z1 : ((H : Int) == 0) = false := by rw [beq_eq_false_iff_ne]; omega
  have z1b : ((H : Int) != 0) = true := by simp; omega
  have z1n : (H == 0) = false := by rw [beq_eq_false_iff_ne]; omega
  have z1m : ¬ H = 0 := by omega
  have z1i : ¬ (H : Int) = 0 := by omega
  have y1 : ((h : Int) == 0) = true := beq_iff_eq.2 (by omega)
  have y1b : ((h : Int) != 0) = false := by simp; omega
  have y1n : (h == 0) = true := beq_iff_eq.2 (by omega)
  have t2 : decide (4611686018427387904 < (l : Int)) = false := decide_eq_false (by omega)
  have t2n : decide (4611686018427387904 < l) = false := decide_eq_false (by omega)
  have e8 : IntKind.i64.wrap (l : Int) = (l : Int) := by rw [IntKind.wrap_i64]; omega
  have e9 : IntKind.i64.wrap (-(l : Int)) = -(l : Int) := by rw [IntKind.wrap_i64]; omega
  clear hh hl hz

  clear b0 b1 b2 b3 b4 b5 b6 b7 b8
  go_enter Try.func30, Try.ntmps30
  go_wp2
  refine region_gx (by kernel_rfl) (by kernel_rfl) ?_
  repeat (any_goals (first | (refine quiet_fr rfl _ rfl _ rfl ?_ ?_ ?_ ?_; rotate_left; (focus (rintro _ ⟨x, rfl⟩; (focus (repeat (first | (with_reducible assumption) | (with_reducible exact At.new _ _) | (with_reducible refine At.row ?_) | (with_reducible refine At.app ?_) | (with_reducible refine At.tick ?_) | (with_reducible refine At.gx ?_) | ((with_reducible refine At.new' ?_); focus (simp; done)) | (with_reducible refine At.alloc ?_) | (with_reducible refine At.drew ?_) | (with_reducible exact Is.new _ _ _) | (with_reducible refine Is.row ?_) | (with_reducible refine Is.gx ?_) | ((with_reducible refine Is.new' ?_); focus (simp; done)) | (with_reducible refine Is.alloc ?_) | (with_reducible refine Is.drew ?_)))))); (focus (with_reducible (first | exact hl | exact hl1 | exact hl2 | exact hl3 | exact hl4 | exact zeroF_len)))) | go_big_quiet_step ((first | (go_at_call 41; exact calls_gx (C1.out _)))) | quiet_step ((first | (go_at_call 41; exact calls_gx (C1.out _))))))
  refine wpQuiet_nil ?_
  rintro _ ⟨x, rfl⟩
  go_wp2_with (go_at_call 42; refine (C2.out _).mono ?_; rintro e w' ⟨rfl, x2, rfl⟩)
  first | (with_reducible refine region_gxx (by kernel_rfl) (by kernel_rfl) ?_) | (with_reducible refine region_gx (by kernel_rfl) (by kernel_rfl) ?_)
  repeat (any_goals (first | (refine quiet_fr rfl _ rfl _ rfl ?_ ?_ ?_ ?_; rotate_left; (focus (rintro _ ⟨x, rfl⟩; (focus (repeat (first | (with_reducible assumption) | (with_reducible exact At.new _ _) | (with_reducible refine At.row ?_) | (with_reducible refine At.app ?_) | (with_reducible refine At.tick ?_) | (with_reducible refine At.gx ?_) | ((with_reducible refine At.new' ?_); focus (simp; done)) | (with_reducible refine At.alloc ?_) | (with_reducible refine At.drew ?_) | (with_reducible exact Is.new _ _ _) | (with_reducible refine Is.row ?_) | (with_reducible refine Is.gx ?_) | ((with_reducible refine Is.new' ?_); focus (simp; done)) | (with_reducible refine Is.alloc ?_) | (with_reducible refine Is.drew ?_)))))); (focus (with_reducible (first | exact hl | exact hl1 | exact hl2 | exact hl3 | exact hl4 | exact zeroF_len)))) | go_big_quiet_step ((first | (go_at_call 41; exact calls_gx (C3.out _)))) | quiet_step ((first | (go_at_call 41; exact calls_gx (C3.out _))))))
  refine wpQuiet_nil ?_
  rintro _ ⟨x, rfl⟩
  go_wp2
  exact bodyPost_ret (v := .tuple #[ratV l dg, .bool true]) (by simp [results, Try.results30, go_sem]) rfl ⟨rfl, (by repeat (first | (with_reducible exact Gx.refl _) | (with_reducible assumption) | (with_reducible refine Gx.gx ?_) | (with_reducible refine Gx.alloc ?_) | (with_reducible refine Gx.drew ?_) | (with_reducible refine Gx.drewN ?_) | (with_reducible refine Gx.setRow ?_ (by simp)) | (with_reducible refine Gx.setCell ?_ (by simp))))⟩
set_option maxHeartbeats 4000000 in
set_option maxRecDepth 100000 in
theorem ratio_p_ok_t (D H L hd q1 r g h hg l r2 dg : Nat) (F : RatF D H L hd q1 r g h hg l r2 dg) (hz : 0 < H) (hh : h = 0) (hl : l ≤ 4611686018427387904) (w : World) :
    Calls Try.prog 30 #[.agg #[.bool true, .int .u64 H, .int .u64 L], .int .i64 D] w fun e w' => e = .returned (.tuple #[ratV (-(l : Int)) dg, .bool true]) ∧ ∃ x, w' = gx w x := by
  have C1 := Lib.hid F.c1
  have C2 := Lib.hid F.c2
  have C3 := Lib.hid F.c3
  obtain ⟨_, _, _, f1, f2, f3, f4, b0, b1, b2, b3, b4, b5, b6, b7, b8⟩ := F
  have n0 : ¬ (D : Int) = 0 := by omega
  have n0' : ¬ D = 0 := by omega
  have n1 : ((D : Int) == 0) = false := by rw [beq_eq_false_iff_ne]; omega
  have n2 : ¬ (g : Int) = 0 := by omega
  have n2' : ¬ g = 0 := by omega
  have n3 : ((g : Int) == 0) = false := by rw [beq_eq_false_iff_ne]; omega
  have e1 : IntKind.u64.wrap (D : Int) = (D : Int) := Go.Proofs.Mul64.wrapN _ (by omega)
  have e2 : IntKind.u64.wrap (g : Int) = (g : Int) := Go.Proofs.Mul64.wrapN _ (by omega)
  have e3 : IntKind.u64.wrap (hd : Int) = (hd : Int) := Go.Proofs.Mul64.wrapN _ (by omega)
  have e4 : IntKind.u64.wrap (h : Int) = (h : Int) := Go.Proofs.Mul64.wrapN _ (by omega)
  have e5 : IntKind.u64.wrap (hg : Int) = (hg : Int) := Go.Proofs.Mul64.wrapN _ (by omega)
  have e6 : IntKind.i64.wrap (r : Int) = (r : Int) := by rw [IntKind.wrap_i64]; omega
  have e7 : IntKind.i64.wrap (dg : Int) = (dg : Int) := by rw [IntKind.wrap_i64]; omega
  have t3 : decide (4611686018427387904 < (dg : Int)) = false := decide_eq_false (by omega)
  have t3n : decide (4611686018427387904 < dg) = false := decide_eq_false (by omega)
  have z1 : ((H : Int) == 0) = false := by rw [beq_eq_false_iff_ne]; omega
  have z1b : ((H : Int) != 0) = true := by simp; omega
  have z1n : (H == 0) = false := by rw [beq_eq_false_iff_ne]; omega
  have z1m : ¬ H = 0 := by omega
  have z1i : ¬ (H : Int) = 0 := by omega
  have y1 : ((h : Int) == 0) = true := beq_iff_eq.2 (by omega)
  have y1b : ((h : Int) != 0) = false := by simp; omega
  have y1n : (h == 0) = true := beq_iff_eq.2 (by omega)
  have t2 : decide (4611686018427387904 < (l : Int)) = false := decide_eq_false (by omega)
  have t2n : decide (4611686018427387904 < l) = false := decide_eq_false (by omega)
  have e8 : IntKind.i64.wrap (l : Int) = (l : Int) := by rw [IntKind.wrap_i64]; omega
  have e9 : IntKind.i64.wrap (-(l : Int)) = -(l : Int) := by rw [IntKind.wrap_i64]; omega
  clear hh hl hz

  clear b0 b1 b2 b3 b4 b5 b6 b7 b8
  go_enter Try.func30, Try.ntmps30
  go_wp2
  refine region_gx (by kernel_rfl) (by kernel_rfl) ?_
  repeat (any_goals (first | (refine quiet_fr rfl _ rfl _ rfl ?_ ?_ ?_ ?_; rotate_left; (focus (rintro _ ⟨x, rfl⟩; (focus (repeat (first | (with_reducible assumption) | (with_reducible exact At.new _ _) | (with_reducible refine At.row ?_) | (with_reducible refine At.app ?_) | (with_reducible refine At.tick ?_) | (with_reducible refine At.gx ?_) | ((with_reducible refine At.new' ?_); focus (simp; done)) | (with_reducible refine At.alloc ?_) | (with_reducible refine At.drew ?_) | (with_reducible exact Is.new _ _ _) | (with_reducible refine Is.row ?_) | (with_reducible refine Is.gx ?_) | ((with_reducible refine Is.new' ?_); focus (simp; done)) | (with_reducible refine Is.alloc ?_) | (with_reducible refine Is.drew ?_)))))); (focus (with_reducible (first | exact hl | exact hl1 | exact hl2 | exact hl3 | exact hl4 | exact zeroF_len)))) | go_big_quiet_step ((first | (go_at_call 41; exact calls_gx (C1.out _)))) | quiet_step ((first | (go_at_call 41; exact calls_gx (C1.out _))))))
  refine wpQuiet_nil ?_
  rintro _ ⟨x, rfl⟩
  go_wp2_with (go_at_call 42; refine (C2.out _).mono ?_; rintro e w' ⟨rfl, x2, rfl⟩)
  first | (with_reducible refine region_gxx (by kernel_rfl) (by kernel_rfl) ?_) | (with_reducible refine region_gx (by kernel_rfl) (by kernel_rfl) ?_)
  repeat (any_goals (first | (refine quiet_fr rfl _ rfl _ rfl ?_ ?_ ?_ ?_; rotate_left; (focus (rintro _ ⟨x, rfl⟩; (focus (repeat (first | (with_reducible assumption) | (with_reducible exact At.new _ _) | (with_reducible refine At.row ?_) | (with_reducible refine At.app ?_) | (with_reducible refine At.tick ?_) | (with_reducible refine At.gx ?_) | ((with_reducible refine At.new' ?_); focus (simp; done)) | (with_reducible refine At.alloc ?_) | (with_reducible refine At.drew ?_) | (with_reducible exact Is.new _ _ _) | (with_reducible refine Is.row ?_) | (with_reducible refine Is.gx ?_) | ((with_reducible refine Is.new' ?_); focus (simp; done)) | (with_reducible refine Is.alloc ?_) | (with_reducible refine Is.drew ?_)))))); (focus (with_reducible (first | exact hl | exact hl1 | exact hl2 | exact hl3 | exact hl4 | exact zeroF_len)))) | go_big_quiet_step ((first | (go_at_call 41; exact calls_gx (C3.out _)))) | quiet_step ((first | (go_at_call 41; exact calls_gx (C3.out _))))))
  refine wpQuiet_nil ?_
  rintro _ ⟨x, rfl⟩
  go_wp2
  exact bodyPost_ret (v := .tuple #[ratV (-(l : Int)) dg, .bool true]) (by simp [results, Try.results30, go_sem]) rfl ⟨rfl, (by repeat (first | (with_reducible exact Gx.refl _) | (with_reducible assumption) | (with_reducible refine Gx.gx ?_) | (with_reducible refine Gx.alloc ?_) | (with_reducible refine Gx.drew ?_) | (with_reducible refine Gx.drewN ?_) | (with_reducible refine Gx.setRow ?_ (by simp)) | (with_reducible refine Gx.setCell ?_ (by simp))))⟩
set_option maxHeartbeats 4000000 in
set_option maxRecDepth 100000 in
theorem ratio_p_big (neg : Bool) (D H L hd q1 r g h hg l r2 dg : Nat) (F : RatF D H L hd q1 r g h hg l r2 dg) (hz : 0 < H) (hh : h = 0) (hl : 4611686018427387904 < l) (w : World) :
    Calls Try.prog 30 #[.agg #[.bool neg, .int .u64 H, .int .u64 L], .int .i64 D] w fun e w' => e = .returned (.tuple #[ratV 0 0, .bool false]) ∧ ∃ x, w' = gx w x := by
  have C1 := Lib.hid F.c1
  have C2 := Lib.hid F.c2
  have C3 := Lib.hid F.c3
  obtain ⟨_, _, _, f1, f2, f3, f4, b0, b1, b2, b3, b4, b5, b6, b7, b8⟩ := F
  have n0 : ¬ (D : Int) = 0 := by omega
  have n0' : ¬ D = 0 := by omega
  have n1 : ((D : Int) == 0) = false := by rw [beq_eq_false_iff_ne]; omega
  have n2 : ¬ (g : Int) = 0 := by omega
  have n2' : ¬ g = 0 := by omega
  have n3 : ((g : Int) == 0) = false := by rw [beq_eq_false_iff_ne]; omega
  have e1 : IntKind.u64.wrap (D : Int) = (D : Int) := Go.Proofs.Mul64.wrapN _ (by omega)
  have e2 : IntKind.u64.wrap (g : Int) = (g : Int) := Go.Proofs.Mul64.wrapN _ (by omega)
  have e3 : IntKind.u64.wrap (hd : Int) = (hd : Int) := Go.Proofs.Mul64.wrapN _ (by omega)
  have e4 : IntKind.u64.wrap (h : Int) = (h : Int) := Go.Proofs.Mul64.wrapN _ (by omega)
  have e5 : IntKind.u64.wrap (hg : Int) = (hg : Int) := Go.Proofs.Mul64.wrapN _ (by omega)
  have e6 : IntKind.i64.wrap (r : Int) = (r : Int) := by rw [IntKind.wrap_i64]; omega
  have e7 : IntKind.i64.wrap (dg : Int) = (dg : Int) := by rw [IntKind.wrap_i64]; omega
  have t3 : decide (4611686018427387904 < (dg : Int)) = false := decide_eq_false (by omega)
  have t3n : decide (4611686018427387904 < dg) = false := decide_eq_false (by omega)
  have z1 : ((H : Int) == 0) = false := by rw [beq_eq_false_iff_ne]; omega
  have z1b : ((H : Int) != 0) = true := by simp; omega
  have z1n : (H == 0) = false := by rw [beq_eq_false_iff_ne]; omega
  have z1m : ¬ H = 0 := by omega
  have z1i : ¬ (H : Int) = 0 := by omega
  have y1 : ((h : Int) == 0) = true := beq_iff_eq.2 (by omega)
  have y1b : ((h : Int) != 0) = false := by simp; omega
  have y1n : (h == 0) = true := beq_iff_eq.2 (by omega)
  have t2 : decide (4611686018427387904 < (l : Int)) = true := decide_eq_true (by omega)
  have t2n : decide (4611686018427387904 < l) = true := decide_eq_true (by omega)
  clear hh hl hz

  clear b0 b1 b2 b3 b4 b5 b6 b7 b8
  go_enter Try.func30, Try.ntmps30
  go_wp2
  refine region_gx (by kernel_rfl) (by kernel_rfl) ?_
  repeat (any_goals (first | (refine quiet_fr rfl _ rfl _ rfl ?_ ?_ ?_ ?_; rotate_left; (focus (rintro _ ⟨x, rfl⟩; (focus (repeat (first | (with_reducible assumption) | (with_reducible exact At.new _ _) | (with_reducible refine At.row ?_) | (with_reducible refine At.app ?_) | (with_reducible refine At.tick ?_) | (with_reducible refine At.gx ?_) | ((with_reducible refine At.new' ?_); focus (simp; done)) | (with_reducible refine At.alloc ?_) | (with_reducible refine At.drew ?_) | (with_reducible exact Is.new _ _ _) | (with_reducible refine Is.row ?_) | (with_reducible refine Is.gx ?_) | ((with_reducible refine Is.new' ?_); focus (simp; done)) | (with_reducible refine Is.alloc ?_) | (with_reducible refine Is.drew ?_)))))); (focus (with_reducible (first | exact hl | exact hl1 | exact hl2 | exact hl3 | exact hl4 | exact zeroF_len)))) | go_big_quiet_step ((first | (go_at_call 41; exact calls_gx (C1.out _)))) | quiet_step ((first | (go_at_call 41; exact calls_gx (C1.out _))))))
  refine wpQuiet_nil ?_
  rintro _ ⟨x, rfl⟩
  go_wp2_with (go_at_call 42; refine (C2.out _).mono ?_; rintro e w' ⟨rfl, x2, rfl⟩)
  first | (with_reducible refine region_gxx (by kernel_rfl) (by kernel_rfl) ?_) | (with_reducible refine region_gx (by kernel_rfl) (by kernel_rfl) ?_)
  repeat (any_goals (first | (refine quiet_fr rfl _ rfl _ rfl ?_ ?_ ?_ ?_; rotate_left; (focus (rintro _ ⟨x, rfl⟩; (focus (repeat (first | (with_reducible assumption) | (with_reducible exact At.new _ _) | (with_reducible refine At.row ?_) | (with_reducible refine At.app ?_) | (with_reducible refine At.tick ?_) | (with_reducible refine At.gx ?_) | ((with_reducible refine At.new' ?_); focus (simp; done)) | (with_reducible refine At.alloc ?_) | (with_reducible refine At.drew ?_) | (with_reducible exact Is.new _ _ _) | (with_reducible refine Is.row ?_) | (with_reducible refine Is.gx ?_) | ((with_reducible refine Is.new' ?_); focus (simp; done)) | (with_reducible refine Is.alloc ?_) | (with_reducible refine Is.drew ?_)))))); (focus (with_reducible (first | exact hl | exact hl1 | exact hl2 | exact hl3 | exact hl4 | exact zeroF_len)))) | go_big_quiet_step ((first | (go_at_call 41; exact calls_gx (C3.out _)))) | quiet_step ((first | (go_at_call 41; exact calls_gx (C3.out _))))))
  refine wpQuiet_nil ?_
  rintro _ ⟨x, rfl⟩
  go_wp2
  exact bodyPost_ret (v := .tuple #[ratV 0 0, .bool false]) (by simp [results, Try.results30, go_sem]) rfl ⟨rfl, (by repeat (first | (with_reducible exact Gx.refl _) | (with_reducible assumption) | (with_reducible refine Gx.gx ?_) | (with_reducible refine Gx.alloc ?_) | (with_reducible refine Gx.drew ?_) | (with_reducible refine Gx.drewN ?_) | (with_reducible refine Gx.setRow ?_ (by simp)) | (with_reducible refine Gx.setCell ?_ (by simp))))⟩
set_option maxHeartbeats 4000000 in
set_option maxRecDepth 100000 in
theorem ratio_p_high (neg : Bool) (D H L hd q1 r g h hg l r2 dg : Nat) (F : RatF D H L hd q1 r g h hg l r2 dg) (hz : 0 < H) (hh : 0 < h) (w : World) :
    Calls Try.prog 30 #[.agg #[.bool neg, .int .u64 H, .int .u64 L], .int .i64 D] w fun e w' => e = .returned (.tuple #[ratV 0 0, .bool false]) ∧ ∃ x, w' = gx w x := by
  have C1 := Lib.hid F.c1
  have C2 := Lib.hid F.c2
  have C3 := Lib.hid F.c3
  obtain ⟨_, _, _, f1, f2, f3, f4, b0, b1, b2, b3, b4, b5, b6, b7, b8⟩ := F
  have n0 : ¬ (D : Int) = 0 := by omega
  have n0' : ¬ D = 0 := by omega
  have n1 : ((D : Int) == 0) = false := by rw [beq_eq_false_iff_ne]; omega
  have n2 : ¬ (g : Int) = 0 := by omega
  have n2' : ¬ g = 0 := by omega
  have n3 : ((g : Int) == 0) = false := by rw [beq_eq_false_iff_ne]; omega
  have e1 : IntKind.u64.wrap (D : Int) = (D : Int) := Go.Proofs.Mul64.wrapN _ (by omega)
  have e2 : IntKind.u64.wrap (g : Int) = (g : Int) := Go.Proofs.Mul64.wrapN _ (by omega)
  have e3 : IntKind.u64.wrap (hd : Int) = (hd : Int) := Go.Proofs.Mul64.wrapN _ (by omega)
  have e4 : IntKind.u64.wrap (h : Int) = (h : Int) := Go.Proofs.Mul64.wrapN _ (by omega)
  have e5 : IntKind.u64.wrap (hg : Int) = (hg : Int) := Go.Proofs.Mul64.wrapN _ (by omega)
  have e6 : IntKind.i64.wrap (r : Int) = (r : Int) := by rw [IntKind.wrap_i64]; omega
  have e7 : IntKind.i64.wrap (dg : Int) = (dg : Int) := by rw [IntKind.wrap_i64]; omega
  have t3 : decide (4611686018427387904 < (dg : Int)) = false := decide_eq_false (by omega)
  have t3n : decide (4611686018427387904 < dg) = false := decide_eq_false (by omega)
  have z1 : ((H : Int) == 0) = false := by rw [beq_eq_false_iff_ne]; omega
  have z1b : ((H : Int) != 0) = true := by simp; omega
  have z1n : (H == 0) = false := by rw [beq_eq_false_iff_ne]; omega
  have z1m : ¬ H = 0 := by omega
  have z1i : ¬ (H : Int) = 0 := by omega
  have y1 : ((h : Int) == 0) = false := by rw [beq_eq_false_iff_ne]; omega
  have y1b : ((h : Int) != 0) = true := by simp; omega
  have y1n : (h == 0) = false := by rw [beq_eq_false_iff_ne]; omega
  have y1m : ¬ h = 0 := by omega
  have y1i : ¬ (h : Int) = 0 := by omega
  clear hh hz

  clear b0 b1 b2 b3 b4 b5 b6 b7 b8
  go_enter Try.func30, Try.ntmps30
  go_wp2
  refine region_gx (by kernel_rfl) (by kernel_rfl) ?_
  repeat (any_goals (first | (refine quiet_fr rfl _ rfl _ rfl ?_ ?_ ?_ ?_; rotate_left; (focus (rintro _ ⟨x, rfl⟩; (focus (repeat (first | (with_reducible assumption) | (with_reducible exact At.new _ _) | (with_reducible refine At.row ?_) | (with_reducible refine At.app ?_) | (with_reducible refine At.tick ?_) | (with_reducible refine At.gx ?_) | ((with_reducible refine At.new' ?_); focus (simp; done)) | (with_reducible refine At.alloc ?_) | (with_reducible refine At.drew ?_) | (with_reducible exact Is.new _ _ _) | (with_reducible refine Is.row ?_) | (with_reducible refine Is.gx ?_) | ((with_reducible refine Is.new' ?_); focus (simp; done)) | (with_reducible refine Is.alloc ?_) | (with_reducible refine Is.drew ?_)))))); (focus (with_reducible (first | exact hl | exact hl1 | exact hl2 | exact hl3 | exact hl4 | exact zeroF_len)))) | go_big_quiet_step ((first | (go_at_call 41; exact calls_gx (C1.out _)))) | quiet_step ((first | (go_at_call 41; exact calls_gx (C1.out _))))))
  refine wpQuiet_nil ?_
  rintro _ ⟨x, rfl⟩
  go_wp2_with (go_at_call 42; refine (C2.out _).mono ?_; rintro e w' ⟨rfl, x2, rfl⟩)
  first | (with_reducible refine region_gxx (by kernel_rfl) (by kernel_rfl) ?_) | (with_reducible refine region_gx (by kernel_rfl) (by kernel_rfl) ?_)
  repeat (any_goals (first | (refine quiet_fr rfl _ rfl _ rfl ?_ ?_ ?_ ?_; rotate_left; (focus (rintro _ ⟨x, rfl⟩; (focus (repeat (first | (with_reducible assumption) | (with_reducible exact At.new _ _) | (with_reducible refine At.row ?_) | (with_reducible refine At.app ?_) | (with_reducible refine At.tick ?_) | (with_reducible refine At.gx ?_) | ((with_reducible refine At.new' ?_); focus (simp; done)) | (with_reducible refine At.alloc ?_) | (with_reducible refine At.drew ?_) | (with_reducible exact Is.new _ _ _) | (with_reducible refine Is.row ?_) | (with_reducible refine Is.gx ?_) | ((with_reducible refine Is.new' ?_); focus (simp; done)) | (with_reducible refine Is.alloc ?_) | (with_reducible refine Is.drew ?_)))))); (focus (with_reducible (first | exact hl | exact hl1 | exact hl2 | exact hl3 | exact hl4 | exact zeroF_len)))) | go_big_quiet_step ((first | (go_at_call 41; exact calls_gx (C3.out _)))) | quiet_step ((first | (go_at_call 41; exact calls_gx (C3.out _))))))
  refine wpQuiet_nil ?_
  rintro _ ⟨x, rfl⟩
  go_wp2
  exact bodyPost_ret (v := .tuple #[ratV 0 0, .bool false]) (by simp [results, Try.results30, go_sem]) rfl ⟨rfl, (by repeat (first | (with_reducible exact Gx.refl _) | (with_reducible assumption) | (with_reducible refine Gx.gx ?_) | (with_reducible refine Gx.alloc ?_) | (with_reducible refine Gx.drew ?_) | (with_reducible refine Gx.drewN ?_) | (with_reducible refine Gx.setRow ?_ (by simp)) | (with_reducible refine Gx.setCell ?_ (by simp))))⟩
end Go.Proofs.Ytlnbadjjgbecgaa
