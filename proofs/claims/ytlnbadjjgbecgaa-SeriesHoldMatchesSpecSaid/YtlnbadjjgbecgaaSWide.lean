/-
  Numbers of 128 bits of the reference: product, add, gcd.
-/
import Derived.Test.YtlnbadjjgbecgaaSCarry
import Derived.Test.YtlnbadjjgbecgaaSProd
import Derived.Test.YtlnbadjjgbecgaaSDivP2
namespace Go.Proofs.Ytlnbadjjgbecgaa
open Go.RowKit
-- AT2

set_option maxHeartbeats 4000000 in
set_option maxRecDepth 100000 in
theorem add_same (a b : Bool) (xh xl yh yl zh zl k : Nat) (hab : a = b) (bxh : xh < 18446744073709551616) (bxl : xl < 18446744073709551616) (byh : yh < 18446744073709551616) (byl : yl < 18446744073709551616) (bzh : zh < 18446744073709551616) (bzl : zl < 18446744073709551616) (hk : k ≤ 1) (e0 : xl + yl = k * 18446744073709551616 + zl) (e1 : xh + yh + k = zh) (w : World) :
    Calls Try.prog 28 #[.agg #[.bool a, .int .u64 xh, .int .u64 xl], .agg #[.bool b, .int .u64 yh, .int .u64 yl]] w fun e w' => e = .returned (.agg #[.bool a, .int .u64 zh, .int .u64 zl]) ∧ ∃ x, w' = gx w x := by
  have K0 : ∀ W, (callFunc 38 #[.int .u64 (xl : Int), .int .u64 (yl : Int), .int .u64 0]).run Try.prog W = .ok (.value (.tuple #[.int .u64 (zl : Int), .int .u64 (k : Int)])) W := fun W => add64_run (c := 0) (by omega) (by omega) bzl W
  have K1 : ∀ W, (callFunc 38 #[.int .u64 (xh : Int), .int .u64 (yh : Int), .int .u64 (k : Int)]).run Try.prog W = .ok (.value (.tuple #[.int .u64 (zh : Int), .int .u64 0])) W := fun W => add64_run (k := 0) hk (by omega) bzh W
  subst hab
  clear e0 e1
  go_enter Try.func28, Try.ntmps28
  go_wp2_with (first | simp only [K0] | simp only [K1])
  exact bodyPost_ret (v := .agg #[.bool a, .int .u64 zh, .int .u64 zl]) (by simp [results, Try.results28, go_sem]) rfl ⟨rfl, (by repeat (first | (with_reducible exact Gx.refl _) | (with_reducible assumption) | (with_reducible refine Gx.gx ?_) | (with_reducible refine Gx.alloc ?_) | (with_reducible refine Gx.drew ?_) | (with_reducible refine Gx.drewN ?_) | (with_reducible refine Gx.setRow ?_ (by simp)) | (with_reducible refine Gx.setCell ?_ (by simp))))⟩
set_option maxHeartbeats 4000000 in
set_option maxRecDepth 100000 in
theorem add_less1 (a b : Bool) (xh xl yh yl zh zl k : Nat) (hab : (a == b) = false) (bxh : xh < 18446744073709551616) (bxl : xl < 18446744073709551616) (byh : yh < 18446744073709551616) (byl : yl < 18446744073709551616) (bzh : zh < 18446744073709551616) (bzl : zl < 18446744073709551616) (hk : k ≤ 1) (hc : xh < yh) (e0 : k * 18446744073709551616 + yl = xl + zl) (e1 : yh = xh + k + zh) (w : World) :
    Calls Try.prog 28 #[.agg #[.bool a, .int .u64 xh, .int .u64 xl], .agg #[.bool b, .int .u64 yh, .int .u64 yl]] w fun e w' => e = .returned (.agg #[.bool b, .int .u64 zh, .int .u64 zl]) ∧ ∃ x, w' = gx w x := by
  have K0 : ∀ W, (callFunc 39 #[.int .u64 (yl : Int), .int .u64 (xl : Int), .int .u64 0]).run Try.prog W = .ok (.value (.tuple #[.int .u64 (zl : Int), .int .u64 (k : Int)])) W := fun W => sub64_run (c := 0) (by omega) bxl (by omega) hk byl bzl W
  have K1 : ∀ W, (callFunc 39 #[.int .u64 (yh : Int), .int .u64 (xh : Int), .int .u64 (k : Int)]).run Try.prog W = .ok (.value (.tuple #[.int .u64 (zh : Int), .int .u64 0])) W := fun W => sub64_run (k := 0) hk bxh ((Nat.zero_mul _).symm ▸ (Nat.zero_add _).symm ▸ e1) (Nat.zero_le 1) byh bzh W
  have d1 : decide ((xh : Int) < (yh : Int)) = true := decide_eq_true (by omega)
  have d1n : decide (xh < yh) = true := decide_eq_true (by omega)
  clear e0 e1 hc
  go_enter Try.func28, Try.ntmps28
  go_wp2_with (first | simp only [K0] | simp only [K1])
  exact bodyPost_ret (v := .agg #[.bool b, .int .u64 zh, .int .u64 zl]) (by simp [results, Try.results28, go_sem]) rfl ⟨rfl, (by repeat (first | (with_reducible exact Gx.refl _) | (with_reducible assumption) | (with_reducible refine Gx.gx ?_) | (with_reducible refine Gx.alloc ?_) | (with_reducible refine Gx.drew ?_) | (with_reducible refine Gx.drewN ?_) | (with_reducible refine Gx.setRow ?_ (by simp)) | (with_reducible refine Gx.setCell ?_ (by simp))))⟩
set_option maxHeartbeats 4000000 in
set_option maxRecDepth 100000 in
theorem add_less2 (a b : Bool) (xh xl yh yl zh zl k : Nat) (hab : (a == b) = false) (bxh : xh < 18446744073709551616) (bxl : xl < 18446744073709551616) (byh : yh < 18446744073709551616) (byl : yl < 18446744073709551616) (bzh : zh < 18446744073709551616) (bzl : zl < 18446744073709551616) (hk : k ≤ 1) (hc : xh = yh ∧ xl < yl) (e0 : k * 18446744073709551616 + yl = xl + zl) (e1 : yh = xh + k + zh) (w : World) :
    Calls Try.prog 28 #[.agg #[.bool a, .int .u64 xh, .int .u64 xl], .agg #[.bool b, .int .u64 yh, .int .u64 yl]] w fun e w' => e = .returned (.agg #[.bool b, .int .u64 zh, .int .u64 zl]) ∧ ∃ x, w' = gx w x := by
  have K0 : ∀ W, (callFunc 39 #[.int .u64 (yl : Int), .int .u64 (xl : Int), .int .u64 0]).run Try.prog W = .ok (.value (.tuple #[.int .u64 (zl : Int), .int .u64 (k : Int)])) W := fun W => sub64_run (c := 0) (by omega) bxl (by omega) hk byl bzl W
  have K1 : ∀ W, (callFunc 39 #[.int .u64 (yh : Int), .int .u64 (xh : Int), .int .u64 (k : Int)]).run Try.prog W = .ok (.value (.tuple #[.int .u64 (zh : Int), .int .u64 0])) W := fun W => sub64_run (k := 0) hk bxh ((Nat.zero_mul _).symm ▸ (Nat.zero_add _).symm ▸ e1) (Nat.zero_le 1) byh bzh W
  have d1 : decide ((xh : Int) < (yh : Int)) = false := decide_eq_false (by omega)
  have d1n : decide (xh < yh) = false := decide_eq_false (by omega)
  have d2 : ((xh : Int) == (yh : Int)) = true := beq_iff_eq.2 (by omega)
  have d2n : (xh == yh) = true := beq_iff_eq.2 (by omega)
  have d3 : decide ((xl : Int) < (yl : Int)) = true := decide_eq_true (by omega)
  have d3n : decide (xl < yl) = true := decide_eq_true (by omega)
  clear e0 e1 hc
  go_enter Try.func28, Try.ntmps28
  go_wp2_with (first | simp only [K0] | simp only [K1])
  exact bodyPost_ret (v := .agg #[.bool b, .int .u64 zh, .int .u64 zl]) (by simp [results, Try.results28, go_sem]) rfl ⟨rfl, (by repeat (first | (with_reducible exact Gx.refl _) | (with_reducible assumption) | (with_reducible refine Gx.gx ?_) | (with_reducible refine Gx.alloc ?_) | (with_reducible refine Gx.drew ?_) | (with_reducible refine Gx.drewN ?_) | (with_reducible refine Gx.setRow ?_ (by simp)) | (with_reducible refine Gx.setCell ?_ (by simp))))⟩
set_option maxHeartbeats 4000000 in
set_option maxRecDepth 100000 in
theorem add_more1 (a b : Bool) (xh xl yh yl zh zl k : Nat) (hab : (a == b) = false) (bxh : xh < 18446744073709551616) (bxl : xl < 18446744073709551616) (byh : yh < 18446744073709551616) (byl : yl < 18446744073709551616) (bzh : zh < 18446744073709551616) (bzl : zl < 18446744073709551616) (hk : k ≤ 1) (hc : yh < xh) (e0 : k * 18446744073709551616 + xl = yl + zl) (e1 : xh = yh + k + zh) (w : World) :
    Calls Try.prog 28 #[.agg #[.bool a, .int .u64 xh, .int .u64 xl], .agg #[.bool b, .int .u64 yh, .int .u64 yl]] w fun e w' => e = .returned (.agg #[.bool a, .int .u64 zh, .int .u64 zl]) ∧ ∃ x, w' = gx w x := by
  have K0 : ∀ W, (callFunc 39 #[.int .u64 (xl : Int), .int .u64 (yl : Int), .int .u64 0]).run Try.prog W = .ok (.value (.tuple #[.int .u64 (zl : Int), .int .u64 (k : Int)])) W := fun W => sub64_run (c := 0) (by omega) byl (by omega) hk bxl bzl W
  have K1 : ∀ W, (callFunc 39 #[.int .u64 (xh : Int), .int .u64 (yh : Int), .int .u64 (k : Int)]).run Try.prog W = .ok (.value (.tuple #[.int .u64 (zh : Int), .int .u64 0])) W := fun W => sub64_run (k := 0) hk byh ((Nat.zero_mul _).symm ▸ (Nat.zero_add _).symm ▸ e1) (Nat.zero_le 1) bxh bzh W
  have d1 : decide ((xh : Int) < (yh : Int)) = false := decide_eq_false (by omega)
  have d1n : decide (xh < yh) = false := decide_eq_false (by omega)
  have d2 : ((xh : Int) == (yh : Int)) = false := by rw [beq_eq_false_iff_ne]; omega
  have d2n : (xh == yh) = false := by rw [beq_eq_false_iff_ne]; omega
  clear e0 e1 hc
  go_enter Try.func28, Try.ntmps28
  go_wp2_with (first | simp only [K0] | simp only [K1])
  exact bodyPost_ret (v := .agg #[.bool a, .int .u64 zh, .int .u64 zl]) (by simp [results, Try.results28, go_sem]) rfl ⟨rfl, (by repeat (first | (with_reducible exact Gx.refl _) | (with_reducible assumption) | (with_reducible refine Gx.gx ?_) | (with_reducible refine Gx.alloc ?_) | (with_reducible refine Gx.drew ?_) | (with_reducible refine Gx.drewN ?_) | (with_reducible refine Gx.setRow ?_ (by simp)) | (with_reducible refine Gx.setCell ?_ (by simp))))⟩
set_option maxHeartbeats 4000000 in
set_option maxRecDepth 100000 in
theorem add_more2 (a b : Bool) (xh xl yh yl zh zl k : Nat) (hab : (a == b) = false) (bxh : xh < 18446744073709551616) (bxl : xl < 18446744073709551616) (byh : yh < 18446744073709551616) (byl : yl < 18446744073709551616) (bzh : zh < 18446744073709551616) (bzl : zl < 18446744073709551616) (hk : k ≤ 1) (hc : xh = yh ∧ yl ≤ xl) (e0 : k * 18446744073709551616 + xl = yl + zl) (e1 : xh = yh + k + zh) (w : World) :
    Calls Try.prog 28 #[.agg #[.bool a, .int .u64 xh, .int .u64 xl], .agg #[.bool b, .int .u64 yh, .int .u64 yl]] w fun e w' => e = .returned (.agg #[.bool a, .int .u64 zh, .int .u64 zl]) ∧ ∃ x, w' = gx w x := by
  have K0 : ∀ W, (callFunc 39 #[.int .u64 (xl : Int), .int .u64 (yl : Int), .int .u64 0]).run Try.prog W = .ok (.value (.tuple #[.int .u64 (zl : Int), .int .u64 (k : Int)])) W := fun W => sub64_run (c := 0) (by omega) byl (by omega) hk bxl bzl W
  have K1 : ∀ W, (callFunc 39 #[.int .u64 (xh : Int), .int .u64 (yh : Int), .int .u64 (k : Int)]).run Try.prog W = .ok (.value (.tuple #[.int .u64 (zh : Int), .int .u64 0])) W := fun W => sub64_run (k := 0) hk byh ((Nat.zero_mul _).symm ▸ (Nat.zero_add _).symm ▸ e1) (Nat.zero_le 1) bxh bzh W
  have d1 : decide ((xh : Int) < (yh : Int)) = false := decide_eq_false (by omega)
  have d1n : decide (xh < yh) = false := decide_eq_false (by omega)
  have d2 : ((xh : Int) == (yh : Int)) = true := beq_iff_eq.2 (by omega)
  have d2n : (xh == yh) = true := beq_iff_eq.2 (by omega)
  have d3 : decide ((xl : Int) < (yl : Int)) = false := decide_eq_false (by omega)
  have d3n : decide (xl < yl) = false := decide_eq_false (by omega)
  clear e0 e1 hc
  go_enter Try.func28, Try.ntmps28
  go_wp2_with (first | simp only [K0] | simp only [K1])
  exact bodyPost_ret (v := .agg #[.bool a, .int .u64 zh, .int .u64 zl]) (by simp [results, Try.results28, go_sem]) rfl ⟨rfl, (by repeat (first | (with_reducible exact Gx.refl _) | (with_reducible assumption) | (with_reducible refine Gx.gx ?_) | (with_reducible refine Gx.alloc ?_) | (with_reducible refine Gx.drew ?_) | (with_reducible refine Gx.drewN ?_) | (with_reducible refine Gx.setRow ?_ (by simp)) | (with_reducible refine Gx.setCell ?_ (by simp))))⟩

theorem add_any (a b : Bool) (x y : Nat) (hx : x < 340282366920938463463374607431768211456) (hy : y < 340282366920938463463374607431768211456) (hz : wdM a x b y < 340282366920938463463374607431768211456) (w : World) :
    Calls Try.prog 28 #[wvV a x, wvV b y] w fun e w' => e = .returned (wvV (wdN a x b y) (wdM a x b y)) ∧ ∃ x, w' = gx w x := by
  by_cases hab : a = b
  · rw [show wdN a x b y = a by unfold wdN; rw [if_pos hab], show wdM a x b y = x + y by unfold wdM; rw [if_pos hab]]
    rw [show wdM a x b y = x + y by unfold wdM; rw [if_pos hab]] at hz
    exact add_same a b _ _ _ _ _ _ ((x % 18446744073709551616 + y % 18446744073709551616) / 18446744073709551616) hab (by omega) (by omega) (by omega) (by omega) (by omega) (by omega) (by omega) (by omega) (by omega) w
  · have hab' : (a == b) = false := beq_eq_false_iff_ne.2 hab
    by_cases h : x < y
    · rw [show wdN a x b y = b by unfold wdN; rw [if_neg hab, if_pos h], show wdM a x b y = y - x by unfold wdM; rw [if_neg hab, if_pos h]]
      clear hz
      obtain ⟨k, hk, e⟩ : ∃ k, k ≤ 1 ∧ k * 18446744073709551616 + y % 18446744073709551616 = x % 18446744073709551616 + (y - x) % 18446744073709551616 := by
        by_cases h2 : x % 18446744073709551616 ≤ y % 18446744073709551616
        · exact ⟨0, by omega, by omega⟩
        · exact ⟨1, by omega, by omega⟩
      by_cases h3 : x / 18446744073709551616 < y / 18446744073709551616
      · exact add_less1 a b _ _ _ _ _ _ k hab' (by omega) (by omega) (by omega) (by omega) (by omega) (by omega) hk h3 e (by omega) w
      · exact add_less2 a b _ _ _ _ _ _ k hab' (by omega) (by omega) (by omega) (by omega) (by omega) (by omega) hk (by omega) e (by omega) w
    · rw [show wdN a x b y = a by unfold wdN; rw [if_neg hab, if_neg h], show wdM a x b y = x - y by unfold wdM; rw [if_neg hab, if_neg h]]
      clear hz
      obtain ⟨k, hk, e⟩ : ∃ k, k ≤ 1 ∧ k * 18446744073709551616 + x % 18446744073709551616 = y % 18446744073709551616 + (x - y) % 18446744073709551616 := by
        by_cases h2 : y % 18446744073709551616 ≤ x % 18446744073709551616
        · exact ⟨0, by omega, by omega⟩
        · exact ⟨1, by omega, by omega⟩
      by_cases h3 : y / 18446744073709551616 < x / 18446744073709551616
      · exact add_more1 a b _ _ _ _ _ _ k hab' (by omega) (by omega) (by omega) (by omega) (by omega) (by omega) hk h3 e (by omega) w
      · exact add_more2 a b _ _ _ _ _ _ k hab' (by omega) (by omega) (by omega) (by omega) (by omega) (by omega) hk (by omega) e (by omega) w
end Go.Proofs.Ytlnbadjjgbecgaa
