/-
  Numbers of 128 bits of the reference: product.
-/
import Derived.Test.YtikgfidpdghkpaaDoorSBits
import Derived.Test.YtikgfidpdghkpaaDoorSLeaf
import Derived.Test.YtikgfidpdghkpaaDoorSWidP
namespace Go.Proofs.YtikgfidpdghkpaaDoor
open Go.RowKit
-- AT2

/-- A wide number as the reference holds it. -/
abbrev wvV (n : Bool) (m : Nat) : Value := .agg #[.bool n, .int .u64 ((m / 18446744073709551616 : Nat) : Int), .int .u64 ((m % 18446744073709551616 : Nat) : Int)]
set_option maxHeartbeats 4000000 in
set_option maxRecDepth 100000 in
theorem product_any (a : Int) (b : Nat) (ha : a.natAbs < 9223372036854775808) (hb : b < 9223372036854775808) (w : World) :
    Calls Tryd.prog 57 #[.int .i64 a, .int .i64 b] w fun e w' => e = .returned (wvV (decide (a < 0)) (a.natAbs * b)) ∧ ∃ x, w' = gx w x := by
  obtain ⟨n, hn⟩ : ∃ n, n = a.natAbs := ⟨_, rfl⟩
  have hm := Mul64_any n b (by omega) (by omega)
  rw [← hn]
  obtain ⟨H, hH⟩ : ∃ H, H = n * b / 18446744073709551616 := ⟨_, rfl⟩
  obtain ⟨L, hL⟩ : ∃ L, L = n * b % 18446744073709551616 := ⟨_, rfl⟩
  unfold wvV
  rw [← hH, ← hL] at hm ⊢
  clear hH hL
  have HM := Lib.hid hm
  clear hm
  have e3 : IntKind.u64.wrap (b : Int) = (b : Int) := Go.Proofs.Mul64.wrapN _ (by omega)
  have e4 : IntKind.u64.wrap (n : Int) = (n : Int) := Go.Proofs.Mul64.wrapN _ (by omega)
  by_cases h : a < 0
  · have d : decide (a < 0) = true := decide_eq_true h
    obtain rfl : a = -(n : Int) := by omega
    have e1 : IntKind.i64.wrap (n : Int) = (n : Int) := by rw [IntKind.wrap_i64]; omega
    have e2 : IntKind.i64.wrap (-(-(n : Int))) = (n : Int) := by rw [IntKind.wrap_i64]; omega
    have hn0 : 0 < n := by omega
    have dn : decide (0 < n) = true := decide_eq_true hn0
    have dn' : decide (0 < (n : Int)) = true := decide_eq_true (by omega)
    rw [d]
    clear h hn ha hb
    go_enter Tryd.func57, Tryd.ntmps57
    go_wp2_with (go_at_call 56; refine (HM.out _).mono ?_; rintro e w' ⟨rfl, rfl⟩)
    exact bodyPost_ret (v := .agg #[.bool true, .int .u64 H, .int .u64 L]) (by simp [results, Tryd.results57, go_sem]) rfl ⟨rfl, (by repeat (first | (with_reducible exact Gx.refl _) | (with_reducible assumption) | (with_reducible refine Gx.gx ?_) | (with_reducible refine Gx.alloc ?_) | (with_reducible refine Gx.drew ?_) | (with_reducible refine Gx.drewN ?_) | (with_reducible refine Gx.setRow ?_ (by simp)) | (with_reducible refine Gx.setCell ?_ (by simp))))⟩
  · have d : decide (a < 0) = false := decide_eq_false h
    obtain rfl : a = (n : Int) := by omega
    rw [d]
    clear h hn ha hb
    go_enter Tryd.func57, Tryd.ntmps57
    go_wp2_with (go_at_call 56; refine (HM.out _).mono ?_; rintro e w' ⟨rfl, rfl⟩)
    exact bodyPost_ret (v := .agg #[.bool false, .int .u64 H, .int .u64 L]) (by simp [results, Tryd.results57, go_sem]) rfl ⟨rfl, (by repeat (first | (with_reducible exact Gx.refl _) | (with_reducible assumption) | (with_reducible refine Gx.gx ?_) | (with_reducible refine Gx.alloc ?_) | (with_reducible refine Gx.drew ?_) | (with_reducible refine Gx.drewN ?_) | (with_reducible refine Gx.setRow ?_ (by simp)) | (with_reducible refine Gx.setCell ?_ (by simp))))⟩
end Go.Proofs.YtikgfidpdghkpaaDoor
