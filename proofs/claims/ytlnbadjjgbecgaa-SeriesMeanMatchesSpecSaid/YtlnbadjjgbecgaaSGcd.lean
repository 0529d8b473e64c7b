/-
  gcd of the reference; bits.Div64 whatever the high part.
-/
import Derived.Test.YtlnbadjjgbecgaaSWidP
import Derived.Test.YtlnbadjjgbecgaaSLeaf
import Derived.Test.YtlnbadjjgbecgaaSDiv
namespace Go.Proofs.Ytlnbadjjgbecgaa
open Go.RowKit
-- AT2

set_option maxHeartbeats 4000000 in
set_option maxRecDepth 100000 in
theorem gcd_any (a b : Nat) (ha : a < 9223372036854775808) (hb : b < 9223372036854775808) (w : World) :
    Calls Try.prog 42 #[.int .i64 a, .int .i64 b] w fun e w' => e = .returned (.int .i64 (Nat.gcd a b : Nat)) ∧ ∃ x, w' = gx w x := by
  obtain ⟨G, hG⟩ : ∃ G, G = Nat.gcd a b := ⟨_, rfl⟩
  rw [← hG]
  have HG := Lib.hid hG
  clear hG
  go_enter Try.func42, Try.ntmps42
  go_wp2
  go_loopw [0, 1] (fun p q wr => ∃ x y : Nat, p = .int .i64 x ∧ q = .int .i64 y ∧ x < 9223372036854775808 ∧ y < 9223372036854775808 ∧ Nat.gcd x y = G ∧ ∃ z, wr = gx w z) (fun _ q _ => (intOf q).toNat)
  case atStart => exact ⟨_, _, rfl, rfl, ha, hb, HG.out.symm, (by repeat (first | (with_reducible exact Gx.refl _) | (with_reducible assumption) | (with_reducible refine Gx.gx ?_) | (with_reducible refine Gx.alloc ?_) | (with_reducible refine Gx.drew ?_) | (with_reducible refine Gx.drewN ?_) | (with_reducible refine Gx.setRow ?_ (by simp)) | (with_reducible refine Gx.setCell ?_ (by simp))))⟩
  case round =>
    obtain ⟨x, y, rfl, rfl, hx, hy, hxy, x0, rfl⟩ := hrel
    by_cases h : y = 0
    · subst h
      rw [Nat.gcd_zero_right] at hxy
      subst hxy
      go_wp2
      go_ret
      exact ⟨rfl, (by repeat (first | (with_reducible exact Gx.refl _) | (with_reducible assumption) | (with_reducible refine Gx.gx ?_) | (with_reducible refine Gx.alloc ?_) | (with_reducible refine Gx.drew ?_) | (with_reducible refine Gx.drewN ?_) | (with_reducible refine Gx.setRow ?_ (by simp)) | (with_reducible refine Gx.setCell ?_ (by simp))))⟩
    · have n0 : ¬ (y : Int) = 0 := by omega
      have n1 : ((y : Int) == 0) = false := by rw [beq_eq_false_iff_ne]; omega
      have n2 : ((y : Int) != 0) = true := by simp; omega
      have e1 : (x : Int).tmod (y : Int) = ((x % y : Nat) : Int) := rfl
      have hlt := Nat.mod_lt x (Nat.pos_of_ne_zero h)
      rw [gcd_loop] at hxy
      generalize x % y = z at *
      have e2 : IntKind.i64.wrap (z : Int) = (z : Int) := by rw [IntKind.wrap_i64]; omega
      go_wp2
      go_region
      go_wp2
      go_roundw
      case rel => exact ⟨y, z, rfl, rfl, hy, by omega, hxy, (by repeat (first | (with_reducible exact Gx.refl _) | (with_reducible assumption) | (with_reducible refine Gx.gx ?_) | (with_reducible refine Gx.alloc ?_) | (with_reducible refine Gx.drew ?_) | (with_reducible refine Gx.drewN ?_) | (with_reducible refine Gx.setRow ?_ (by simp)) | (with_reducible refine Gx.setCell ?_ (by simp))))⟩
      case measure => simp [intOf]; omega
set_option maxHeartbeats 4000000 in
set_option maxRecDepth 100000 in
theorem Div64_any (h l y : Nat) (hy2 : y < 18446744073709551616) (hh : h < y) (hl : l < 18446744073709551616) (w : World) :
    Calls Try.prog 41 #[.int .u64 h, .int .u64 l, .int .u64 y] w fun e w' => e = .returned (.tuple #[.int .u64 (((h * 18446744073709551616 + l) / y : Nat) : Int), .int .u64 (((h * 18446744073709551616 + l) % y : Nat) : Int)]) ∧ ∃ x, w' = gx w x := by
  by_cases h0 : 0 < h
  · exact Div64_big h l y hy2 hh h0 hl w
  · obtain rfl : h = 0 := by omega
    rw [Nat.zero_mul, Nat.zero_add]
    have n0 : ¬ (y : Int) = 0 := by omega
    have n0' : ¬ y = 0 := by omega
    have n1 : ((y : Int) == 0) = false := by rw [beq_eq_false_iff_ne]; omega
    have n2 : decide ((y : Int) ≤ 0) = false := decide_eq_false (by omega)
    have e1 : (l : Int).tmod (y : Int) = ((l % y : Nat) : Int) := rfl
    have e2 : (l : Int).tdiv (y : Int) = ((l / y : Nat) : Int) := rfl
    have hlt := Nat.mod_lt l (show 0 < y by omega)
    have hlq := Nat.div_le_self l y
    generalize l % y = r at *
    generalize l / y = q at *
    have e3 : IntKind.u64.wrap (r : Int) = (r : Int) := Go.Proofs.Mul64.wrapN _ (by omega)
    have e4 : IntKind.u64.wrap (q : Int) = (q : Int) := Go.Proofs.Mul64.wrapN _ (by omega)
    clear hlt hlq h0 hh hy2 hl
    go_enter Try.func41, Try.ntmps41
    go_wp2
    go_region
    go_wp2
    go_ret2
    exact ⟨rfl, (by repeat (first | (with_reducible exact Gx.refl _) | (with_reducible assumption) | (with_reducible refine Gx.gx ?_) | (with_reducible refine Gx.alloc ?_) | (with_reducible refine Gx.drew ?_) | (with_reducible refine Gx.drewN ?_) | (with_reducible refine Gx.setRow ?_ (by simp)) | (with_reducible refine Gx.setCell ?_ (by simp))))⟩
end Go.Proofs.Ytlnbadjjgbecgaa
