/-
  gcd of the reference.
-/
import Derived.Test.YtikgfidpdghkpaaDoorSWidP
import Derived.Test.YtikgfidpdghkpaaDoorSLeaf
import Derived.BigRegion
namespace Go.Proofs.YtikgfidpdghkpaaDoor
open Go.RowKit
-- AT2

set_option maxHeartbeats 4000000 in
set_option maxRecDepth 100000 in
theorem gcd_any (a b : Nat) (ha : a < 9223372036854775808) (hb : b < 9223372036854775808) (w : World) :
    Calls Tryd.prog 42 #[.int .i64 a, .int .i64 b] w fun e w' => e = .returned (.int .i64 (Nat.gcd a b : Nat)) ∧ ∃ x, w' = gx w x := by
  obtain ⟨G, hG⟩ : ∃ G, G = Nat.gcd a b := ⟨_, rfl⟩
  rw [← hG]
  have HG := Lib.hid hG
  clear hG
  go_enter Tryd.func42, Tryd.ntmps42
  go_wp2
  go_loopw [0, 1] (fun p q wr => ∃ x y : Nat, p = .int .i64 x ∧ q = .int .i64 y ∧ x < 9223372036854775808 ∧ y < 9223372036854775808 ∧ Nat.gcd x y = G ∧ ∃ z, wr = gx w z) (fun _ q _ => (intOf q).toNat)
  case atStart => exact ⟨_, _, rfl, rfl, ha, hb, HG.out.symm, (by repeat (first | (with_reducible exact Gx.refl _) | (with_reducible assumption) | (with_reducible refine Gx.gx ?_) | (with_reducible refine Gx.alloc ?_) | (with_reducible refine Gx.drew ?_) | (with_reducible refine Gx.drewN ?_) | (with_reducible refine Gx.setRow ?_ (by simp)) | (with_reducible refine Gx.setCell ?_ (by simp))))⟩
  case round =>
    obtain ⟨x, y, rfl, rfl, hx, hy, hxy, x0, rfl⟩ := hrel
    by_cases h : y = 0
    · subst h
      rw [Nat.gcd_zero_right] at hxy
      subst hxy
      go_wp2
      go_ret
      exact ⟨rfl, (by repeat (first | (with_reducible exact Gx.refl _) | (with_reducible assumption) | (with_reducible refine Gx.gx ?_) | (with_reducible refine Gx.alloc ?_) | (with_reducible refine Gx.drew ?_) | (with_reducible refine Gx.drewN ?_) | (with_reducible refine Gx.setRow ?_ (by simp)) | (with_reducible refine Gx.setCell ?_ (by simp))))⟩
    · have n0 : ¬ (y : Int) = 0 := by omega
      have n1 : ((y : Int) == 0) = false := by rw [beq_eq_false_iff_ne]; omega
      have n2 : ((y : Int) != 0) = true := by simp; omega
      have e1 : (x : Int).tmod (y : Int) = ((x % y : Nat) : Int) := rfl
      have hlt := Nat.mod_lt x (Nat.pos_of_ne_zero h)
      rw [gcd_loop] at hxy
      generalize x % y = z at *
      have e2 : IntKind.i64.wrap (z : Int) = (z : Int) := by rw [IntKind.wrap_i64]; omega
      go_wp2
      go_region
      go_wp2
      go_roundw
      case rel => exact ⟨y, z, rfl, rfl, hy, by omega, hxy, (by repeat (first | (with_reducible exact Gx.refl _) | (with_reducible assumption) | (with_reducible refine Gx.gx ?_) | (with_reducible refine Gx.alloc ?_) | (with_reducible refine Gx.drew ?_) | (with_reducible refine Gx.drewN ?_) | (with_reducible refine Gx.setRow ?_ (by simp)) | (with_reducible refine Gx.setCell ?_ (by simp))))⟩
      case measure => simp [intOf]; omega
end Go.Proofs.YtikgfidpdghkpaaDoor
