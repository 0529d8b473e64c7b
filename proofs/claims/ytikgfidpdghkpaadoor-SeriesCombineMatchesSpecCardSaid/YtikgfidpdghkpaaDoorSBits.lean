/-
  bits.LeadingZeros64 and bits.Mul64: the shelf's contracts at this program.
-/
import Derived.Test.YtikgfidpdghkpaaDoorKit
import Derived.Shelf.Bits.Mul64
namespace Go.Proofs.YtikgfidpdghkpaaDoor
open Go.RowKit
open Go.Shelf
-- AT2
def mul64A_ren : Go.Shelf.Ren := ⟨fun | 264 => 56 | n => n, fun | 53 => 82 | 46 => 90 | n => n, fun | n => n⟩
theorem mul64A : Go.Proofs.Lays.n264 Tryd.prog mul64A_ren := {
  mixed := by kernel_rfl
  f264 := Tryd.func56.trans (congrArg some (by kernel_rfl))
  t46 := Tryd.underlying90
  a46 := Tryd.isAgg90
  z46 := Tryd.sizeOf90
  v46 := Tryd.zeroValue90
  t53 := Tryd.underlying82
  a53 := Tryd.isAgg82
  z53 := Tryd.sizeOf82
  v53 := Tryd.zeroValue82 }

theorem Mul64_any (x y : Nat) (hx : x < 18446744073709551616) (hy : y < 18446744073709551616) (w : World) : Calls Tryd.prog 56 #[.int .u64 x, .int .u64 y] w fun e w' => e = .returned (.tuple #[.int .u64 ((x * y / 18446744073709551616 : Nat) : Int), .int .u64 ((x * y % 18446744073709551616 : Nat) : Int)]) ∧ w = w' :=
  (Go.Proofs.Any.bits_Mul64 mul64A x y hx hy w).mono fun _ _ h => ⟨h.1, h.2.symm⟩
end Go.Proofs.YtikgfidpdghkpaaDoor
