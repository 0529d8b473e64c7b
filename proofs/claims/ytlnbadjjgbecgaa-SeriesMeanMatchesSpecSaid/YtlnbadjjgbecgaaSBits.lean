/-
  bits.LeadingZeros64 and bits.Mul64: the shelf's contracts at this program.
-/
import Derived.Test.YtlnbadjjgbecgaaKit
import Derived.Shelf.Small.Bits
import Derived.Shelf.Bits.Mul64
namespace Go.Proofs.Ytlnbadjjgbecgaa
open Go.RowKit
open Go.Shelf
-- AT2
def lz64A_ren : Go.Shelf.Ren := ⟨fun | 134 => 50 | 129 => 53 | n => n, fun | 53 => 61 | 3 => 3 | 4 => 4 | 46 => 81 | 5 => 5 | 9 => 9 | n => n, fun | n => n⟩
theorem lz64A : Go.Proofs.Lays.n134 Try.prog lz64A_ren := {
  mixed := by kernel_rfl
  f129 := Try.func53.trans (congrArg some (by kernel_rfl))
  f134 := Try.func50.trans (congrArg some (by kernel_rfl))
  t3 := Try.underlying3
  a3 := Try.isAgg3
  z3 := Try.sizeOf3
  v3 := Try.zeroValue3
  t4 := Try.underlying4
  a4 := Try.isAgg4
  z4 := Try.sizeOf4
  v4 := Try.zeroValue4
  t5 := Try.underlying5
  a5 := Try.isAgg5
  z5 := Try.sizeOf5
  v5 := Try.zeroValue5
  t9 := Try.underlying9
  a9 := Try.isAgg9
  z9 := Try.sizeOf9
  v9 := Try.zeroValue9
  t46 := Try.underlying81
  a46 := Try.isAgg81
  z46 := Try.sizeOf81
  v46 := Try.zeroValue81
  t53 := Try.underlying61
  a53 := Try.isAgg61
  z53 := Try.sizeOf61
  v53 := Try.zeroValue61 }
def mul64A_ren : Go.Shelf.Ren := ⟨fun | 264 => 40 | n => n, fun | 53 => 61 | 46 => 81 | n => n, fun | n => n⟩
theorem mul64A : Go.Proofs.Lays.n264 Try.prog mul64A_ren := {
  mixed := by kernel_rfl
  f264 := Try.func40.trans (congrArg some (by kernel_rfl))
  t46 := Try.underlying81
  a46 := Try.isAgg81
  z46 := Try.sizeOf81
  v46 := Try.zeroValue81
  t53 := Try.underlying61
  a53 := Try.isAgg61
  z53 := Try.sizeOf61
  v53 := Try.zeroValue61 }

theorem LeadingZeros64_any (x : Int) (w : World) (h0 : 0 ≤ x) (h1 : x ≤ 18446744073709551615) : Calls Try.prog 50 #[.int .u64 x] w fun e w' => e = .returned (.int .i64 (64 - (Lib.bitLen x.toNat : Int))) ∧ w = w' :=
  (Go.Proofs.Any.bits_LeadingZeros64 lz64A x w h0 h1).mono fun _ _ h => ⟨h.1, h.2.symm⟩
theorem Mul64_any (x y : Nat) (hx : x < 18446744073709551616) (hy : y < 18446744073709551616) (w : World) : Calls Try.prog 40 #[.int .u64 x, .int .u64 y] w fun e w' => e = .returned (.tuple #[.int .u64 ((x * y / 18446744073709551616 : Nat) : Int), .int .u64 ((x * y % 18446744073709551616 : Nat) : Int)]) ∧ w = w' :=
  (Go.Proofs.Any.bits_Mul64 mul64A x y hx hy w).mono fun _ _ h => ⟨h.1, h.2.symm⟩
end Go.Proofs.Ytlnbadjjgbecgaa
