/-
  bits.Add64 and bits.Sub64: the shelf's laws of a call at this program.
-/
import Derived.Test.YtlnbadjjgbecgaaKit
import Derived.Shelf.Spec.BitsCarry
namespace Go.Proofs.Ytlnbadjjgbecgaa
open Go.RowKit
open Go.Shelf
-- AT2
def add64A_ren : Go.Shelf.Ren := ⟨fun | 25 => 38 | n => n, fun | 22 => 61 | n => n, fun | n => n⟩
theorem add64A : Go.Proofs.Lays7.n25 Try.prog add64A_ren := {
  mixed := by kernel_rfl
  f25 := Try.func38.trans (congrArg some (by kernel_rfl))
  t22 := Try.underlying61
  a22 := Try.isAgg61
  z22 := Try.sizeOf61
  v22 := Try.zeroValue61
  i22 := by kernel_rfl }
def sub64A_ren : Go.Shelf.Ren := ⟨fun | 26 => 39 | n => n, fun | 22 => 61 | n => n, fun | n => n⟩
theorem sub64A : Go.Proofs.Lays7.n26 Try.prog sub64A_ren := {
  mixed := by kernel_rfl
  f26 := Try.func39.trans (congrArg some (by kernel_rfl))
  t22 := Try.underlying61
  a22 := Try.isAgg61
  z22 := Try.sizeOf61
  v22 := Try.zeroValue61
  i22 := by kernel_rfl }

theorem add64_run {x y c k s : Nat} (hc : c ≤ 1) (e : x + y + c = k * 18446744073709551616 + s) (hs : s < 18446744073709551616) (w : World) : (callFunc 38 #[.int .u64 (x : Int), .int .u64 (y : Int), .int .u64 (c : Int)]).run Try.prog w = .ok (.value (.tuple #[.int .u64 (s : Int), .int .u64 (k : Int)])) w := by
  refine (Any7.bits_Add64 add64A x y c hc w).trans ?_
  rw [show (x + y + c) % 18446744073709551616 = s by omega, show (x + y + c) / 18446744073709551616 = k by omega]
theorem sub64_run {x y c k s : Nat} (hc : c ≤ 1) (hy : y < 18446744073709551616) (e : k * 18446744073709551616 + x = y + c + s) (hk : k ≤ 1) (hx : x < 18446744073709551616) (hs : s < 18446744073709551616) (w : World) : (callFunc 39 #[.int .u64 (x : Int), .int .u64 (y : Int), .int .u64 (c : Int)]).run Try.prog w = .ok (.value (.tuple #[.int .u64 (s : Int), .int .u64 (k : Int)])) w := by
  refine (Any7.bits_Sub64 sub64A x y c hc w).trans ?_
  rw [show (x + 18446744073709551616 - y - c) % 18446744073709551616 = s by omega, show (if x < y + c then 1 else 0) = k by split <;> omega]
end Go.Proofs.Ytlnbadjjgbecgaa
