/-
  Resample, the program's, of anything: a contract.
-/
import Derived.Test.YtmpokfbliacmoaaDoorSRsm
namespace Go.Proofs.YtmpokfbliacmoaaDoor
open Go.RowKit
-- AT2

theorem rsE_1 {den : Int} {g : Nat → Sm} {n : Nat} {fr st ct lg : Int} (h : holdE den g n fr lg ≠ 0) : rsE den g n fr st ct lg = holdE den g n fr lg := by unfold rsE; rw [if_pos h]
theorem rsE_2 {den : Int} {g : Nat → Sm} {n : Nat} {fr st ct lg : Int} (h : holdE den g n fr lg = 0) (h2 : ¬ ((1 ≤ st ∧ st ≤ 1099511627776) ∧ (0 ≤ ct ∧ ct ≤ 20000))) : rsE den g n fr st ct lg = 9 := by unfold rsE; rw [if_neg (fun k => k h), if_pos h2]
theorem rsE_3 {den : Int} {g : Nat → Sm} {n : Nat} {fr st ct lg : Int} (h : holdE den g n fr lg = 0) (h2 : (1 ≤ st ∧ st ≤ 1099511627776) ∧ (0 ≤ ct ∧ ct ≤ 20000)) (h3 : 0 < ct ∧ 1099511627776 < fr + (ct - 1) * st) : rsE den g n fr st ct lg = 9 := by unfold rsE; rw [if_neg (fun k => k h), if_neg (fun k => k h2), if_pos h3]
theorem rsE_4 {den : Int} {g : Nat → Sm} {n : Nat} {fr st ct lg : Int} (h : holdE den g n fr lg = 0) (h2 : (1 ≤ st ∧ st ≤ 1099511627776) ∧ (0 ≤ ct ∧ ct ≤ 20000)) (h3 : ¬ (0 < ct ∧ 1099511627776 < fr + (ct - 1) * st)) : rsE den g n fr st ct lg = 0 := by unfold rsE; rw [if_neg (fun k => k h), if_neg (fun k => k h2), if_neg h3]
attribute [local irreducible] rsE
theorem sum_ok {fr st ct : Int} (h1 : 1 ≤ st ∧ st ≤ 1099511627776) (h2 : 0 < ct ∧ ct ≤ 20000) (h3 : 0 ≤ fr ∧ fr ≤ 1099511627776) :
    IntKind.i64.wrap (ct - 1) = ct - 1 ∧ IntKind.i64.wrap ((ct - 1) * st) = (ct - 1) * st ∧ IntKind.i64.wrap (fr + (ct - 1) * st) = fr + (ct - 1) * st := by
  have a1 : 0 ≤ (ct - 1) * st := Int.mul_nonneg (by omega) (by omega)
  have a2 : (ct - 1) * st ≤ (ct - 1) * 1099511627776 := Int.mul_le_mul_of_nonneg_left (by omega) (by omega)
  generalize hq : (ct - 1) * st = q at *
  exact ⟨IntWalk.i64_in _ (by omega), IntWalk.i64_in _ (by omega), IntWalk.i64_in _ (by omega)⟩
end Go.Proofs.YtmpokfbliacmoaaDoor
