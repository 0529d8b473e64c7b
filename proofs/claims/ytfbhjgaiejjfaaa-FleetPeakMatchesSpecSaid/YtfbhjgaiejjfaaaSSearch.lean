/-
  sort.Search: the shelf's contract at this program.
-/
import Derived.Test.YtfbhjgaiejjfaaaSSer
import Derived.Shelf.SlSorted.Search
namespace Go.Proofs.Ytfbhjgaiejjfaaa
open Go.RowKit
open Go.Shelf Go.Sort
-- AT2
def searchA_ren : Go.Shelf.Ren := ⟨fun | 16 => 50 | n => n, fun | 3 => 3 | 35 => 74 | 4 => 4 | 38 => 99 | n => n, fun | n => n⟩
theorem searchA : Go.Proofs.SlLaysO.n16 Try.prog searchA_ren := {
  mixed := by kernel_rfl
  f16 := Try.func50.trans (congrArg some (by kernel_rfl))
  t3 := Try.underlying3
  a3 := Try.isAgg3
  z3 := Try.sizeOf3
  v3 := Try.zeroValue3
  t4 := Try.underlying4
  a4 := Try.isAgg4
  z4 := Try.sizeOf4
  v4 := Try.zeroValue4
  t35 := Try.underlying74
  a35 := Try.isAgg74
  z35 := Try.sizeOf74
  v35 := Try.zeroValue74
  t38 := Try.underlying99
  a38 := Try.isAgg99
  z38 := Try.sizeOf99
  v38 := Try.zeroValue99 }

theorem grow_is (w : World) (q : Nat) (os : Array Obj) : ∃ x, Go.Sort.grow (w.drewN q) os = gx w x := by
  obtain ⟨x, hx⟩ := gx_of_below (Go.Proofs.below_grown_sl w.heap.size w q os (Nat.le_refl _))
  exact ⟨x, hx⟩
theorem Search_any (g : Nat) (cb : Array Value) (n : Nat) (p : Nat → Bool) (w : World) (eg : ∀ args w, (callFunc g args).run Try.prog w = .ok (.enter g args) w) (hsz : n < 4611686018427387904)
    (hf : ∀ (W : World), (∃ x, W = gx w x) → ∀ i : Nat, i < n → Calls Try.prog g (#[.int .i64 i] ++ cb) W fun e w' => e = .returned (.bool (p i)) ∧ ∃ q os, w' = Go.Sort.grow (W.drewN q) os)
    (hmono : ∀ a b, a ≤ b → b < n → p a = true → p b = true) :
    Calls Try.prog 50 #[.int .i64 n, .func (.func g) #[] cb] w fun e w' => e = .returned (.int .i64 ((List.range n).countP (fun i => !p i) : Nat)) ∧ ∃ x, w' = gx w x := by
  refine (Go.Proofs.Any.sort_Search searchA g cb n p w eg hsz (fun m os i hi => hf _ (grow_is w m os) i hi) hmono).mono ?_
  rintro e w' ⟨he, q, os, rfl⟩
  exact ⟨he, grow_is w q os⟩
end Go.Proofs.Ytfbhjgaiejjfaaa
