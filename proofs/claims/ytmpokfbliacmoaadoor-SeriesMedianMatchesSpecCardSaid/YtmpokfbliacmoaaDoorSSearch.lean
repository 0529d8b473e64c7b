/-
  sort.Search: the shelf's contract at this program.
-/
import Derived.Test.YtmpokfbliacmoaaDoorSSer
import Derived.Shelf.SlSorted.Search
namespace Go.Proofs.YtmpokfbliacmoaaDoor
open Go.RowKit
open Go.Shelf Go.Sort
-- AT2
def searchA_ren : Go.Shelf.Ren := ⟨fun | 16 => 55 | n => n, fun | 3 => 3 | 35 => 60 | 4 => 4 | 38 => 66 | n => n, fun | n => n⟩
theorem searchA : Go.Proofs.SlLaysO.n16 Tryd.prog searchA_ren := {
  mixed := by kernel_rfl
  f16 := Tryd.func55.trans (congrArg some (by kernel_rfl))
  t3 := Tryd.underlying3
  a3 := Tryd.isAgg3
  z3 := Tryd.sizeOf3
  v3 := Tryd.zeroValue3
  t4 := Tryd.underlying4
  a4 := Tryd.isAgg4
  z4 := Tryd.sizeOf4
  v4 := Tryd.zeroValue4
  t35 := Tryd.underlying60
  a35 := Tryd.isAgg60
  z35 := Tryd.sizeOf60
  v35 := Tryd.zeroValue60
  t38 := Tryd.underlying66
  a38 := Tryd.isAgg66
  z38 := Tryd.sizeOf66
  v38 := Tryd.zeroValue66 }

theorem grow_is (w : World) (q : Nat) (os : Array Obj) : ∃ x, Go.Sort.grow (w.drewN q) os = gx w x := by
  obtain ⟨x, hx⟩ := gx_of_below (Go.Proofs.below_grown_sl w.heap.size w q os (Nat.le_refl _))
  exact ⟨x, hx⟩
theorem Search_any (g : Nat) (cb : Array Value) (n : Nat) (p : Nat → Bool) (w : World) (eg : ∀ args w, (callFunc g args).run Tryd.prog w = .ok (.enter g args) w) (hsz : n < 4611686018427387904)
    (hf : ∀ (W : World), (∃ x, W = gx w x) → ∀ i : Nat, i < n → Calls Tryd.prog g (#[.int .i64 i] ++ cb) W fun e w' => e = .returned (.bool (p i)) ∧ ∃ q os, w' = Go.Sort.grow (W.drewN q) os)
    (hmono : ∀ a b, a ≤ b → b < n → p a = true → p b = true) :
    Calls Tryd.prog 55 #[.int .i64 n, .func (.func g) #[] cb] w fun e w' => e = .returned (.int .i64 ((List.range n).countP (fun i => !p i) : Nat)) ∧ ∃ x, w' = gx w x := by
  refine (Go.Proofs.Any.sort_Search searchA g cb n p w eg hsz (fun m os i hi => hf _ (grow_is w m os) i hi) hmono).mono ?_
  rintro e w' ⟨he, q, os, rfl⟩
  exact ⟨he, grow_is w q os⟩
end Go.Proofs.YtmpokfbliacmoaaDoor
