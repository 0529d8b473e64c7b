/-
  sort.Search: the shelf's contract at this program.
-/
import Derived.Test.YtbhcjaejkplfeaaGreatDoorSSer
import Derived.Shelf.SlSorted.Search
namespace Go.Proofs.YtbhcjaejkplfeaaGreatDoor
open Go.RowKit
open Go.Shelf Go.Sort
-- AT2
def searchA_ren : Go.Shelf.Ren := ⟨fun | 16 => 114 | n => n, fun | 3 => 3 | 35 => 85 | 4 => 4 | 38 => 158 | n => n, fun | n => n⟩
theorem searchA : Go.Proofs.SlLaysO.n16 Tryz.prog searchA_ren := {
  mixed := by kernel_rfl
  f16 := Tryz.func114.trans (congrArg some (by kernel_rfl))
  t3 := Tryz.underlying3
  a3 := Tryz.isAgg3
  z3 := Tryz.sizeOf3
  v3 := Tryz.zeroValue3
  t4 := Tryz.underlying4
  a4 := Tryz.isAgg4
  z4 := Tryz.sizeOf4
  v4 := Tryz.zeroValue4
  t35 := Tryz.underlying85
  a35 := Tryz.isAgg85
  z35 := Tryz.sizeOf85
  v35 := Tryz.zeroValue85
  t38 := Tryz.underlying158
  a38 := Tryz.isAgg158
  z38 := Tryz.sizeOf158
  v38 := Tryz.zeroValue158 }

theorem grow_is (w : World) (q : Nat) (os : Array Obj) : ∃ x, Go.Sort.grow (w.drewN q) os = gx w x := by
  obtain ⟨x, hx⟩ := gx_of_below (Go.Proofs.below_grown_sl w.heap.size w q os (Nat.le_refl _))
  exact ⟨x, hx⟩
theorem Search_any (g : Nat) (cb : Array Value) (n : Nat) (p : Nat → Bool) (w : World) (eg : ∀ args w, (callFunc g args).run Tryz.prog w = .ok (.enter g args) w) (hsz : n < 4611686018427387904)
    (hf : ∀ (W : World), (∃ x, W = gx w x) → ∀ i : Nat, i < n → Calls Tryz.prog g (#[.int .i64 i] ++ cb) W fun e w' => e = .returned (.bool (p i)) ∧ ∃ q os, w' = Go.Sort.grow (W.drewN q) os)
    (hmono : ∀ a b, a ≤ b → b < n → p a = true → p b = true) :
    Calls Tryz.prog 114 #[.int .i64 n, .func (.func g) #[] cb] w fun e w' => e = .returned (.int .i64 ((List.range n).countP (fun i => !p i) : Nat)) ∧ ∃ x, w' = gx w x := by
  refine (Go.Proofs.Any.sort_Search searchA g cb n p w eg hsz (fun m os i hi => hf _ (grow_is w m os) i hi) hmono).mono ?_
  rintro e w' ⟨he, q, os, rfl⟩
  exact ⟨he, grow_is w q os⟩
end Go.Proofs.YtbhcjaejkplfeaaGreatDoor
