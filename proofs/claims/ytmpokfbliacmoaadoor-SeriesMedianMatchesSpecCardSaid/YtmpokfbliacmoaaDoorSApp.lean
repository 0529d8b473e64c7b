/-
  Apply and Grain, the program's and the reference's: contracts.
-/
import Derived.Test.YtmpokfbliacmoaaDoorSCal2
namespace Go.Proofs.YtmpokfbliacmoaaDoor
open Go.RowKit
-- AT2

theorem Can.put {g : Nat → Ln} {n k : Nat} {lo hi v : Int} (hk : k < n) (h1 : (g k).f ≤ v) (h2 : v ≤ (g k).t) (h3 : lo ≤ (g k).a * v + (g k).b) (h4 : (g k).a * v + (g k).b ≤ hi) : Can g n lo hi v ((g k).a * v + (g k).b) := ⟨k, hk, h1, h2, rfl, h3, h4⟩
/-- No line of the first k has the value v with a number that can be. -/
def NoTo (g : Nat → Ln) (k : Nat) (lo hi v : Int) : Prop := ∀ m, ¬ Can g k lo hi v m
theorem NoTo.zero {g : Nat → Ln} {lo hi v : Int} : NoTo g 0 lo hi v := by rintro m ⟨k, hk, _⟩; omega
theorem NoTo.succ {g : Nat → Ln} {k : Nat} {lo hi v : Int} (h : NoTo g k lo hi v) (h' : ¬ ((g k).f ≤ v ∧ v ≤ (g k).t ∧ lo ≤ (g k).a * v + (g k).b ∧ (g k).a * v + (g k).b ≤ hi)) : NoTo g (k + 1) lo hi v := by
  intro m hm
  rcases hm.last with h1 | ⟨h1, h2, rfl, h3, h4⟩
  · exact h m h1
  · exact h' ⟨h1, h2, h3, h4⟩
theorem NoTo.only {g : Nat → Ln} {n k : Nat} {lo hi v : Int} (hG : Good g n) (hk : k < n) (h1 : (g k).f ≤ v) (h2 : v ≤ (g k).t) (h' : ¬ (lo ≤ (g k).a * v + (g k).b ∧ (g k).a * v + (g k).b ≤ hi)) : NoTo g n lo hi v := by
  rintro m ⟨j, hj, j1, j2, rfl, j3, j4⟩
  obtain rfl := hG.one hk hj h1 h2 j1 j2
  exact h' ⟨j3, j4⟩
/-- What apply leaves. -/
def AppPost (g : Nat → Ln) (n : Nat) (lo hi v : Int) (w : World) (e : Ending) (w' : World) : Prop := ∃ m is, e = .returned (.tuple #[.int .i64 m, .bool is]) ∧ App g n lo hi v m is ∧ ∃ x, w' = gx w x
theorem AppPost.no {g : Nat → Ln} {n : Nat} {lo hi v : Int} {w w' : World} (h : NoTo g n lo hi v) (hw : ∃ x, w' = gx w x) : AppPost g n lo hi v w (.returned (.tuple #[.int .i64 0, .bool false])) w' := ⟨0, false, rfl, .inr ⟨rfl, rfl, h⟩, hw⟩
theorem AppPost.yes {g : Nat → Ln} {n : Nat} {lo hi v m : Int} {w w' : World} (h : Can g n lo hi v m) (hw : ∃ x, w' = gx w x) : AppPost g n lo hi v w (.returned (.tuple #[.int .i64 m, .bool true])) w' := ⟨m, true, rfl, .inl ⟨rfl, h⟩, hw⟩

end Go.Proofs.YtmpokfbliacmoaaDoor
