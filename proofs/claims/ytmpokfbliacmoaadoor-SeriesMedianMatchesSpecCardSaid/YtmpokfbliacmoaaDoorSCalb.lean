/-
  Calibrate, the program's: contracts.
-/
import Derived.Test.YtmpokfbliacmoaaDoorSMade
import Derived.Test.YtmpokfbliacmoaaDoorSApp
import Derived.Test.YtmpokfbliacmoaaDoorSHolds
import Derived.BigRegion
namespace Go.Proofs.YtmpokfbliacmoaaDoor
open Go.RowKit
-- AT2
-- AT3

theorem App.ex (g : Nat → Ln) (n : Nat) (lo hi v : Int) : ∃ m is, App g n lo hi v m is := by
  by_cases h : ∃ m, Can g n lo hi v m
  · obtain ⟨m, hm⟩ := h; exact ⟨m, true, .inl ⟨rfl, hm⟩⟩
  · exact ⟨0, false, .inr ⟨rfl, rfl, fun m hm => h ⟨m, hm⟩⟩⟩
/-- The sample y is what x is by the calibration. -/
def CalIs (L : Nat → Ln) (n : Nat) (lo hi : Int) (x y : Sm) : Prop := (x.m < 2 ∧ y = x) ∨ (2 ≤ x.m ∧ ∃ m is, App L n lo hi x.n m is ∧ y = (if is = true then (⟨x.t, m, x.m⟩ : Sm) else ⟨x.t, 0, 1⟩))
theorem CalIs.ex (L : Nat → Ln) (n : Nat) (lo hi : Int) (x : Sm) : ∃ y, CalIs L n lo hi x y := by
  by_cases h : x.m < 2
  · exact ⟨x, .inl ⟨h, rfl⟩⟩
  · obtain ⟨m, is, ha⟩ := App.ex L n lo hi x.n
    exact ⟨_, .inr ⟨by omega, m, is, ha, rfl⟩⟩
/-- What Calibrate returns: a series, and an error. -/
def SerPost (w : World) (den : Int) (g : Nat → Sm) (n : Nat) (er : Int) (e : Ending) (w' : World) : Prop := ∃ A c x, e = .returned (.tuple #[serV den A n c, .int .i64 er]) ∧ w' = gx w x ∧ SmAt w' g n A
theorem SerPost.mk {w w' : World} {den er : Int} {g : Nat → Sm} {n c : Nat} {A : Option Addr} (hw : ∃ x, w' = gx w x) (h : SmAt w' g n A) : SerPost w den g n er (.returned (.tuple #[serV den A n c, .int .i64 er])) w' := by
  obtain ⟨x, rfl⟩ := hw
  exact ⟨A, c, x, rfl, rfl, h⟩
theorem LnAt.alloc {w : World} {g : Nat → Ln} {n : Nat} {A : Option Addr} {o : Obj} (h : LnAt w g n A) : LnAt (w.alloc o) g n A := by rw [alloc_is]; exact h.gx
theorem SmAt.none (w : World) (g : Nat → Sm) (A : Option Addr) : SmAt w g 0 A := SmAt.mk fun h => by omega
end Go.Proofs.YtmpokfbliacmoaaDoor
