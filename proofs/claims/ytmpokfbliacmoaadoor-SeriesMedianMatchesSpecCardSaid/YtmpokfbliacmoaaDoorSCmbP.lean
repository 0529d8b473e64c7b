/-
  Two series combined, as mathematics.
-/
import Derived.Test.YtmpokfbliacmoaaDoorSPureS
namespace Go.Proofs.YtmpokfbliacmoaaDoor

/-- What is wrong with two series that go together. -/
def pairE (den : Int) (g : Nat → Sm) (n : Nat) (den2 : Int) (h : Nat → Sm) (m : Nat) : Int := if serE den g n ≠ 0 then serE den g n else if serE den2 h m ≠ 0 then serE den2 h m else if den ≠ den2 then 2 else 0
theorem pairE_1 {den den2 : Int} {g h : Nat → Sm} {n m : Nat} (h1 : serE den g n ≠ 0) : pairE den g n den2 h m = serE den g n := by unfold pairE; rw [if_pos h1]
theorem pairE_2 {den den2 : Int} {g h : Nat → Sm} {n m : Nat} (h1 : serE den g n = 0) (h2 : serE den2 h m ≠ 0) : pairE den g n den2 h m = serE den2 h m := by unfold pairE; rw [if_neg (fun k => k h1), if_pos h2]
theorem pairE_3 {den den2 : Int} {g h : Nat → Sm} {n m : Nat} (h1 : serE den g n = 0) (h2 : serE den2 h m = 0) (h3 : den ≠ den2) : pairE den g n den2 h m = 2 := by unfold pairE; rw [if_neg (fun k => k h1), if_neg (fun k => k h2), if_pos h3]
theorem pairE_4 {den den2 : Int} {g h : Nat → Sm} {n m : Nat} (h1 : serE den g n = 0) (h2 : serE den2 h m = 0) (h3 : den = den2) : pairE den g n den2 h m = 0 := by unfold pairE; rw [if_neg (fun k => k h1), if_neg (fun k => k h2), if_neg (fun k => k h3)]
theorem pairE_0 {den den2 : Int} {g h : Nat → Sm} {n m : Nat} (e : pairE den g n den2 h m = 0) : serE den g n = 0 ∧ serE den2 h m = 0 ∧ den = den2 := by
  by_cases h1 : serE den g n = 0
  · by_cases h2 : serE den2 h m = 0
    · by_cases h3 : den = den2
      · exact ⟨h1, h2, h3⟩
      · rw [pairE_3 h1 h2 h3] at e; omega
    · rw [pairE_2 h1 h2] at e; exact absurd e h2
  · rw [pairE_1 h1] at e; exact absurd e h1
attribute [irreducible] pairE
end Go.Proofs.YtmpokfbliacmoaaDoor
