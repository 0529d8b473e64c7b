/-
  What Combine makes, as mathematics.
-/
import Derived.Test.YtmpokfbliacmoaaDoorSStpP
import Derived.Test.YtmpokfbliacmoaaDoorSHold
namespace Go.Proofs.YtmpokfbliacmoaaDoor

/-- The sample k of a combination. -/
def cbS (op : Int) (g h : Nat → Sm) (m : Nat) (lg : Int) (k : Nat) : Sm :=
  if 3 ≤ (g k).m ∧ heldB h (aheadN h ((g k).t + 1) m) (g k).t lg = true then ⟨(g k).t, opN op (g k).n (heldV h (aheadN h ((g k).t + 1) m) (g k).t lg).n, min (g k).m (heldV h (aheadN h ((g k).t + 1) m) (g k).t lg).m⟩ else ⟨(g k).t, 0, 0⟩
theorem cbS_yes {op : Int} {g h : Nat → Sm} {m : Nat} {lg : Int} {k : Nat} (h1 : 3 ≤ (g k).m) (h2 : heldB h (aheadN h ((g k).t + 1) m) (g k).t lg = true) :
    cbS op g h m lg k = ⟨(g k).t, opN op (g k).n (heldV h (aheadN h ((g k).t + 1) m) (g k).t lg).n, min (g k).m (heldV h (aheadN h ((g k).t + 1) m) (g k).t lg).m⟩ := by unfold cbS; rw [if_pos ⟨h1, h2⟩]
theorem cbS_no {op : Int} {g h : Nat → Sm} {m : Nat} {lg : Int} {k : Nat} (h1 : ¬ (3 ≤ (g k).m ∧ heldB h (aheadN h ((g k).t + 1) m) (g k).t lg = true)) : cbS op g h m lg k = ⟨(g k).t, 0, 0⟩ := by unfold cbS; rw [if_neg h1]
/-- What is wrong with its number. -/
def cbN (op : Int) (g h : Nat → Sm) (m : Nat) (lg : Int) (k : Nat) : Int := if -1125899906842624 ≤ (cbS op g h m lg k).n ∧ (cbS op g h m lg k).n ≤ 1125899906842624 then 0 else 9
def cbE (den : Int) (g : Nat → Sm) (n : Nat) (den2 : Int) (h : Nat → Sm) (m : Nat) (op lg : Int) : Int :=
  if pairE den g n den2 h m ≠ 0 then pairE den g n den2 h m else if ¬ (1 ≤ op ∧ op ≤ 5) then 7 else if ¬ (0 ≤ lg ∧ lg ≤ 1099511627776) then 9 else firstOf (cbN op g h m lg) n
theorem cbE_1 {den den2 : Int} {g h : Nat → Sm} {n m : Nat} {op lg : Int} (h1 : pairE den g n den2 h m ≠ 0) : cbE den g n den2 h m op lg = pairE den g n den2 h m := by unfold cbE; rw [if_pos h1]
theorem cbE_2 {den den2 : Int} {g h : Nat → Sm} {n m : Nat} {op lg : Int} (h1 : pairE den g n den2 h m = 0) (h2 : ¬ (1 ≤ op ∧ op ≤ 5)) : cbE den g n den2 h m op lg = 7 := by unfold cbE; rw [if_neg (fun k => k h1), if_pos h2]
theorem cbE_3 {den den2 : Int} {g h : Nat → Sm} {n m : Nat} {op lg : Int} (h1 : pairE den g n den2 h m = 0) (h2 : 1 ≤ op ∧ op ≤ 5) (h3 : ¬ (0 ≤ lg ∧ lg ≤ 1099511627776)) : cbE den g n den2 h m op lg = 9 := by unfold cbE; rw [if_neg (fun k => k h1), if_neg (fun k => k h2), if_pos h3]
theorem cbE_4 {den den2 : Int} {g h : Nat → Sm} {n m : Nat} {op lg : Int} (h1 : pairE den g n den2 h m = 0) (h2 : 1 ≤ op ∧ op ≤ 5) (h3 : 0 ≤ lg ∧ lg ≤ 1099511627776) : cbE den g n den2 h m op lg = firstOf (cbN op g h m lg) n := by unfold cbE; rw [if_neg (fun k => k h1), if_neg (fun k => k h2), if_neg (fun k => k h3)]
attribute [irreducible] cbE
end Go.Proofs.YtmpokfbliacmoaaDoor
