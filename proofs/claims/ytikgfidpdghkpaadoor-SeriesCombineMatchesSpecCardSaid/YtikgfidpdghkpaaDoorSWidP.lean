/-
  Numbers of 128 bits with a sign, as mathematics; ratios.
-/
import Derived.Test.YtikgfidpdghkpaaDoorSRatP
namespace Go.Proofs.YtikgfidpdghkpaaDoor

/-- A number by its sign and its size. -/
def wdV (neg : Bool) (mag : Nat) : Int := if neg = true then -(mag : Int) else (mag : Int)
def wdN (a : Bool) (x : Nat) (b : Bool) (y : Nat) : Bool := if a = b then a else if x < y then b else a
def wdM (a : Bool) (x : Nat) (b : Bool) (y : Nat) : Nat := if a = b then x + y else if x < y then y - x else x - y
theorem wd_add (a : Bool) (x : Nat) (b : Bool) (y : Nat) : wdV (wdN a x b y) (wdM a x b y) = wdV a x + wdV b y := by
  unfold wdV wdN wdM
  by_cases h : x < y
  all_goals cases a <;> cases b <;> simp [h] <;> omega
theorem wdM_le (a : Bool) (x : Nat) (b : Bool) (y : Nat) : wdM a x b y ≤ x + y := by
  unfold wdM
  split
  · omega
  · split <;> omega
theorem wdV_abs (a : Bool) (x : Nat) : (wdV a x).natAbs = x := by
  unfold wdV; cases a <;> simp
theorem wd_prod (a : Int) (b : Nat) : wdV (decide (a < 0)) (a.natAbs * b) = a * b := by
  unfold wdV
  by_cases h : a < 0
  · rw [decide_eq_true h, if_pos rfl, Int.natCast_mul]
    have : (a.natAbs : Int) = -a := by omega
    rw [this, Int.neg_mul, Int.neg_neg]
  · rw [decide_eq_false h, if_neg (by decide), Int.natCast_mul]
    have : (a.natAbs : Int) = a := by omega
    rw [this]
theorem gcd_loop (a b : Nat) : Nat.gcd a b = Nat.gcd b (a % b) := by rw [Nat.gcd_comm, Nat.gcd_rec, Nat.gcd_comm]
theorem low_wd (neg : Bool) (mag den : Nat) (hd : 0 < den) : lowN (wdV neg mag) den = wdV neg (mag / Nat.gcd mag den) ∧ lowD (wdV neg mag) den = ((den / Nat.gcd mag den : Nat) : Int) := by
  have hg : Int.gcd (wdV neg mag) den = Nat.gcd mag den := by
    unfold Int.gcd; rw [wdV_abs]; rfl
  have h0 : 0 < Nat.gcd mag den := Nat.gcd_pos_of_pos_right _ hd
  unfold lowN lowD
  rw [hg]
  refine ⟨?_, ?_⟩
  · unfold wdV
    cases neg
    · simp only [Bool.false_eq_true, if_false]
      rw [Int.ofNat_tdiv]
    · simp only [if_true]
      rw [Int.neg_tdiv, Int.ofNat_tdiv]
  · rw [Int.ofNat_tdiv]
end Go.Proofs.YtikgfidpdghkpaaDoor
