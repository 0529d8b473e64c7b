/-
  CheckCalibration of any calibration, the program's and the reference's: contracts.
-/
import Derived.Test.YtmpokfbliacmoaaDoorSCal
namespace Go.Proofs.YtmpokfbliacmoaaDoor
open Go.RowKit
-- AT2

/-- A calibration's value. -/
abbrev calV (den : Int) (A : Option Addr) (n c : Nat) (lo hi : Int) : Value := .agg #[.int .i64 den, .slice A n c, .int .i64 lo, .int .i64 hi]
theorem calE_den {den : Int} {g : Nat → Ln} {n : Nat} {lo hi : Int} (h : inB 1 1000000 den = false) : calE den g n lo hi = 9 := by unfold calE; rw [if_pos (inB_no.1 h)]
theorem calE_n0 {den : Int} {g : Nat → Ln} {n : Nat} {lo hi : Int} (h : inB 1 1000000 den = true) (h0 : n = 0) : calE den g n lo hi = 13 := by unfold calE; rw [if_neg (fun h2 => h2 (inB_iff.1 h)), if_pos h0]
theorem calE_big {den : Int} {g : Nat → Ln} {n : Nat} {lo hi : Int} (h : inB 1 1000000 den = true) (h0 : 50 < n) : calE den g n lo hi = 3 := by unfold calE; rw [if_neg (fun h2 => h2 (inB_iff.1 h)), if_neg (by omega), if_pos h0]
theorem calE_lns {den : Int} {g : Nat → Ln} {n : Nat} {lo hi : Int} (h : inB 1 1000000 den = true) (h0 : 0 < n) (h1 : n ≤ 50) {e : Int} (h2 : lnsE g n = e) (he : e ≠ 0) : calE den g n lo hi = e := by
  unfold calE; rw [if_neg (fun h2 => h2 (inB_iff.1 h)), if_neg (by omega), if_neg (by omega), h2, if_pos he]
theorem calE_last {den : Int} {g : Nat → Ln} {n : Nat} {lo hi : Int} (h : inB 1 1000000 den = true) (h0 : 0 < n) (h1 : n ≤ 50) (h2 : lnsE g n = 0) : calE den g n lo hi = if ¬ (isN lo ∧ isN hi ∧ lo ≤ hi) then 9 else 0 := by
  unfold calE; rw [if_neg (fun h2 => h2 (inB_iff.1 h)), if_neg (by omega), if_neg (by omega), h2, if_neg (fun h => h rfl)]
theorem calE_ok {den : Int} {g : Nat → Ln} {n : Nat} {lo hi : Int} (h : calE den g n lo hi = 0) : 0 < n ∧ n ≤ 50 ∧ Good g n ∧ isN lo ∧ isN hi ∧ lo ≤ hi := by
  unfold calE at h
  split at h
  · omega
  · split at h
    · omega
    · split at h
      · omega
      · split at h
        · rename_i h2; exact absurd h h2
        · split at h
          · omega
          · rename_i h1 h2 h3 h4
            have h4' := Classical.byContradiction h4
            exact ⟨by omega, by omega, good_of (Classical.byContradiction h3), h4'⟩

/-- The four tests of a line, as the reference makes them. -/
theorem lB_in {l : Ln} : lB l = (inB (-1099511627776) 1099511627776 l.f && inB (-1099511627776) 1099511627776 l.t && decide (l.f ≤ l.t) && inB (-1048576) 1048576 l.a && inB (-1125899906842624) 1125899906842624 l.b) := by
  rw [Bool.eq_iff_iff, lB_iff]
  simp only [Bool.and_eq_true, inB_iff, decide_eq_true_eq]
  unfold lnOk
  constructor
  · rintro ⟨h1, h2, h3, h4, h5, h6, h7, h8, h9⟩
    exact ⟨⟨⟨⟨⟨h1, h2⟩, h3, h4⟩, h5⟩, h6, h7⟩, h8, h9⟩
  · rintro ⟨⟨⟨⟨⟨h1, h2⟩, h3, h4⟩, h5⟩, h6, h7⟩, h8, h9⟩
    exact ⟨h1, h2, h3, h4, h5, h6, h7, h8, h9⟩
theorem nB_in {n : Int} : nB n = inB (-1125899906842624) 1125899906842624 n := by
  rw [Bool.eq_iff_iff, nB_iff, inB_iff]; unfold isN; exact Iff.rfl
end Go.Proofs.YtmpokfbliacmoaaDoor
