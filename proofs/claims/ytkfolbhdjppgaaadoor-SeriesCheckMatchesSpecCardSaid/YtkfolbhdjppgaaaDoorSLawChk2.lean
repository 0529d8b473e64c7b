/-
  The law SeriesCheckMatchesSpec.
-/
import Derived.Test.YtkfolbhdjppgaaaDoorSLawChk
namespace Go.Proofs.YtkfolbhdjppgaaaDoor
open Go.RowKit

theorem ptE_fit (den : Int) (g : Nat → Sm) (n : Nat) (fr to : Int) : Fit (ptE den g n fr to) := by
  by_cases h : serE den g n = 0
  · by_cases h2 : 0 ≤ fr ∧ fr ≤ to ∧ to ≤ 1099511627777
    · rw [ptE_3 h h2]; unfold Fit; omega
    · rw [ptE_2 h h2]; unfold Fit; omega
  · rw [ptE_1 h]; exact serE_fit _ _ _
theorem ptE_0 {den : Int} {g : Nat → Sm} {n : Nat} {fr to : Int} (h : ptE den g n fr to = 0) : serE den g n = 0 := by
  by_cases h1 : serE den g n = 0
  · exact h1
  · rw [ptE_1 h1] at h; exact h
theorem chkLaw (den : Int) (A : Option Addr) (n c : Nat) (hN : A = none → n = 0 ∧ c = 0) (hnc : n ≤ c) (g : Nat → Sm) (fr to : Int) (w : World) (hp : Pow w) (hL : SmAt w g n A) :
    Calls Tryd.prog 3 #[serV den A n c, .int .i64 fr, .int .i64 to] w fun e w' => e = .returned (.bool true) ∧ ∃ x, w' = gx w x := by
  obtain ⟨ma, mb, mc, md, me, hmk⟩ : ∃ ma mb mc md me : Int, mkV den g n = .agg #[.int .i64 ma, .int .i64 mb, .int .i64 mc, .int .i64 md, .int .i64 me] := by
    unfold mkV mkA
    split <;> exact ⟨_, _, _, _, _, rfl⟩
  have hfit := ptE_fit den g n fr to
  have hd : Fit (if ptE den g n fr to = 0 then den else 0) := by
    by_cases h : ptE den g n fr to = 0
    · rw [if_pos h]; have := (goodS_of (ptE_0 h)).1; unfold Fit; omega
    · rw [if_neg h]; unfold Fit; omega
  have hn : (if ptE den g n fr to = 0 then aheadN g to n - aheadN g fr n else 0) ≤ 1000000 ∧ FitS (ptF g (aheadN g fr n)) (if ptE den g n fr to = 0 then aheadN g to n - aheadN g fr n else 0) := by
    by_cases h : ptE den g n fr to = 0
    · rw [if_pos h]
      obtain ⟨_, h3, h4⟩ := goodS_of (ptE_0 h)
      have h5 := aheadN_le g to n
      refine ⟨by omega, fun i hi => ?_⟩
      have h6 := h4.ok (aheadN g fr n + i) (by omega)
      unfold smOk at h6
      unfold ptF Fit
      omega
    · rw [if_neg h]; exact ⟨by omega, fun i hi => by omega⟩
  refine chkLaw_core _ den A n c rfl fr to w ma mb mc md me (serE den g n) (rgA den g n) (rgB den g n) (rgE den g n) (if ptE den g n fr to = 0 then den else 0) (ptE den g n fr to) (if ptE den g n fr to = 0 then aheadN g to n - aheadN g fr n else 0) (ptF g (aheadN g fr n)) (toldT (if ptE den g n fr to = 0 then den else 0) (ptF g (aheadN g fr n)) (if ptE den g n fr to = 0 then aheadN g to n - aheadN g fr n else 0) (ptE den g n fr to)) ?_ ?_ ?_ ?_ ?_ ?_ ?_ ?_ ?_
  · rintro W ⟨x, rfl⟩; have := Marks_any den g n c A _ (hL.gx (x := x)); rw [hmk] at this; exact this
  · rintro W ⟨x, rfl⟩; have := RMarks_any den g n c A _ (hL.gx (x := x)); rw [hmk] at this; exact this
  · rintro W ⟨x, rfl⟩; exact Check_any den g n c A _ hL.gx
  · rintro W ⟨x, rfl⟩; exact RCheck_any den g n c A _ hL.gx
  · rintro W ⟨x, rfl⟩; exact Range_any den g n c A _ hL.gx
  · rintro W ⟨x, rfl⟩; exact RRange_any den g n c A _ hL.gx
  · rintro W ⟨x, rfl⟩; exact Part_any den g n c A hN hnc fr to _ hL.gx
  · rintro W ⟨x, rfl⟩; exact RPart_any den g n c A fr to _ hL.gx
  · rintro W A' c' hs ⟨x, rfl⟩
    exact told_any _ _ _ _ c' A' _ hd hn.2 hn.1 hfit hp.gx.here hs
end Go.Proofs.YtkfolbhdjppgaaaDoor
