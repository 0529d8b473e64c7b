/-
  Resample, the program's, of anything: a contract.
-/
import Derived.Test.YtjlokobgdkkppaaDoorSRsm
namespace Go.Proofs.YtjlokobgdkkppaaDoor
open Go.RowKit
-- AT2

theorem rsE_1 {den : Int} {g : Nat → Sm} {n : Nat} {fr st ct lg : Int} (h : holdE den g n fr lg ≠ 0) : rsE den g n fr st ct lg = holdE den g n fr lg := by unfold rsE; rw [if_pos h]
theorem rsE_2 {den : Int} {g : Nat → Sm} {n : Nat} {fr st ct lg : Int} (h : holdE den g n fr lg = 0) (h2 : ¬ ((1 ≤ st ∧ st ≤ 1099511627776) ∧ (0 ≤ ct ∧ ct ≤ 20000))) : rsE den g n fr st ct lg = 9 := by unfold rsE; rw [if_neg (fun k => k h), if_pos h2]
theorem rsE_3 {den : Int} {g : Nat → Sm} {n : Nat} {fr st ct lg : Int} (h : holdE den g n fr lg = 0) (h2 : (1 ≤ st ∧ st ≤ 1099511627776) ∧ (0 ≤ ct ∧ ct ≤ 20000)) (h3 : 0 < ct ∧ 1099511627776 < fr + (ct - 1) * st) : rsE den g n fr st ct lg = 9 := by unfold rsE; rw [if_neg (fun k => k h), if_neg (fun k => k h2), if_pos h3]
theorem rsE_4 {den : Int} {g : Nat → Sm} {n : Nat} {fr st ct lg : Int} (h : holdE den g n fr lg = 0) (h2 : (1 ≤ st ∧ st ≤ 1099511627776) ∧ (0 ≤ ct ∧ ct ≤ 20000)) (h3 : ¬ (0 < ct ∧ 1099511627776 < fr + (ct - 1) * st)) : rsE den g n fr st ct lg = 0 := by unfold rsE; rw [if_neg (fun k => k h), if_neg (fun k => k h2), if_neg h3]
attribute [local irreducible] rsE
theorem sum_ok {fr st ct : Int} (h1 : 1 ≤ st ∧ st ≤ 1099511627776) (h2 : 0 < ct ∧ ct ≤ 20000) (h3 : 0 ≤ fr ∧ fr ≤ 1099511627776) :
    IntKind.i64.wrap (ct - 1) = ct - 1 ∧ IntKind.i64.wrap ((ct - 1) * st) = (ct - 1) * st ∧ IntKind.i64.wrap (fr + (ct - 1) * st) = fr + (ct - 1) * st := by
  have a1 : 0 ≤ (ct - 1) * st := Int.mul_nonneg (by omega) (by omega)
  have a2 : (ct - 1) * st ≤ (ct - 1) * 1099511627776 := Int.mul_le_mul_of_nonneg_left (by omega) (by omega)
  generalize hq : (ct - 1) * st = q at *
  exact ⟨IntWalk.i64_in _ (by omega), IntWalk.i64_in _ (by omega), IntWalk.i64_in _ (by omega)⟩
set_option maxHeartbeats 4000000 in
set_option maxRecDepth 100000 in
theorem Resample_any (den : Int) (g : Nat → Sm) (n c : Nat) (A : Option Addr) (fr st ct lg : Int) (w : World) (hL : SmAt w g n A) (f : Nat → Sm) (hf : ∀ i, f i = rsF g n fr st lg i) :
    Calls Tryd.prog 24 #[serV den A n c, .int .i64 fr, .int .i64 st, .int .i64 ct, .int .i64 lg] w (SerPost w (if rsE den g n fr st ct lg = 0 then den else 0) f (if rsE den g n fr st ct lg = 0 then ct.toNat else 0) (rsE den g n fr st ct lg)) := by
  have hLw : SmAt ((w.alloc (.cells #[.int .i64 den, .slice A n c] 24)).alloc (.cells #[.int .i64 0, .slice none 0 0] 24)) g n A := hL.alloc.alloc
  have HC := fun W h => checkHold_any den g n c A fr lg W h
  by_cases h1 : holdE den g n fr lg = 0
  · by_cases h2 : (1 ≤ st ∧ st ≤ 1099511627776) ∧ (0 ≤ ct ∧ ct ≤ 20000)
    · by_cases h3 : 0 < ct ∧ 1099511627776 < fr + (ct - 1) * st
      · rw [rsE_3 h1 h2 h3, if_neg (by decide), if_neg (by decide)]
        obtain ⟨_, hfr, _⟩ := holdE_0 h1
        obtain ⟨w1, w2, w3⟩ := sum_ok h2.1 ⟨h3.1, h2.2.2⟩ hfr
        rw [h1] at HC
        have k1 : decide (st < 1) = false := decide_eq_false (by omega)
        have k2 : decide (1099511627776 < st) = false := decide_eq_false (by omega)
        have k3 : decide (ct < 0) = false := decide_eq_false (by omega)
        have k4 : decide (20000 < ct) = false := decide_eq_false (by omega)
        have k5 : decide (0 < ct) = true := decide_eq_true h3.1
        have k6 : decide (1099511627776 < fr + (ct - 1) * st) = true := decide_eq_true h3.2
        clear h1 h2 h3 hfr
        go_enter Tryd.func24, Tryd.ntmps24
        go_wp2_with (go_at_call 55; refine (HC _ hLw).mono ?_; rintro e w' ⟨rfl, z1, rfl⟩)
        refine bodyPost_ret (v := .tuple #[serV 0 none 0 0, .int .i64 9]) (by simp [results, Tryd.results24, go_sem]) rfl ?_
        exact SerPost.zero (by repeat (first | (with_reducible exact Gx.refl _) | (with_reducible assumption) | (with_reducible refine Gx.gx ?_) | (with_reducible refine Gx.alloc ?_) | (with_reducible refine Gx.drew ?_) | (with_reducible refine Gx.drewN ?_) | (with_reducible refine Gx.setRow ?_ (by simp)) | (with_reducible refine Gx.setCell ?_ (by simp))))
      · rw [rsE_4 h1 h2 h3, if_pos rfl, if_pos rfl]
        obtain ⟨cn, rfl⟩ : ∃ cn : Nat, ct = (cn : Int) := ⟨ct.toNat, by omega⟩
        rw [Int.toNat_natCast]
        exact Resample_go den g n c A fr st lg cn w hL h1 h2.1.1 h2.1.2 (by omega) (fun h => by
          by_cases h4 : 1099511627776 < fr + ((cn : Int) - 1) * st
          · exact absurd ⟨by omega, h4⟩ h3
          · omega) f hf
    · rw [rsE_2 h1 h2, if_neg (by decide), if_neg (by decide)]
      rw [h1] at HC
      have hs : (decide (st < 1) = true) ∨ (decide (st < 1) = false ∧ decide (1099511627776 < st) = true) ∨ (decide (st < 1) = false ∧ decide (1099511627776 < st) = false ∧ decide (ct < 0) = true) ∨ (decide (st < 1) = false ∧ decide (1099511627776 < st) = false ∧ decide (ct < 0) = false ∧ decide (20000 < ct) = true) := by
        simp only [decide_eq_true_eq, decide_eq_false_iff_not]
        omega
      clear h1 h2
      rcases hs with k1 | ⟨k1, k2⟩ | ⟨k1, k2, k3⟩ | ⟨k1, k2, k3, k4⟩
      all_goals go_enter Tryd.func24, Tryd.ntmps24
      all_goals go_wp2_with (go_at_call 55; refine (HC _ hLw).mono ?_; rintro e w' ⟨rfl, z1, rfl⟩)
      all_goals refine bodyPost_ret (v := .tuple #[serV 0 none 0 0, .int .i64 9]) (by simp [results, Tryd.results24, go_sem]) rfl ?_
      all_goals exact SerPost.zero (by repeat (first | (with_reducible exact Gx.refl _) | (with_reducible assumption) | (with_reducible refine Gx.gx ?_) | (with_reducible refine Gx.alloc ?_) | (with_reducible refine Gx.drew ?_) | (with_reducible refine Gx.drewN ?_) | (with_reducible refine Gx.setRow ?_ (by simp)) | (with_reducible refine Gx.setCell ?_ (by simp))))
  · rw [rsE_1 h1, if_neg h1, if_neg h1]
    have n1 := ne0 h1
    have n2 := ne0' h1
    clear h1
    generalize holdE den g n fr lg = q at *
    go_enter Tryd.func24, Tryd.ntmps24
    go_wp2_with (go_at_call 55; refine (HC _ hLw).mono ?_; rintro e w' ⟨rfl, z1, rfl⟩)
    refine bodyPost_ret (v := .tuple #[serV 0 none 0 0, .int .i64 q]) (by simp [results, Tryd.results24, go_sem]) rfl ?_
    exact SerPost.zero (by repeat (first | (with_reducible exact Gx.refl _) | (with_reducible assumption) | (with_reducible refine Gx.gx ?_) | (with_reducible refine Gx.alloc ?_) | (with_reducible refine Gx.drew ?_) | (with_reducible refine Gx.drewN ?_) | (with_reducible refine Gx.setRow ?_ (by simp)) | (with_reducible refine Gx.setCell ?_ (by simp))))
end Go.Proofs.YtjlokobgdkkppaaDoor
