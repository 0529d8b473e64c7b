/-
  Resample, the reference's, of anything: a contract.
-/
import Derived.Test.YtkfolbhdjppgaaaDoorSRRsm
namespace Go.Proofs.YtkfolbhdjppgaaaDoor
open Go.RowKit
-- AT2

attribute [local irreducible] rsE
set_option maxHeartbeats 4000000 in
set_option maxRecDepth 100000 in
theorem RResample_any (den : Int) (g : Nat → Sm) (n c : Nat) (A : Option Addr) (fr st ct lg : Int) (w : World) (hL : SmAt w g n A) (f : Nat → Sm) (hf : ∀ i, f i = rsF g n fr st lg i) :
    Calls Tryd.prog 25 #[serV den A n c, .int .i64 fr, .int .i64 st, .int .i64 ct, .int .i64 lg] w (SerPost w (if rsE den g n fr st ct lg = 0 then den else 0) f (if rsE den g n fr st ct lg = 0 then ct.toNat else 0) (rsE den g n fr st ct lg)) := by
  have hLw : SmAt ((w.alloc (.cells #[.int .i64 den, .slice A n c] 24)).alloc (.cells #[.int .i64 0, .slice none 0 0] 24)) g n A := hL.alloc.alloc
  have HC := fun W h => RCheck_any den g n c A W h
  by_cases h0 : serE den g n = 0
  · by_cases h2 : (inB 0 1099511627776 fr && inB 0 1099511627776 lg) = true ∧ (1 ≤ st ∧ st ≤ 1099511627776) ∧ (0 ≤ ct ∧ ct ≤ 20000)
    · obtain ⟨h1, h2⟩ := h2
      have h1' : holdE den g n fr lg = 0 := by rw [holdE_is h0, if_pos h1]
      by_cases h3 : 0 < ct ∧ 1099511627776 < fr + (ct - 1) * st
      · rw [rsE_3 h1' h2 h3, if_neg (by decide), if_neg (by decide)]
        rw [Bool.and_eq_true] at h1
        obtain ⟨b1, b2⟩ := h1
        obtain ⟨w1, w2, w3⟩ := sum_ok h2.1 ⟨h3.1, h2.2.2⟩ (inB_iff.1 b1)
        rw [h0] at HC
        have b3 : inB 1 1099511627776 st = true := inB_iff.2 h2.1
        have b4 : inB 0 20000 ct = true := inB_iff.2 h2.2
        have k5 : decide (0 < ct) = true := decide_eq_true h3.1
        have k6 : decide (1099511627776 < fr + (ct - 1) * st) = true := decide_eq_true h3.2
        clear h0 h1' h2 h3
        go_enter Tryd.func25, Tryd.ntmps25
        go_wp2_with first
          | (go_at_call 13; refine (HC _ hLw).mono ?_; rintro e w' ⟨rfl, z1, rfl⟩)
          | (go_at_call 57; refine (outside_any _ _ _ _).mono ?_; (first | rw [b1] | rw [b2] | rw [b3] | rw [b4]); rintro e w' ⟨rfl, rfl⟩)
        refine bodyPost_ret (v := .tuple #[serV 0 none 0 0, .int .i64 9]) (by simp [results, Tryd.results25, go_sem]) rfl ?_
        exact SerPost.zero (by repeat (first | (with_reducible exact Gx.refl _) | (with_reducible assumption) | (with_reducible refine Gx.gx ?_) | (with_reducible refine Gx.alloc ?_) | (with_reducible refine Gx.drew ?_) | (with_reducible refine Gx.drewN ?_) | (with_reducible refine Gx.setRow ?_ (by simp)) | (with_reducible refine Gx.setCell ?_ (by simp))))
      · rw [rsE_4 h1' h2 h3, if_pos rfl, if_pos rfl]
        obtain ⟨cn, rfl⟩ : ∃ cn : Nat, ct = (cn : Int) := ⟨ct.toNat, by omega⟩
        rw [Int.toNat_natCast]
        exact RResample_go den g n c A fr st lg cn w hL h1' h2.1.1 h2.1.2 (by omega) (fun h => by
          by_cases h4 : 1099511627776 < fr + ((cn : Int) - 1) * st
          · exact absurd ⟨by omega, h4⟩ h3
          · omega) f hf
    · have E9 : rsE den g n fr st ct lg = 9 := by
        by_cases h1 : (inB 0 1099511627776 fr && inB 0 1099511627776 lg) = true
        · exact rsE_2 (by rw [holdE_is h0, if_pos h1]) (fun h => h2 ⟨h1, h⟩)
        · have : holdE den g n fr lg = 9 := by rw [holdE_is h0, if_neg h1]
          rw [rsE_1 (by omega), this]
      rw [E9, if_neg (by decide), if_neg (by decide)]
      rw [h0] at HC
      have hs : inB 0 1099511627776 fr = false ∨ (inB 0 1099511627776 fr = true ∧ inB 0 1099511627776 lg = false) ∨ (inB 0 1099511627776 fr = true ∧ inB 0 1099511627776 lg = true ∧ inB 1 1099511627776 st = false) ∨ (inB 0 1099511627776 fr = true ∧ inB 0 1099511627776 lg = true ∧ inB 1 1099511627776 st = true ∧ inB 0 20000 ct = false) := by
        rw [Bool.and_eq_true, ← inB_iff, ← inB_iff] at h2
        revert h2
        cases inB 0 1099511627776 fr <;> cases inB 0 1099511627776 lg <;> cases inB 1 1099511627776 st <;> cases inB 0 20000 ct <;> simp
      clear h0 h2 E9
      rcases hs with b1 | ⟨b1, b2⟩ | ⟨b1, b2, b3⟩ | ⟨b1, b2, b3, b4⟩
      all_goals go_enter Tryd.func25, Tryd.ntmps25
      · go_wp2_with first
          | (go_at_call 13; refine (HC _ hLw).mono ?_; rintro e w' ⟨rfl, z1, rfl⟩)
          | (go_at_call 57; refine (outside_any _ _ _ _).mono ?_; rw [b1]; rintro e w' ⟨rfl, rfl⟩)
        refine bodyPost_ret (v := .tuple #[serV 0 none 0 0, .int .i64 9]) (by simp [results, Tryd.results25, go_sem]) rfl ?_
        exact SerPost.zero (by repeat (first | (with_reducible exact Gx.refl _) | (with_reducible assumption) | (with_reducible refine Gx.gx ?_) | (with_reducible refine Gx.alloc ?_) | (with_reducible refine Gx.drew ?_) | (with_reducible refine Gx.drewN ?_) | (with_reducible refine Gx.setRow ?_ (by simp)) | (with_reducible refine Gx.setCell ?_ (by simp))))
      · go_wp2_with first
          | (go_at_call 13; refine (HC _ hLw).mono ?_; rintro e w' ⟨rfl, z1, rfl⟩)
          | (go_at_call 57; refine (outside_any _ _ _ _).mono ?_; (first | rw [b1] | rw [b2]); rintro e w' ⟨rfl, rfl⟩)
        refine bodyPost_ret (v := .tuple #[serV 0 none 0 0, .int .i64 9]) (by simp [results, Tryd.results25, go_sem]) rfl ?_
        exact SerPost.zero (by repeat (first | (with_reducible exact Gx.refl _) | (with_reducible assumption) | (with_reducible refine Gx.gx ?_) | (with_reducible refine Gx.alloc ?_) | (with_reducible refine Gx.drew ?_) | (with_reducible refine Gx.drewN ?_) | (with_reducible refine Gx.setRow ?_ (by simp)) | (with_reducible refine Gx.setCell ?_ (by simp))))
      · go_wp2_with first
          | (go_at_call 13; refine (HC _ hLw).mono ?_; rintro e w' ⟨rfl, z1, rfl⟩)
          | (go_at_call 57; refine (outside_any _ _ _ _).mono ?_; (first | rw [b1] | rw [b2] | rw [b3]); rintro e w' ⟨rfl, rfl⟩)
        refine bodyPost_ret (v := .tuple #[serV 0 none 0 0, .int .i64 9]) (by simp [results, Tryd.results25, go_sem]) rfl ?_
        exact SerPost.zero (by repeat (first | (with_reducible exact Gx.refl _) | (with_reducible assumption) | (with_reducible refine Gx.gx ?_) | (with_reducible refine Gx.alloc ?_) | (with_reducible refine Gx.drew ?_) | (with_reducible refine Gx.drewN ?_) | (with_reducible refine Gx.setRow ?_ (by simp)) | (with_reducible refine Gx.setCell ?_ (by simp))))
      · go_wp2_with first
          | (go_at_call 13; refine (HC _ hLw).mono ?_; rintro e w' ⟨rfl, z1, rfl⟩)
          | (go_at_call 57; refine (outside_any _ _ _ _).mono ?_; (first | rw [b1] | rw [b2] | rw [b3] | rw [b4]); rintro e w' ⟨rfl, rfl⟩)
        refine bodyPost_ret (v := .tuple #[serV 0 none 0 0, .int .i64 9]) (by simp [results, Tryd.results25, go_sem]) rfl ?_
        exact SerPost.zero (by repeat (first | (with_reducible exact Gx.refl _) | (with_reducible assumption) | (with_reducible refine Gx.gx ?_) | (with_reducible refine Gx.alloc ?_) | (with_reducible refine Gx.drew ?_) | (with_reducible refine Gx.drewN ?_) | (with_reducible refine Gx.setRow ?_ (by simp)) | (with_reducible refine Gx.setCell ?_ (by simp))))
  · have hE := holdE_no (a := fr) (l := lg) h0
    rw [rsE_1 (by rw [hE]; exact h0), hE, if_neg h0, if_neg h0]
    have n1 := ne0 h0
    have n2 := ne0' h0
    clear h0 hE
    generalize serE den g n = q at *
    go_enter Tryd.func25, Tryd.ntmps25
    go_wp2_with (go_at_call 13; refine (HC _ hLw).mono ?_; rintro e w' ⟨rfl, z1, rfl⟩)
    refine bodyPost_ret (v := .tuple #[serV 0 none 0 0, .int .i64 q]) (by simp [results, Tryd.results25, go_sem]) rfl ?_
    exact SerPost.zero (by repeat (first | (with_reducible exact Gx.refl _) | (with_reducible assumption) | (with_reducible refine Gx.gx ?_) | (with_reducible refine Gx.alloc ?_) | (with_reducible refine Gx.drew ?_) | (with_reducible refine Gx.drewN ?_) | (with_reducible refine Gx.setRow ?_ (by simp)) | (with_reducible refine Gx.setCell ?_ (by simp))))
end Go.Proofs.YtkfolbhdjppgaaaDoor
