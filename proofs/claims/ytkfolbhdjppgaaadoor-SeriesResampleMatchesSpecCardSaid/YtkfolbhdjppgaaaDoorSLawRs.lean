/-
  The law SeriesResampleMatchesSpec, walked.
-/
import Derived.Test.YtkfolbhdjppgaaaDoorSRRsm2
import Derived.Test.YtkfolbhdjppgaaaDoorSLawCalb
namespace Go.Proofs.YtkfolbhdjppgaaaDoor
open Go.RowKit
-- AT2
-- AT3

set_option maxHeartbeats 4000000 in
set_option maxRecDepth 100000 in
theorem rsmLaw_core (S : Value) (den : Int) (A : Option Addr) (n c : Nat) (hS : S = serV den A n c) (a1 a2 a3 a4 : Int) (w : World) (d' er : Int) (n' : Nat) (f : Nat → Sm) (T : ByteArray)
    (H1 : Hid (∀ W, (∃ x, W = gx w x) → Calls Tryd.prog 24 #[S, .int .i64 a1, .int .i64 a2, .int .i64 a3, .int .i64 a4] W (SerPost W d' f n' er)))
    (H2 : Hid (∀ W, (∃ x, W = gx w x) → Calls Tryd.prog 25 #[S, .int .i64 a1, .int .i64 a2, .int .i64 a3, .int .i64 a4] W (SerPost W d' f n' er)))
    (H3 : Hid (∀ W A' c', SmAt W f n' A' → (∃ x, W = gx w x) → Calls Tryd.prog 16 #[serV d' A' n' c', .int .i64 er] W fun e W' => e = .returned (.string T) ∧ ∃ x, W' = gx W x)) :
    Calls Tryd.prog 6 #[S, .int .i64 a1, .int .i64 a2, .int .i64 a3, .int .i64 a4] w fun e w' => e = .returned (.bool true) ∧ ∃ x, w' = gx w x := by
  subst hS
  go_enter Tryd.func6, Tryd.ntmps6
  go_wp2
  go_region_held3 (fun W => (∃ x, W = gx w x) ∧ W.cell? ⟨w.heap.size, 0, none⟩ = some (.int .i64 den) ∧ W.cell? ⟨w.heap.size, 1, none⟩ = some (.slice A n c))
    (refine ⟨(by repeat (first | (with_reducible exact Gx.refl _) | (with_reducible assumption) | (with_reducible refine Gx.gx ?_) | (with_reducible refine Gx.alloc ?_) | (with_reducible refine Gx.drew ?_) | (with_reducible refine Gx.drewN ?_) | (with_reducible refine Gx.setRow ?_ (by first | omega | (simp; done) | (simp <;> omega))) | (with_reducible refine Gx.setCell ?_ (by first | omega | (simp; done) | (simp <;> omega))))), ?_, ?_⟩ <;> first | assumption | exact cell_keep_gx ‹_› | go_keep | (simp [go_sem]; done))
    (first
    | (go_at_call 24; refine (H1.out _ (by repeat (first | (with_reducible exact Gx.refl _) | (with_reducible assumption) | (with_reducible refine Gx.gx ?_) | (with_reducible refine Gx.alloc ?_) | (with_reducible refine Gx.drew ?_) | (with_reducible refine Gx.drewN ?_) | (with_reducible refine Gx.setRow ?_ (by first | omega | (simp; done) | (simp <;> omega))) | (with_reducible refine Gx.setCell ?_ (by first | omega | (simp; done) | (simp <;> omega)))))).mono ?_; rintro e W1 ⟨A1, c1, x1, rfl, rfl, hs1⟩)
    | (go_at_call 25; refine (H2.out _ (by repeat (first | (with_reducible exact Gx.refl _) | (with_reducible assumption) | (with_reducible refine Gx.gx ?_) | (with_reducible refine Gx.alloc ?_) | (with_reducible refine Gx.drew ?_) | (with_reducible refine Gx.drewN ?_) | (with_reducible refine Gx.setRow ?_ (by first | omega | (simp; done) | (simp <;> omega))) | (with_reducible refine Gx.setCell ?_ (by first | omega | (simp; done) | (simp <;> omega)))))).mono ?_; rintro e W1 ⟨A2, c2, x2, rfl, rfl, hs2⟩)
    | (go_at_call 16; refine (H3.out _ _ _ (by first | assumption | (rw [← gx_gx]; assumption) | (simp only [gx_gx, gx_drew, drew_gx] at *; assumption)) (by repeat (first | (with_reducible exact Gx.refl _) | (with_reducible assumption) | (with_reducible refine Gx.gx ?_) | (with_reducible refine Gx.alloc ?_) | (with_reducible refine Gx.drew ?_) | (with_reducible refine Gx.drewN ?_) | (with_reducible refine Gx.setRow ?_ (by first | omega | (simp; done) | (simp <;> omega))) | (with_reducible refine Gx.setCell ?_ (by first | omega | (simp; done) | (simp <;> omega)))))).mono ?_; rintro e w' ⟨rfl, x3, rfl⟩)
    | (go_at_call 19; refine (holds_any _).mono ?_; rintro e w' ⟨rfl, x4, rfl⟩))
  all_goals go_wp2
  all_goals go_ret
  all_goals exact ⟨rfl, (by repeat (first | (with_reducible exact Gx.refl _) | (with_reducible assumption) | (with_reducible refine Gx.gx ?_) | (with_reducible refine Gx.alloc ?_) | (with_reducible refine Gx.drew ?_) | (with_reducible refine Gx.drewN ?_) | (with_reducible refine Gx.setRow ?_ (by first | omega | (simp; done) | (simp <;> omega))) | (with_reducible refine Gx.setCell ?_ (by first | omega | (simp; done) | (simp <;> omega)))))⟩
theorem holdE_fit (den : Int) (g : Nat → Sm) (n : Nat) (a l : Int) : Fit (holdE den g n a l) := by
  by_cases h : serE den g n = 0
  · rw [holdE_is h]; split <;> (unfold Fit; omega)
  · rw [holdE_no h]; exact serE_fit _ _ _
theorem rsE_fit (den : Int) (g : Nat → Sm) (n : Nat) (fr st ct lg : Int) : Fit (rsE den g n fr st ct lg) := by
  unfold rsE
  repeat' split
  · exact holdE_fit _ _ _ _ _
  · unfold Fit; omega
  · unfold Fit; omega
  · unfold Fit; omega
theorem rsE_0 {den : Int} {g : Nat → Sm} {n : Nat} {fr st ct lg : Int} (h : rsE den g n fr st ct lg = 0) : holdE den g n fr lg = 0 ∧ ((1 ≤ st ∧ st ≤ 1099511627776) ∧ (0 ≤ ct ∧ ct ≤ 20000)) ∧ ¬ (0 < ct ∧ 1099511627776 < fr + (ct - 1) * st) := by
  by_cases h1 : holdE den g n fr lg = 0
  · by_cases h2 : (1 ≤ st ∧ st ≤ 1099511627776) ∧ (0 ≤ ct ∧ ct ≤ 20000)
    · by_cases h3 : 0 < ct ∧ 1099511627776 < fr + (ct - 1) * st
      · rw [rsE_3 h1 h2 h3] at h; omega
      · exact ⟨h1, h2, h3⟩
    · rw [rsE_2 h1 h2] at h; omega
  · rw [rsE_1 h1] at h; exact absurd h h1
theorem heldV_ok {g : Nat → Sm} {n : Nat} (hG : GoodS g n) (t a l : Int) : smOk (heldV g (aheadN g t n) a l) := by
  have hle := aheadN_le g t n
  generalize aheadN g t n = k at *
  cases hb : heldB g k a l with
  | false => rw [heldV_no hb]; unfold smOk; decide
  | true => rw [heldV_yes hb]; exact hG.ok _ (by have := (heldB_iff.1 hb).1; omega)
theorem rsmLaw (den : Int) (A : Option Addr) (n c : Nat) (g : Nat → Sm) (a1 a2 a3 a4 : Int) (w : World) (hp : Pow w) (hL : SmAt w g n A) :
    Calls Tryd.prog 6 #[serV den A n c, .int .i64 a1, .int .i64 a2, .int .i64 a3, .int .i64 a4] w fun e w' => e = .returned (.bool true) ∧ ∃ x, w' = gx w x := by
  obtain ⟨f, hf⟩ : ∃ f : Nat → Sm, ∀ i, f i = rsF g n a1 a2 a4 i := ⟨fun i => rsF g n a1 a2 a4 i, fun i => rfl⟩
  have hfit := rsE_fit den g n a1 a2 a3 a4
  have hd : Fit (if rsE den g n a1 a2 a3 a4 = 0 then den else 0) := by
    by_cases h : rsE den g n a1 a2 a3 a4 = 0
    · rw [if_pos h]; have := (goodS_of (holdE_0 (rsE_0 h).1).1).1; unfold Fit; omega
    · rw [if_neg h]; unfold Fit; omega
  have hn : (if rsE den g n a1 a2 a3 a4 = 0 then a3.toNat else 0) ≤ 1000000 ∧ FitS f (if rsE den g n a1 a2 a3 a4 = 0 then a3.toNat else 0) := by
    by_cases h : rsE den g n a1 a2 a3 a4 = 0
    · rw [if_pos h]
      obtain ⟨h1, h2, h3⟩ := rsE_0 h
      obtain ⟨h4, h5, h6⟩ := holdE_0 h1
      obtain ⟨_, _, hG⟩ := goodS_of h4
      refine ⟨by omega, fun i hi => ?_⟩
      rw [hf i]
      have hv := heldV_ok hG (a1 + (i : Int) * a2 + 1) (a1 + (i : Int) * a2) a4
      obtain ⟨_, _, P3, P4⟩ := at_ok (fr := a1) (st := a2) (cn := a3.toNat) (k := i) h2.1.1 h5.1 h5.2 (fun h => by
        rw [show ((a3.toNat : Nat) : Int) = a3 by omega]
        by_cases h4 : 1099511627776 < a1 + (a3 - 1) * a2
        · exact absurd ⟨by omega, h4⟩ h3
        · omega) hi
      unfold rsF
      generalize heldV g (aheadN g (a1 + (i : Int) * a2 + 1) n) (a1 + (i : Int) * a2) a4 = V at *
      generalize (i : Int) * a2 = q at *
      unfold smOk at hv
      unfold Fit
      refine ⟨?_, ?_, ?_⟩ <;> (dsimp only; omega)
    · rw [if_neg h]; exact ⟨by omega, fun i hi => by omega⟩
  have C1 : Hid (∀ W, (∃ x, W = gx w x) → Calls Tryd.prog 24 #[serV den A n c, .int .i64 a1, .int .i64 a2, .int .i64 a3, .int .i64 a4] W (SerPost W (if rsE den g n a1 a2 a3 a4 = 0 then den else 0) f (if rsE den g n a1 a2 a3 a4 = 0 then a3.toNat else 0) (rsE den g n a1 a2 a3 a4))) := by
    rintro W ⟨x, rfl⟩; exact Resample_any den g n c A a1 a2 a3 a4 _ hL.gx f hf
  have C2 : Hid (∀ W, (∃ x, W = gx w x) → Calls Tryd.prog 25 #[serV den A n c, .int .i64 a1, .int .i64 a2, .int .i64 a3, .int .i64 a4] W (SerPost W (if rsE den g n a1 a2 a3 a4 = 0 then den else 0) f (if rsE den g n a1 a2 a3 a4 = 0 then a3.toNat else 0) (rsE den g n a1 a2 a3 a4))) := by
    rintro W ⟨x, rfl⟩; exact RResample_any den g n c A a1 a2 a3 a4 _ hL.gx f hf
  generalize (if rsE den g n a1 a2 a3 a4 = 0 then den else 0) = d' at *
  generalize (if rsE den g n a1 a2 a3 a4 = 0 then a3.toNat else 0) = n' at *
  generalize rsE den g n a1 a2 a3 a4 = er at *
  refine rsmLaw_core _ den A n c rfl a1 a2 a3 a4 w d' er n' f (toldT d' f n' er) C1 C2 ?_
  rintro W A' c' hs ⟨x, rfl⟩
  exact told_any _ d' f n' c' A' er hd hn.2 hn.1 hfit hp.gx.here hs
end Go.Proofs.YtkfolbhdjppgaaaDoor
