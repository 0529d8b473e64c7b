/-
  SeriesMedianMatchesSpec: the law's walk.
-/
import Derived.Test.YtmpokfbliacmoaaDoorSLawMed0
import Derived.Test.YtmpokfbliacmoaaDoorSMed
import Derived.Test.YtmpokfbliacmoaaDoorSRMed
import Derived.Test.YtmpokfbliacmoaaDoorSRange
namespace Go.Proofs.YtmpokfbliacmoaaDoor
open Go.RowKit
-- AT2
-- AT3

theorem firstOf_in (f : Nat → Int) : ∀ k, firstOf f k = 0 ∨ ∃ i, i < k ∧ firstOf f k = f i
  | 0 => .inl rfl
  | k + 1 => by
    show (if firstOf f k = 0 then f k else firstOf f k) = 0 ∨ ∃ i, i < k + 1 ∧ (if firstOf f k = 0 then f k else firstOf f k) = f i
    by_cases h : firstOf f k = 0
    · rw [if_pos h]; exact .inr ⟨k, by omega, rfl⟩
    · rw [if_neg h]
      rcases firstOf_in f k with h2 | ⟨i, h1, h2⟩
      · exact absurd h2 h
      · exact .inr ⟨i, by omega, h2⟩
theorem badS_fit (g : Nat → Sm) (i : Nat) : Fit (badS g i) := by
  unfold Fit badS
  repeat' split
  all_goals omega
theorem firstOf_fit {f : Nat → Int} (h : ∀ i, Fit (f i)) (k : Nat) : Fit (firstOf f k) := by
  rcases firstOf_in f k with h2 | ⟨i, -, h2⟩
  · rw [h2]; unfold Fit; omega
  · rw [h2]; exact h i
theorem serE_fit (den : Int) (g : Nat → Sm) (n : Nat) : Fit (serE den g n) := by
  unfold serE
  repeat' split
  · unfold Fit; omega
  · unfold Fit; omega
  · exact firstOf_fit (badS_fit g) n
theorem solL_m (g : Nat → Sm) : ∀ k, ∀ i ∈ solL g k, 3 ≤ (g i).m
  | 0, i, h => by simp [solL] at h
  | k + 1, i, h => by
    by_cases h3 : 3 ≤ (g k).m
    · rw [solL_yes h3, List.mem_append] at h
      rcases h with h | h
      · exact solL_m g k i h
      · simp at h; subst h; exact h3
    · rw [solL_no h3] at h; exact solL_m g k i h
theorem solL_same {f g : Nat → Sm} (h : ∀ i, (f i).m = (g i).m) : ∀ k, solL f k = solL g k
  | 0 => rfl
  | k + 1 => by
    by_cases h3 : 3 ≤ (g k).m
    · rw [solL_yes h3, solL_yes (g := f) (by rw [h]; exact h3), solL_same h k]
    · rw [solL_no h3, solL_no (g := f) (by rw [h]; exact h3), solL_same h k]
theorem getD_mem {L : List Nat} {k : Nat} (h : k < L.length) : L.getD k 0 ∈ L := by
  simp [List.getD, h]
theorem medF_out (g : Nat → Sm) (L : List Nat) (h : Nat) : ∀ k i, k ≤ L.length → ¬ i ∈ L → medF g L h k i = g i
  | 0, i, _, _ => rfl
  | k + 1, i, hk, hi => by
    rw [medF_succ]
    dsimp only
    rw [if_neg (fun e => hi (by rw [e]; exact getD_mem (by omega)))]
    exact medF_out g L h k i (by omega) hi
theorem medF_good {g : Nat → Sm} {n : Nat} (hG : GoodS g n) (h : Nat) : GoodS (medF g (solL g n) h (solL g n).length) n := by
  refine ⟨fun i hi => ?_, fun i hi hm => ?_, fun i hi => ?_⟩
  · obtain ⟨h1, h2⟩ := medF_tm g (solL g n) h (solL g n).length i
    have a := hG.ok i hi
    rcases medF_n g (solL g n) h (solL g n).length i (Nat.le_refl _) with e | ⟨j, hj, e⟩
    · unfold smOk at a ⊢; rw [h1, h2, e]; exact a
    · have b := hG.ok _ (solL_lt g n _ (getD_mem hj))
      unfold smOk at a b ⊢; rw [h1, h2, e]; exact ⟨a.1, a.2.1, b.2.2.1, b.2.2.2.1, a.2.2.2.2⟩
  · obtain ⟨h1, h2⟩ := medF_tm g (solL g n) h (solL g n).length i
    have hm' : (g i).m < 2 := by rw [← h2]; exact hm
    have hi' : ¬ i ∈ solL g n := fun hh => by have := solL_m g n i hh; omega
    rw [medF_out g _ h _ i (Nat.le_refl _) hi']
    exact hG.num i hi hm'
  · have h1 := (medF_tm g (solL g n) h (solL g n).length i).1
    have h2 := (medF_tm g (solL g n) h (solL g n).length (i + 1)).1
    rw [h1, h2]; exact hG.rise i hi
theorem rgLo_le (g : Nat → Sm) (L : List Nat) : ∀ k, ∀ j, j < k → rgLo g L k ≤ (g (L.getD j 0)).n
  | 0, j, hj => by omega
  | k + 1, j, hj => by
    show min (rgLo g L k) (g (L.getD k 0)).n ≤ _
    by_cases e : j = k
    · subst e; omega
    · have := rgLo_le g L k j (by omega); omega
theorem rgHi_le (g : Nat → Sm) (L : List Nat) : ∀ k, ∀ j, j < k → (g (L.getD j 0)).n ≤ rgHi g L k
  | 0, j, hj => by omega
  | k + 1, j, hj => by
    show _ ≤ max (rgHi g L k) (g (L.getD k 0)).n
    by_cases e : j = k
    · subst e; omega
    · have := rgHi_le g L k j (by omega); omega
theorem rgLo_of (f : Nat → Sm) (L : List Nat) (a : Int) (h : ∀ j, j < L.length → a ≤ (f (L.getD j 0)).n) (h0 : 0 < L.length) : ∀ k, k ≤ L.length → a ≤ rgLo f L k
  | 0, _ => h 0 h0
  | k + 1, hk => by
    show a ≤ min (rgLo f L k) (f (L.getD k 0)).n
    have := rgLo_of f L a h h0 k (by omega)
    have := h k (by omega)
    omega
theorem rgHi_of (f : Nat → Sm) (L : List Nat) (a : Int) (h : ∀ j, j < L.length → (f (L.getD j 0)).n ≤ a) (h0 : 0 < L.length) : ∀ k, k ≤ L.length → rgHi f L k ≤ a
  | 0, _ => h 0 h0
  | k + 1, hk => by
    show max (rgHi f L k) (f (L.getD k 0)).n ≤ a
    have := rgHi_of f L a h h0 k (by omega)
    have := h k (by omega)
    omega
theorem medF_rg {den : Int} {g : Nat → Sm} {n : Nat} (h0 : serE den g n = 0) (h : Nat) (hl : (solL g n).length ≠ 0) :
    rgA den g n ≤ rgA den (medF g (solL g n) h (solL g n).length) n ∧ rgB den (medF g (solL g n) h (solL g n).length) n ≤ rgB den g n := by
  obtain ⟨hd, hn, hG⟩ := goodS_of h0
  have hs : serE den (medF g (solL g n) h (solL g n).length) n = 0 := goodS_back hd hn (medF_good hG h)
  have hL : solL (medF g (solL g n) h (solL g n).length) n = solL g n := solL_same (fun i => (medF_tm g (solL g n) h (solL g n).length i).2) n
  obtain ⟨-, A1, B1⟩ := rg_3 h0 hl
  obtain ⟨-, A2, B2⟩ := rg_3 hs (by rw [hL]; exact hl)
  rw [A1, B1, A2, B2, hL]
  have hb : ∀ j, j < (solL g n).length → rgLo g (solL g n) (solL g n).length ≤ (medF g (solL g n) h (solL g n).length ((solL g n).getD j 0)).n ∧ (medF g (solL g n) h (solL g n).length ((solL g n).getD j 0)).n ≤ rgHi g (solL g n) (solL g n).length := by
    intro j hj
    rcases medF_n g (solL g n) h (solL g n).length ((solL g n).getD j 0) (Nat.le_refl _) with e | ⟨k, hk, e⟩
    · rw [e]; exact ⟨rgLo_le g _ _ j hj, rgHi_le g _ _ j hj⟩
    · rw [e]; exact ⟨rgLo_le g _ _ k hk, rgHi_le g _ _ k hk⟩
  exact ⟨rgLo_of _ _ _ (fun j hj => (hb j hj).1) (by omega) _ (Nat.le_refl _), rgHi_of _ _ _ (fun j hj => (hb j hj).2) (by omega) _ (Nat.le_refl _)⟩
theorem medF_rgE {den : Int} {g : Nat → Sm} {n : Nat} (h0 : serE den g n = 0) (h : Nat) : rgE den (medF g (solL g n) h (solL g n).length) n = rgE den g n := by
  obtain ⟨hd, hn, hG⟩ := goodS_of h0
  have hs : serE den (medF g (solL g n) h (solL g n).length) n = 0 := goodS_back hd hn (medF_good hG h)
  have hL : solL (medF g (solL g n) h (solL g n).length) n = solL g n := solL_same (fun i => (medF_tm g (solL g n) h (solL g n).length i).2) n
  by_cases hl : (solL g n).length = 0
  · rw [(rg_2 h0 hl).1, (rg_2 hs (by rw [hL]; exact hl)).1]
  · rw [(rg_3 h0 hl).1, (rg_3 hs (by rw [hL]; exact hl)).1]
/-- Median of both sides: the same, and within the range of the series. -/
theorem median_both (den : Int) (g : Nat → Sm) (n c : Nat) (A : Option Addr) (hN : A = none → n = 0 ∧ c = 0) (wd : Int) (h64 : -9223372036854775808 ≤ wd ∧ wd ≤ 9223372036854775807) :
    ∃ (D E : Int) (N : Nat) (f : Nat → Sm), (∀ W, SmAt W g n A → Calls Tryd.prog 4 #[serV den A n c, .int .i64 wd] W (SerPost W D f N E)) ∧ (∀ W, SmAt W g n A → Calls Tryd.prog 6 #[serV den A n c, .int .i64 wd] W (SerPost W D f N E)) ∧ Fit D ∧ Fit E ∧ N ≤ 1000000 ∧ FitS f N ∧ (E = 0 → rgE D f N = rgE den g n ∧ (rgE den g n = 0 → rgA den g n ≤ rgA D f N ∧ rgB D f N ≤ rgB den g n)) := by
  have f0 : Fit 0 := by unfold Fit; omega
  by_cases hs : serE den g n = 0
  · by_cases ho : 1 ≤ wd ∧ wd ≤ 101 ∧ wd.tmod 2 ≠ 0
    · obtain ⟨hd, hn, hG⟩ := goodS_of hs
      obtain ⟨h, hw, hh⟩ : ∃ h : Nat, wd = 2 * (h : Int) + 1 ∧ h ≤ 50 := by
        have e1 := Int.tmod_eq_emod_of_nonneg (b := 2) (show 0 ≤ wd by omega)
        rw [e1] at ho
        exact ⟨(wd / 2).toNat, by omega, by omega⟩
      have hF := medF_good hG h
      refine ⟨den, 0, n, medF g (solL g n) h (solL g n).length, fun W h1 => Median_go den g n c A hN h wd hw hh W h1 hs, fun W h1 => RMedian_go den g n c A hN h wd hw hh W h1 hs, by unfold Fit; omega, f0, by omega, fun i hi => ?_, fun _ => ⟨medF_rgE hs h, fun he => ?_⟩⟩
      · have := hF.ok i hi
        unfold smOk at this
        unfold Fit
        omega
      · have hl : (solL g n).length ≠ 0 := fun e => by rw [(rg_2 hs e).1] at he; omega
        exact medF_rg hs h hl
    · exact ⟨0, 1, 0, g, fun W h1 => Med_e2 den g n c A wd W h1 g hs ho h64, fun W h1 => RMed_e2 den g n c A wd W h1 g hs ho h64, f0, by unfold Fit; omega, by omega, fun i hi => by omega, fun e => by omega⟩
  · exact ⟨0, serE den g n, 0, g, fun W h1 => Med_e1 den g n c A wd W h1 g _ rfl hs, fun W h1 => RMed_e1 den g n c A wd W h1 g _ rfl hs, f0, serE_fit den g n, by omega, fun i hi => by omega, fun e => absurd e hs⟩
theorem medLaw (den : Int) (A : Option Addr) (n c : Nat) (hN : A = none → n = 0 ∧ c = 0) (g : Nat → Sm) (wd : Int) (h64 : -9223372036854775808 ≤ wd ∧ wd ≤ 9223372036854775807) (w : World) (hp : Pow w) (hL : SmAt w g n A) :
    Calls Tryd.prog 3 #[serV den A n c, .int .i64 wd] w fun e w' => e = .returned (.bool true) ∧ ∃ x, w' = gx w x := by
  obtain ⟨D, E, N, f, K1, K2, f1, f2, f3, f4, f5⟩ := median_both den g n c A hN wd h64
  refine medLaw_core _ den A n c rfl wd w D E N f (toldT D f N E) (rgA den g n) (rgB den g n) (rgE den g n) (rgA D f N) (rgB D f N) (fun e h => (f5 e).2 h) ?_ ?_ ?_ ?_ ?_
  · refine Lib.hid ?_; rintro W ⟨x, rfl⟩; exact K1 _ hL.gx
  · refine Lib.hid ?_; rintro W ⟨x, rfl⟩; exact K2 _ hL.gx
  · refine Lib.hid ?_; rintro W A' c' hs ⟨x, rfl⟩
    exact told_any _ D _ N c' A' E f1 f4 f3 f2 hp.gx.here hs
  · refine Lib.hid ?_; rintro W ⟨x, rfl⟩; exact Range_any den g n c A _ hL.gx
  · refine Lib.hid ?_; rintro e W A' c' hs ⟨x, rfl⟩
    have := Range_any D f N c' A' _ hs
    rw [(f5 e).1] at this
    exact this
end Go.Proofs.YtmpokfbliacmoaaDoor
