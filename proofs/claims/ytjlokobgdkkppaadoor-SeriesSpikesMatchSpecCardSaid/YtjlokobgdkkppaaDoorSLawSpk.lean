/-
  The law SeriesSpikesMatchSpec, walked.
-/
import Derived.Test.YtjlokobgdkkppaaDoorSRDbt
namespace Go.Proofs.YtjlokobgdkkppaaDoor
open Go.RowKit
-- AT2
-- AT3

/-- What is wrong with a series and a limit. -/
def spkE (den : Int) (g : Nat → Sm) (n : Nat) (most : Int) : Int := if serE den g n ≠ 0 then serE den g n else if 0 ≤ most ∧ most ≤ 1125899906842624 then 0 else 9
theorem spkE_1 {den : Int} {g : Nat → Sm} {n : Nat} {most : Int} (h : serE den g n ≠ 0) : spkE den g n most = serE den g n := by unfold spkE; rw [if_pos h]
theorem spkE_2 {den : Int} {g : Nat → Sm} {n : Nat} {most : Int} (h : serE den g n = 0) (h2 : ¬ (0 ≤ most ∧ most ≤ 1125899906842624)) : spkE den g n most = 9 := by unfold spkE; rw [if_neg (fun k => k h), if_neg h2]
theorem spkE_3 {den : Int} {g : Nat → Sm} {n : Nat} {most : Int} (h : serE den g n = 0) (h2 : 0 ≤ most ∧ most ≤ 1125899906842624) : spkE den g n most = 0 := by unfold spkE; rw [if_neg (fun k => k h), if_pos h2]
attribute [irreducible] spkE
theorem spkE_fit (den : Int) (g : Nat → Sm) (n : Nat) (most : Int) : Fit (spkE den g n most) := by
  by_cases h : serE den g n = 0
  · by_cases h2 : 0 ≤ most ∧ most ≤ 1125899906842624
    · rw [spkE_3 h h2]; unfold Fit; omega
    · rw [spkE_2 h h2]; unfold Fit; omega
  · rw [spkE_1 h]; exact serE_fit _ _ _
theorem IntPost.zero {w w' : World} {er : Int} (hw : ∃ x, w' = gx w x) : IntPost w [] er (.returned (.tuple #[.slice none 0 0, .int .i64 er])) w' := by
  obtain ⟨x, rfl⟩ := hw
  exact ⟨none, 0, x, rfl, rfl, IAt.mk fun h => absurd h (by decide)⟩
set_option maxHeartbeats 2000000 in
set_option maxRecDepth 100000 in
theorem Spikes_any (den : Int) (g : Nat → Sm) (n c : Nat) (A : Option Addr) (most : Int) (w : World) (hL : SmAt w g n A) :
    Calls Tryd.prog 26 #[serV den A n c, .int .i64 most] w (IntPost w (if spkE den g n most = 0 then spkL g (solL g n) most (solL g n).length else []) (spkE den g n most)) := by
  have hLw : SmAt (w.alloc (.cells #[.int .i64 den, .slice A n c] 24)) g n A := hL.alloc
  have HC := fun W h => Check_any den g n c A W h
  by_cases h0 : serE den g n = 0
  · by_cases h1 : 0 ≤ most ∧ most ≤ 1125899906842624
    · rw [spkE_3 h0 h1, if_pos rfl]; exact Spikes_go den g n c A most w hL h0 h1.1 h1.2
    · rw [spkE_2 h0 h1, if_neg (by decide)]
      rw [h0] at HC
      have hs : (decide (most < 0) = true) ∨ (decide (most < 0) = false ∧ decide (1125899906842624 < most) = true) := by
        simp only [decide_eq_true_eq, decide_eq_false_iff_not]; omega
      clear h0 h1
      rcases hs with k1 | ⟨k1, k2⟩
      all_goals
        go_enter Tryd.func26, Tryd.ntmps26
        go_wp2_with (go_at_call 12; refine (HC _ hLw).mono ?_; rintro e w' ⟨rfl, z1, rfl⟩)
        refine bodyPost_ret (v := .tuple #[.slice none 0 0, .int .i64 9]) (by simp [results, Tryd.results26, go_sem]) rfl ?_
        exact IntPost.zero (by repeat (first | (with_reducible exact Gx.refl _) | (with_reducible assumption) | (with_reducible refine Gx.gx ?_) | (with_reducible refine Gx.alloc ?_) | (with_reducible refine Gx.drew ?_) | (with_reducible refine Gx.drewN ?_) | (with_reducible refine Gx.setRow ?_ (by first | omega | (simp; done) | (simp <;> omega))) | (with_reducible refine Gx.setCell ?_ (by first | omega | (simp; done) | (simp <;> omega)))))
  · rw [spkE_1 h0, if_neg h0]
    have n1 := ne0 h0
    have n2 := ne0' h0
    clear h0
    generalize serE den g n = q at *
    go_enter Tryd.func26, Tryd.ntmps26
    go_wp2_with (go_at_call 12; refine (HC _ hLw).mono ?_; rintro e w' ⟨rfl, z1, rfl⟩)
    refine bodyPost_ret (v := .tuple #[.slice none 0 0, .int .i64 q]) (by simp [results, Tryd.results26, go_sem]) rfl ?_
    exact IntPost.zero (by repeat (first | (with_reducible exact Gx.refl _) | (with_reducible assumption) | (with_reducible refine Gx.gx ?_) | (with_reducible refine Gx.alloc ?_) | (with_reducible refine Gx.drew ?_) | (with_reducible refine Gx.drewN ?_) | (with_reducible refine Gx.setRow ?_ (by first | omega | (simp; done) | (simp <;> omega))) | (with_reducible refine Gx.setCell ?_ (by first | omega | (simp; done) | (simp <;> omega)))))
set_option maxHeartbeats 2000000 in
set_option maxRecDepth 100000 in
theorem RSpikes_any (den : Int) (g : Nat → Sm) (n c : Nat) (A : Option Addr) (most : Int) (w : World) (hL : SmAt w g n A) :
    Calls Tryd.prog 28 #[serV den A n c, .int .i64 most] w (IntPost w (if spkE den g n most = 0 then spkL g (solL g n) most (solL g n).length else []) (spkE den g n most)) := by
  have hLw : SmAt (w.alloc (.cells #[.int .i64 den, .slice A n c] 24)) g n A := hL.alloc
  have HC := fun W h => RCheck_any den g n c A W h
  by_cases h0 : serE den g n = 0
  · by_cases h1 : 0 ≤ most ∧ most ≤ 1125899906842624
    · rw [spkE_3 h0 h1, if_pos rfl]; exact RSpikes_go den g n c A most w hL h0 h1.1 h1.2
    · rw [spkE_2 h0 h1, if_neg (by decide)]
      rw [h0] at HC
      have hb : inB 0 1125899906842624 most = false := inB_no.2 h1
      clear h0 h1
      go_enter Tryd.func28, Tryd.ntmps28
      go_wp2_with first
        | (go_at_call 13; refine (HC _ hLw).mono ?_; rintro e w' ⟨rfl, z1, rfl⟩)
        | (go_at_call 57; refine (outside_any _ _ _ _).mono ?_; rw [hb]; rintro e w' ⟨rfl, rfl⟩)
      refine bodyPost_ret (v := .tuple #[.slice none 0 0, .int .i64 9]) (by simp [results, Tryd.results28, go_sem]) rfl ?_
      exact IntPost.zero (by repeat (first | (with_reducible exact Gx.refl _) | (with_reducible assumption) | (with_reducible refine Gx.gx ?_) | (with_reducible refine Gx.alloc ?_) | (with_reducible refine Gx.drew ?_) | (with_reducible refine Gx.drewN ?_) | (with_reducible refine Gx.setRow ?_ (by first | omega | (simp; done) | (simp <;> omega))) | (with_reducible refine Gx.setCell ?_ (by first | omega | (simp; done) | (simp <;> omega)))))
  · rw [spkE_1 h0, if_neg h0]
    have n1 := ne0 h0
    have n2 := ne0' h0
    clear h0
    generalize serE den g n = q at *
    go_enter Tryd.func28, Tryd.ntmps28
    go_wp2_with (go_at_call 13; refine (HC _ hLw).mono ?_; rintro e w' ⟨rfl, z1, rfl⟩)
    refine bodyPost_ret (v := .tuple #[.slice none 0 0, .int .i64 q]) (by simp [results, Tryd.results28, go_sem]) rfl ?_
    exact IntPost.zero (by repeat (first | (with_reducible exact Gx.refl _) | (with_reducible assumption) | (with_reducible refine Gx.gx ?_) | (with_reducible refine Gx.alloc ?_) | (with_reducible refine Gx.drew ?_) | (with_reducible refine Gx.drewN ?_) | (with_reducible refine Gx.setRow ?_ (by first | omega | (simp; done) | (simp <;> omega))) | (with_reducible refine Gx.setCell ?_ (by first | omega | (simp; done) | (simp <;> omega)))))
set_option maxHeartbeats 2000000 in
set_option maxRecDepth 100000 in
theorem Doubt_any (den : Int) (g : Nat → Sm) (n c : Nat) (A : Option Addr) (hN : A = none → n = 0 ∧ c = 0) (z : Nat → Int) (m cB : Nat) (B : Option Addr) (hm : m ≤ 9223372036854775807) (w : World) (hL : SmAt w g n A) (hB : IAt w z m B) :
    Calls Tryd.prog 29 #[serV den A n c, .slice B m cB] w (SerPost w (if dbtE den g n z m = 0 then den else 0) (dbtF g z m) (if dbtE den g n z m = 0 then n else 0) (dbtE den g n z m)) := by
  by_cases h0 : serE den g n = 0
  · refine Doubt_go den g n c A hN z m cB B hm w hL hB h0 _ _ _ (Lib.hid fun h => ?_) (Lib.hid fun e h he => ?_)
    · rw [h]; exact ⟨if_pos rfl, if_pos rfl, rfl⟩
    · rw [h]; exact ⟨if_neg he, if_neg he, rfl⟩
  · have hLw : SmAt ((w.alloc (.cells #[.int .i64 den, .slice A n c] 24)).alloc (.cells #[.int .i64 0, .slice none 0 0] 24)) g n A := hL.alloc.alloc
    have HC := fun W h => Check_any den g n c A W h
    rw [dbtE_1 h0, if_neg h0, if_neg h0]
    have n1 := ne0 h0
    have n2 := ne0' h0
    clear h0
    generalize serE den g n = q at *
    go_enter Tryd.func29, Tryd.ntmps29
    go_wp2_with (go_at_call 12; refine (HC _ hLw).mono ?_; rintro e w' ⟨rfl, z1, rfl⟩)
    refine bodyPost_ret (v := .tuple #[serV 0 none 0 0, .int .i64 q]) (by simp [results, Tryd.results29, go_sem]) rfl ?_
    exact SerPost.zero (by repeat (first | (with_reducible exact Gx.refl _) | (with_reducible assumption) | (with_reducible refine Gx.gx ?_) | (with_reducible refine Gx.alloc ?_) | (with_reducible refine Gx.drew ?_) | (with_reducible refine Gx.drewN ?_) | (with_reducible refine Gx.setRow ?_ (by first | omega | (simp; done) | (simp <;> omega))) | (with_reducible refine Gx.setCell ?_ (by first | omega | (simp; done) | (simp <;> omega)))))
set_option maxHeartbeats 2000000 in
set_option maxRecDepth 100000 in
theorem RDoubt_any (den : Int) (g : Nat → Sm) (n c : Nat) (A : Option Addr) (hN : A = none → n = 0 ∧ c = 0) (z : Nat → Int) (m cB : Nat) (B : Option Addr) (hm : m ≤ 9223372036854775807) (w : World) (hL : SmAt w g n A) (hB : IAt w z m B) :
    Calls Tryd.prog 30 #[serV den A n c, .slice B m cB] w (SerPost w (if dbtE den g n z m = 0 then den else 0) (dbtF g z m) (if dbtE den g n z m = 0 then n else 0) (dbtE den g n z m)) := by
  by_cases h0 : serE den g n = 0
  · refine RDoubt_go den g n c A hN z m cB B hm w hL hB h0 _ _ _ (Lib.hid fun h => ?_) (Lib.hid fun e h he => ?_)
    · rw [h]; exact ⟨if_pos rfl, if_pos rfl, rfl⟩
    · rw [h]; exact ⟨if_neg he, if_neg he, rfl⟩
  · have hLw : SmAt ((w.alloc (.cells #[.int .i64 den, .slice A n c] 24)).alloc (.cells #[.int .i64 0, .slice none 0 0] 24)) g n A := hL.alloc.alloc
    have HC := fun W h => RCheck_any den g n c A W h
    rw [dbtE_1 h0, if_neg h0, if_neg h0]
    have n1 := ne0 h0
    have n2 := ne0' h0
    clear h0
    generalize serE den g n = q at *
    go_enter Tryd.func30, Tryd.ntmps30
    go_wp2_with (go_at_call 13; refine (HC _ hLw).mono ?_; rintro e w' ⟨rfl, z1, rfl⟩)
    refine bodyPost_ret (v := .tuple #[serV 0 none 0 0, .int .i64 q]) (by simp [results, Tryd.results30, go_sem]) rfl ?_
    exact SerPost.zero (by repeat (first | (with_reducible exact Gx.refl _) | (with_reducible assumption) | (with_reducible refine Gx.gx ?_) | (with_reducible refine Gx.alloc ?_) | (with_reducible refine Gx.drew ?_) | (with_reducible refine Gx.drewN ?_) | (with_reducible refine Gx.setRow ?_ (by first | omega | (simp; done) | (simp <;> omega))) | (with_reducible refine Gx.setCell ?_ (by first | omega | (simp; done) | (simp <;> omega)))))
set_option maxHeartbeats 8000000 in
set_option maxRecDepth 100000 in
theorem spkLaw_bad (S : Value) (den most : Int) (A B : Option Addr) (n c m cB : Nat) (hS : S = serV den A n c) (w : World) (M : List Nat) (er : Int) (d1 e1 : Int) (n1' : Nat) (f1 : Nat → Sm) (T1 T2 : ByteArray) (he : er ≠ 0)
    (H1 : Hid (∀ W, (∃ x, W = gx w x) → Calls Tryd.prog 26 #[S, .int .i64 most] W (IntPost W M er)))
    (H2 : Hid (∀ W, (∃ x, W = gx w x) → Calls Tryd.prog 28 #[S, .int .i64 most] W (IntPost W M er)))
    (HI : Hid (∀ W A' c', IAt W (gw (zL M)) M.length A' → (∃ x, W = gx w x) → Calls Tryd.prog 27 #[.slice A' M.length c', .int .i64 er] W fun e W' => e = .returned (.string T1) ∧ ∃ x, W' = gx W x))
    (D1 : Hid (∀ W, (∃ x, W = gx w x) → Calls Tryd.prog 29 #[S, .slice B m cB] W (SerPost W d1 f1 n1' e1)))
    (D2 : Hid (∀ W, (∃ x, W = gx w x) → Calls Tryd.prog 30 #[S, .slice B m cB] W (SerPost W d1 f1 n1' e1)))
    (HT : Hid (∀ W A' c', SmAt W f1 n1' A' → (∃ x, W = gx w x) → Calls Tryd.prog 16 #[serV d1 A' n1' c', .int .i64 e1] W fun e W' => e = .returned (.string T2) ∧ ∃ x, W' = gx W x)) :
    Calls Tryd.prog 7 #[S, .int .i64 most, .slice B m cB] w fun e w' => e = .returned (.bool true) ∧ ∃ x, w' = gx w x := by
  subst hS
  have n1 := ne0 he
  have n2 := ne0' he
  have n3 : (er == 0) = false := by simpa using he
  clear he
  go_enter Tryd.func7, Tryd.ntmps7
  go_wp2_with (go_at_call 26; refine (H1.out _ (by repeat (first | (with_reducible exact Gx.refl _) | (with_reducible assumption) | (with_reducible refine Gx.gx ?_) | (with_reducible refine Gx.alloc ?_) | (with_reducible refine Gx.drew ?_) | (with_reducible refine Gx.drewN ?_) | (with_reducible refine Gx.setRow ?_ (by first | omega | (simp; done) | (simp <;> omega))) | (with_reducible refine Gx.setCell ?_ (by first | omega | (simp; done) | (simp <;> omega)))))).mono ?_; rintro e W3 ⟨A1, c1, x1, rfl, hW3, hi3⟩; have G3 : ∃ x, W3 = gx w x := (by rw [hW3]; exact (by repeat (first | (with_reducible exact Gx.refl _) | (with_reducible assumption) | (with_reducible refine Gx.gx ?_) | (with_reducible refine Gx.alloc ?_) | (with_reducible refine Gx.drew ?_) | (with_reducible refine Gx.drewN ?_) | (with_reducible refine Gx.setRow ?_ (by first | omega | (simp; done) | (simp <;> omega))) | (with_reducible refine Gx.setCell ?_ (by first | omega | (simp; done) | (simp <;> omega)))))); have S3 : At W3 w.heap.size (.cells #[.int .i64 den, .slice A n c] 24 (0, 0)) := (by rw [hW3]; (focus (repeat (first | (with_reducible assumption) | (with_reducible exact At.new _ _) | (with_reducible refine At.row ?_) | ((with_reducible refine At.row_other ?_ ?_); rotate_left; (focus (simp <;> omega))) | (with_reducible refine At.app ?_) | (with_reducible refine At.tick ?_) | (with_reducible refine At.gx ?_) | ((with_reducible refine At.new' ?_); focus (simp; done)) | (with_reducible refine At.alloc ?_) | (with_reducible refine At.drew ?_) | (with_reducible exact Is.new _ _ _) | (with_reducible refine Is.row ?_) | ((with_reducible refine Is.row_other ?_ ?_); rotate_left; (focus (simp <;> omega))) | (with_reducible refine Is.gx ?_) | ((with_reducible refine Is.new' ?_); focus (simp; done)) | (with_reducible refine Is.alloc ?_) | (with_reducible refine Is.drew ?_))))); clear hW3)
  have l3 := S3.lt
  have s0 : W3.cell? ⟨w.heap.size, 0, none⟩ = some (.int .i64 den) := by rw [cell_of_row W3 _ _ _ _ _ S3]; rfl
  have s1 : W3.cell? ⟨w.heap.size, 1, none⟩ = some (.slice A n c) := by rw [cell_of_row W3 _ _ _ _ _ S3]; rfl
  go_region_held3 (fun W => (∃ x, W = gx w x) ∧ W.cell? ⟨w.heap.size, 0, none⟩ = some (.int .i64 den) ∧ W.cell? ⟨w.heap.size, 1, none⟩ = some (.slice A n c))
    (refine ⟨(by repeat (first | (with_reducible exact Gx.refl _) | (with_reducible assumption) | (with_reducible refine Gx.gx ?_) | (with_reducible refine Gx.alloc ?_) | (with_reducible refine Gx.drew ?_) | (with_reducible refine Gx.drewN ?_) | (with_reducible refine Gx.setRow ?_ (by first | omega | (simp; done) | (simp <;> omega))) | (with_reducible refine Gx.setCell ?_ (by first | omega | (simp; done) | (simp <;> omega))))), ?_, ?_⟩ <;> first | assumption | exact cell_keep_gx ‹_› | go_keep | (simp [go_sem]; done))
    (first
    | (go_at_call 28; refine (H2.out _ (by repeat (first | (with_reducible exact Gx.refl _) | (with_reducible assumption) | (with_reducible refine Gx.gx ?_) | (with_reducible refine Gx.alloc ?_) | (with_reducible refine Gx.drew ?_) | (with_reducible refine Gx.drewN ?_) | (with_reducible refine Gx.setRow ?_ (by first | omega | (simp; done) | (simp <;> omega))) | (with_reducible refine Gx.setCell ?_ (by first | omega | (simp; done) | (simp <;> omega)))))).mono ?_; rintro e W4 ⟨A2, c2, x2, rfl, rfl, hi4⟩; (repeat (first | rw [gx_drew] at hi4 | rw [gx_gx] at hi4 | rw [drew_gx] at hi4 | rw [gx_drewN] at hi4 | rw [drewN_gx] at hi4)))
    | (go_at_call 27; refine (HI.out _ _ _ (by first | assumption | exact iAt_of hi3 (by repeat (first | (with_reducible exact Gx.refl _) | (with_reducible assumption) | (with_reducible refine Gx.gx ?_) | (with_reducible refine Gx.alloc ?_) | (with_reducible refine Gx.drew ?_) | (with_reducible refine Gx.drewN ?_) | (with_reducible refine Gx.setRow ?_ (by first | omega | (simp; done) | (simp <;> omega))) | (with_reducible refine Gx.setCell ?_ (by first | omega | (simp; done) | (simp <;> omega))))) | (rw [← gx_gx]; exact IAt.onx ‹_›)) (by repeat (first | (with_reducible exact Gx.refl _) | (with_reducible assumption) | (with_reducible refine Gx.gx ?_) | (with_reducible refine Gx.alloc ?_) | (with_reducible refine Gx.drew ?_) | (with_reducible refine Gx.drewN ?_) | (with_reducible refine Gx.setRow ?_ (by first | omega | (simp; done) | (simp <;> omega))) | (with_reducible refine Gx.setCell ?_ (by first | omega | (simp; done) | (simp <;> omega)))))).mono ?_; rintro e w' ⟨rfl, x3, rfl⟩)
    | (go_at_call 29; refine (D1.out _ (by repeat (first | (with_reducible exact Gx.refl _) | (with_reducible assumption) | (with_reducible refine Gx.gx ?_) | (with_reducible refine Gx.alloc ?_) | (with_reducible refine Gx.drew ?_) | (with_reducible refine Gx.drewN ?_) | (with_reducible refine Gx.setRow ?_ (by first | omega | (simp; done) | (simp <;> omega))) | (with_reducible refine Gx.setCell ?_ (by first | omega | (simp; done) | (simp <;> omega)))))).mono ?_; rintro e W5 ⟨A5, c5, x5, rfl, rfl, hs5⟩; (repeat (first | rw [gx_drew] at hs5 | rw [gx_gx] at hs5 | rw [drew_gx] at hs5 | rw [gx_drewN] at hs5 | rw [drewN_gx] at hs5)))
    | (go_at_call 30; refine (D2.out _ (by repeat (first | (with_reducible exact Gx.refl _) | (with_reducible assumption) | (with_reducible refine Gx.gx ?_) | (with_reducible refine Gx.alloc ?_) | (with_reducible refine Gx.drew ?_) | (with_reducible refine Gx.drewN ?_) | (with_reducible refine Gx.setRow ?_ (by first | omega | (simp; done) | (simp <;> omega))) | (with_reducible refine Gx.setCell ?_ (by first | omega | (simp; done) | (simp <;> omega)))))).mono ?_; rintro e W6 ⟨A6, c6, x6, rfl, rfl, hs6⟩; (repeat (first | rw [gx_drew] at hs6 | rw [gx_gx] at hs6 | rw [drew_gx] at hs6 | rw [gx_drewN] at hs6 | rw [drewN_gx] at hs6)))
    | (go_at_call 16; refine (HT.out _ _ _ (by first | assumption | (rw [← gx_gx]; exact SmAt.gx ‹_›)  ) (by repeat (first | (with_reducible exact Gx.refl _) | (with_reducible assumption) | (with_reducible refine Gx.gx ?_) | (with_reducible refine Gx.alloc ?_) | (with_reducible refine Gx.drew ?_) | (with_reducible refine Gx.drewN ?_) | (with_reducible refine Gx.setRow ?_ (by first | omega | (simp; done) | (simp <;> omega))) | (with_reducible refine Gx.setCell ?_ (by first | omega | (simp; done) | (simp <;> omega)))))).mono ?_; rintro e w' ⟨rfl, x7, rfl⟩))
  all_goals go_wp2_with (go_at_call 19; refine (holds_any _).mono ?_; rintro e w' ⟨rfl, x4, rfl⟩)
  all_goals go_ret
  all_goals exact ⟨rfl, (by repeat (first | (with_reducible exact Gx.refl _) | (with_reducible assumption) | (with_reducible refine Gx.gx ?_) | (with_reducible refine Gx.alloc ?_) | (with_reducible refine Gx.drew ?_) | (with_reducible refine Gx.drewN ?_) | (with_reducible refine Gx.setRow ?_ (by first | omega | (simp; done) | (simp <;> omega))) | (with_reducible refine Gx.setCell ?_ (by first | omega | (simp; done) | (simp <;> omega)))))⟩
set_option maxHeartbeats 8000000 in
set_option maxRecDepth 100000 in
theorem spkLaw_good (S : Value) (den most : Int) (A B : Option Addr) (n c m cB : Nat) (hS : S = serV den A n c) (w : World) (M : List Nat) (d1 e1 : Int) (n1' : Nat) (f1 : Nat → Sm) (d3 : Int) (n3' : Nat) (f3 : Nat → Sm) (T1 T2 T3 : ByteArray)
    (H1 : Hid (∀ W, (∃ x, W = gx w x) → Calls Tryd.prog 26 #[S, .int .i64 most] W (IntPost W M 0)))
    (H2 : Hid (∀ W, (∃ x, W = gx w x) → Calls Tryd.prog 28 #[S, .int .i64 most] W (IntPost W M 0)))
    (HI : Hid (∀ W A' c', IAt W (gw (zL M)) M.length A' → (∃ x, W = gx w x) → Calls Tryd.prog 27 #[.slice A' M.length c', .int .i64 0] W fun e W' => e = .returned (.string T1) ∧ ∃ x, W' = gx W x))
    (D1 : Hid (∀ W, (∃ x, W = gx w x) → Calls Tryd.prog 29 #[S, .slice B m cB] W (SerPost W d1 f1 n1' e1)))
    (D2 : Hid (∀ W, (∃ x, W = gx w x) → Calls Tryd.prog 30 #[S, .slice B m cB] W (SerPost W d1 f1 n1' e1)))
    (HT : Hid (∀ W A' c', SmAt W f1 n1' A' → (∃ x, W = gx w x) → Calls Tryd.prog 16 #[serV d1 A' n1' c', .int .i64 e1] W fun e W' => e = .returned (.string T2) ∧ ∃ x, W' = gx W x))
    (D3 : Hid (∀ W A' c', IAt W (gw (zL M)) M.length A' → (∃ x, W = gx w x) → Calls Tryd.prog 29 #[S, .slice A' M.length c'] W (SerPost W d3 f3 n3' 0)))
    (D4 : Hid (∀ W A' c', IAt W (gw (zL M)) M.length A' → (∃ x, W = gx w x) → Calls Tryd.prog 30 #[S, .slice A' M.length c'] W (SerPost W d3 f3 n3' 0)))
    (HT3 : Hid (∀ W A' c', SmAt W f3 n3' A' → (∃ x, W = gx w x) → Calls Tryd.prog 16 #[serV d3 A' n3' c', .int .i64 0] W fun e W' => e = .returned (.string T3) ∧ ∃ x, W' = gx W x)) :
    Calls Tryd.prog 7 #[S, .int .i64 most, .slice B m cB] w fun e w' => e = .returned (.bool true) ∧ ∃ x, w' = gx w x := by
  subst hS
  go_enter Tryd.func7, Tryd.ntmps7
  go_wp2_with (go_at_call 26; refine (H1.out _ (by repeat (first | (with_reducible exact Gx.refl _) | (with_reducible assumption) | (with_reducible refine Gx.gx ?_) | (with_reducible refine Gx.alloc ?_) | (with_reducible refine Gx.drew ?_) | (with_reducible refine Gx.drewN ?_) | (with_reducible refine Gx.setRow ?_ (by first | omega | (simp; done) | (simp <;> omega))) | (with_reducible refine Gx.setCell ?_ (by first | omega | (simp; done) | (simp <;> omega)))))).mono ?_; rintro e W3 ⟨A1, c1, x1, rfl, hW3, hi3⟩; have G3 : ∃ x, W3 = gx w x := (by rw [hW3]; exact (by repeat (first | (with_reducible exact Gx.refl _) | (with_reducible assumption) | (with_reducible refine Gx.gx ?_) | (with_reducible refine Gx.alloc ?_) | (with_reducible refine Gx.drew ?_) | (with_reducible refine Gx.drewN ?_) | (with_reducible refine Gx.setRow ?_ (by first | omega | (simp; done) | (simp <;> omega))) | (with_reducible refine Gx.setCell ?_ (by first | omega | (simp; done) | (simp <;> omega)))))); have S3 : At W3 w.heap.size (.cells #[.int .i64 den, .slice A n c] 24 (0, 0)) := (by rw [hW3]; (focus (repeat (first | (with_reducible assumption) | (with_reducible exact At.new _ _) | (with_reducible refine At.row ?_) | ((with_reducible refine At.row_other ?_ ?_); rotate_left; (focus (simp <;> omega))) | (with_reducible refine At.app ?_) | (with_reducible refine At.tick ?_) | (with_reducible refine At.gx ?_) | ((with_reducible refine At.new' ?_); focus (simp; done)) | (with_reducible refine At.alloc ?_) | (with_reducible refine At.drew ?_) | (with_reducible exact Is.new _ _ _) | (with_reducible refine Is.row ?_) | ((with_reducible refine Is.row_other ?_ ?_); rotate_left; (focus (simp <;> omega))) | (with_reducible refine Is.gx ?_) | ((with_reducible refine Is.new' ?_); focus (simp; done)) | (with_reducible refine Is.alloc ?_) | (with_reducible refine Is.drew ?_))))); clear hW3)
  have l3 := S3.lt
  have s0 : W3.cell? ⟨w.heap.size, 0, none⟩ = some (.int .i64 den) := by rw [cell_of_row W3 _ _ _ _ _ S3]; rfl
  have s1 : W3.cell? ⟨w.heap.size, 1, none⟩ = some (.slice A n c) := by rw [cell_of_row W3 _ _ _ _ _ S3]; rfl
  go_region_held3 (fun W => (∃ x, W = gx w x) ∧ W.cell? ⟨w.heap.size, 0, none⟩ = some (.int .i64 den) ∧ W.cell? ⟨w.heap.size, 1, none⟩ = some (.slice A n c))
    (refine ⟨(by repeat (first | (with_reducible exact Gx.refl _) | (with_reducible assumption) | (with_reducible refine Gx.gx ?_) | (with_reducible refine Gx.alloc ?_) | (with_reducible refine Gx.drew ?_) | (with_reducible refine Gx.drewN ?_) | (with_reducible refine Gx.setRow ?_ (by first | omega | (simp; done) | (simp <;> omega))) | (with_reducible refine Gx.setCell ?_ (by first | omega | (simp; done) | (simp <;> omega))))), ?_, ?_⟩ <;> first | assumption | exact cell_keep_gx ‹_› | go_keep | (simp [go_sem]; done))
    (first
    | (go_at_call 28; refine (H2.out _ (by repeat (first | (with_reducible exact Gx.refl _) | (with_reducible assumption) | (with_reducible refine Gx.gx ?_) | (with_reducible refine Gx.alloc ?_) | (with_reducible refine Gx.drew ?_) | (with_reducible refine Gx.drewN ?_) | (with_reducible refine Gx.setRow ?_ (by first | omega | (simp; done) | (simp <;> omega))) | (with_reducible refine Gx.setCell ?_ (by first | omega | (simp; done) | (simp <;> omega)))))).mono ?_; rintro e W4 ⟨A2, c2, x2, rfl, rfl, hi4⟩; (repeat (first | rw [gx_drew] at hi4 | rw [gx_gx] at hi4 | rw [drew_gx] at hi4 | rw [gx_drewN] at hi4 | rw [drewN_gx] at hi4)))
    | (go_at_call 27; refine (HI.out _ _ _ (by first | assumption | exact iAt_of hi3 (by repeat (first | (with_reducible exact Gx.refl _) | (with_reducible assumption) | (with_reducible refine Gx.gx ?_) | (with_reducible refine Gx.alloc ?_) | (with_reducible refine Gx.drew ?_) | (with_reducible refine Gx.drewN ?_) | (with_reducible refine Gx.setRow ?_ (by first | omega | (simp; done) | (simp <;> omega))) | (with_reducible refine Gx.setCell ?_ (by first | omega | (simp; done) | (simp <;> omega))))) | (rw [← gx_gx]; exact IAt.onx ‹_›)) (by repeat (first | (with_reducible exact Gx.refl _) | (with_reducible assumption) | (with_reducible refine Gx.gx ?_) | (with_reducible refine Gx.alloc ?_) | (with_reducible refine Gx.drew ?_) | (with_reducible refine Gx.drewN ?_) | (with_reducible refine Gx.setRow ?_ (by first | omega | (simp; done) | (simp <;> omega))) | (with_reducible refine Gx.setCell ?_ (by first | omega | (simp; done) | (simp <;> omega)))))).mono ?_; rintro e w' ⟨rfl, x3, rfl⟩)
    | (go_at_call 29; refine (D1.out _ (by repeat (first | (with_reducible exact Gx.refl _) | (with_reducible assumption) | (with_reducible refine Gx.gx ?_) | (with_reducible refine Gx.alloc ?_) | (with_reducible refine Gx.drew ?_) | (with_reducible refine Gx.drewN ?_) | (with_reducible refine Gx.setRow ?_ (by first | omega | (simp; done) | (simp <;> omega))) | (with_reducible refine Gx.setCell ?_ (by first | omega | (simp; done) | (simp <;> omega)))))).mono ?_; rintro e W5 ⟨A5, c5, x5, rfl, rfl, hs5⟩; (repeat (first | rw [gx_drew] at hs5 | rw [gx_gx] at hs5 | rw [drew_gx] at hs5 | rw [gx_drewN] at hs5 | rw [drewN_gx] at hs5)))
    | (go_at_call 30; refine (D2.out _ (by repeat (first | (with_reducible exact Gx.refl _) | (with_reducible assumption) | (with_reducible refine Gx.gx ?_) | (with_reducible refine Gx.alloc ?_) | (with_reducible refine Gx.drew ?_) | (with_reducible refine Gx.drewN ?_) | (with_reducible refine Gx.setRow ?_ (by first | omega | (simp; done) | (simp <;> omega))) | (with_reducible refine Gx.setCell ?_ (by first | omega | (simp; done) | (simp <;> omega)))))).mono ?_; rintro e W6 ⟨A6, c6, x6, rfl, rfl, hs6⟩; (repeat (first | rw [gx_drew] at hs6 | rw [gx_gx] at hs6 | rw [drew_gx] at hs6 | rw [gx_drewN] at hs6 | rw [drewN_gx] at hs6)))
    | (go_at_call 16; refine (HT.out _ _ _ (by first | assumption | (rw [← gx_gx]; exact SmAt.gx ‹_›)  ) (by repeat (first | (with_reducible exact Gx.refl _) | (with_reducible assumption) | (with_reducible refine Gx.gx ?_) | (with_reducible refine Gx.alloc ?_) | (with_reducible refine Gx.drew ?_) | (with_reducible refine Gx.drewN ?_) | (with_reducible refine Gx.setRow ?_ (by first | omega | (simp; done) | (simp <;> omega))) | (with_reducible refine Gx.setCell ?_ (by first | omega | (simp; done) | (simp <;> omega)))))).mono ?_; rintro e w' ⟨rfl, x7, rfl⟩))
  all_goals go_wp2_with (go_at_call 29; (with_reducible refine (D3.out _ _ _ (iAt_of hi3 (by repeat (first | (with_reducible exact Gx.refl _) | (with_reducible assumption) | (with_reducible refine Gx.gx ?_) | (with_reducible refine Gx.alloc ?_) | (with_reducible refine Gx.drew ?_) | (with_reducible refine Gx.drewN ?_) | (with_reducible refine Gx.setRow ?_ (by first | omega | (simp; done) | (simp <;> omega))) | (with_reducible refine Gx.setCell ?_ (by first | omega | (simp; done) | (simp <;> omega)))))) (by repeat (first | (with_reducible exact Gx.refl _) | (with_reducible assumption) | (with_reducible refine Gx.gx ?_) | (with_reducible refine Gx.alloc ?_) | (with_reducible refine Gx.drew ?_) | (with_reducible refine Gx.drewN ?_) | (with_reducible refine Gx.setRow ?_ (by first | omega | (simp; done) | (simp <;> omega))) | (with_reducible refine Gx.setCell ?_ (by first | omega | (simp; done) | (simp <;> omega)))))).mono ?_); rintro e W7 ⟨A7, c7, x8, rfl, hW7, hs7⟩; have G7 : ∃ x, W7 = gx w x := (by rw [hW7]; exact (by repeat (first | (with_reducible exact Gx.refl _) | (with_reducible assumption) | (with_reducible refine Gx.gx ?_) | (with_reducible refine Gx.alloc ?_) | (with_reducible refine Gx.drew ?_) | (with_reducible refine Gx.drewN ?_) | (with_reducible refine Gx.setRow ?_ (by first | omega | (simp; done) | (simp <;> omega))) | (with_reducible refine Gx.setCell ?_ (by first | omega | (simp; done) | (simp <;> omega)))))); have S7 : At W7 w.heap.size (.cells #[.int .i64 den, .slice A n c] 24 (0, 0)) := (by rw [hW7]; (focus (repeat (first | (with_reducible assumption) | (with_reducible exact At.new _ _) | (with_reducible refine At.row ?_) | ((with_reducible refine At.row_other ?_ ?_); rotate_left; (focus (simp <;> omega))) | (with_reducible refine At.app ?_) | (with_reducible refine At.tick ?_) | (with_reducible refine At.gx ?_) | ((with_reducible refine At.new' ?_); focus (simp; done)) | (with_reducible refine At.alloc ?_) | (with_reducible refine At.drew ?_) | (with_reducible exact Is.new _ _ _) | (with_reducible refine Is.row ?_) | ((with_reducible refine Is.row_other ?_ ?_); rotate_left; (focus (simp <;> omega))) | (with_reducible refine Is.gx ?_) | ((with_reducible refine Is.new' ?_); focus (simp; done)) | (with_reducible refine Is.alloc ?_) | (with_reducible refine Is.drew ?_))))); have K7 : ∃ x, W7 = gx W3 x := (by rw [hW7]; exact (by repeat (first | (with_reducible exact Gx.refl _) | (with_reducible assumption) | (with_reducible refine Gx.gx ?_) | (with_reducible refine Gx.alloc ?_) | (with_reducible refine Gx.drew ?_) | (with_reducible refine Gx.drewN ?_) | (with_reducible refine Gx.setRow ?_ (by first | omega | (simp; done) | (simp <;> omega))) | (with_reducible refine Gx.setCell ?_ (by first | omega | (simp; done) | (simp <;> omega)))))); clear hW7)
  obtain ⟨W8, hW8⟩ : ∃ W8, W8 = W7.alloc (.cells #[.int .i64 d3, .slice A7 n3' c7] 24) := ⟨_, rfl⟩
  obtain ⟨g7, hg7⟩ : ∃ g7, g7 = W7.heap.size := ⟨_, rfl⟩
  rw [← hW8, ← hg7]
  have G8 : ∃ x, W8 = gx w x := by rw [hW8]; exact (by repeat (first | (with_reducible exact Gx.refl _) | (with_reducible assumption) | (with_reducible refine Gx.gx ?_) | (with_reducible refine Gx.alloc ?_) | (with_reducible refine Gx.drew ?_) | (with_reducible refine Gx.drewN ?_) | (with_reducible refine Gx.setRow ?_ (by first | omega | (simp; done) | (simp <;> omega))) | (with_reducible refine Gx.setCell ?_ (by first | omega | (simp; done) | (simp <;> omega)))))
  have S8 : At W8 w.heap.size (.cells #[.int .i64 den, .slice A n c] 24 (0, 0)) := by rw [hW8]; exact S7.alloc
  have S9 : At W8 g7 (.cells #[.int .i64 d3, .slice A7 n3' c7] 24 (0, 0)) := by rw [hW8, hg7]; exact At.new W7 _
  have hi8 : IAt W8 (gw (zL M)) M.length A1 := iAt_of hi3 (by rw [hW8]; exact Gx.alloc K7)
  have hs9 : SmAt W8 f3 n3' A7 := by rw [hW8]; exact hs7.alloc
  clear hW8 hg7 hs7 K7 S7 G7 s0 s1
  have u0 : W8.cell? ⟨w.heap.size, 0, none⟩ = some (.int .i64 den) := by rw [cell_of_row W8 _ _ _ _ _ S8]; rfl
  have u1 : W8.cell? ⟨w.heap.size, 1, none⟩ = some (.slice A n c) := by rw [cell_of_row W8 _ _ _ _ _ S8]; rfl
  have v0 : W8.cell? ⟨g7, 0, none⟩ = some (.int .i64 d3) := by rw [cell_of_row W8 _ _ _ _ _ S9]; rfl
  have v1 : W8.cell? ⟨g7, 1, none⟩ = some (.slice A7 n3' c7) := by rw [cell_of_row W8 _ _ _ _ _ S9]; rfl
  go_region_held3 (fun W => (∃ x, W = gx w x) ∧ W.cell? ⟨w.heap.size, 0, none⟩ = some (.int .i64 den) ∧ W.cell? ⟨w.heap.size, 1, none⟩ = some (.slice A n c) ∧ W.cell? ⟨g7, 0, none⟩ = some (.int .i64 d3) ∧ W.cell? ⟨g7, 1, none⟩ = some (.slice A7 n3' c7))
    (refine ⟨(by repeat (first | (with_reducible exact Gx.refl _) | (with_reducible assumption) | (with_reducible refine Gx.gx ?_) | (with_reducible refine Gx.alloc ?_) | (with_reducible refine Gx.drew ?_) | (with_reducible refine Gx.drewN ?_) | (with_reducible refine Gx.setRow ?_ (by first | omega | (simp; done) | (simp <;> omega))) | (with_reducible refine Gx.setCell ?_ (by first | omega | (simp; done) | (simp <;> omega))))), ?_, ?_, ?_, ?_⟩ <;> first | assumption | exact cell_keep_gx ‹_› | go_keep | (simp [go_sem]; done))
    (first
    | (go_at_call 30; refine (D4.out _ _ _ (iAt_of hi8 (by repeat (first | (with_reducible exact Gx.refl _) | (with_reducible assumption) | (with_reducible refine Gx.gx ?_) | (with_reducible refine Gx.alloc ?_) | (with_reducible refine Gx.drew ?_) | (with_reducible refine Gx.drewN ?_) | (with_reducible refine Gx.setRow ?_ (by first | omega | (simp; done) | (simp <;> omega))) | (with_reducible refine Gx.setCell ?_ (by first | omega | (simp; done) | (simp <;> omega)))))) (by repeat (first | (with_reducible exact Gx.refl _) | (with_reducible assumption) | (with_reducible refine Gx.gx ?_) | (with_reducible refine Gx.alloc ?_) | (with_reducible refine Gx.drew ?_) | (with_reducible refine Gx.drewN ?_) | (with_reducible refine Gx.setRow ?_ (by first | omega | (simp; done) | (simp <;> omega))) | (with_reducible refine Gx.setCell ?_ (by first | omega | (simp; done) | (simp <;> omega)))))).mono ?_; rintro e W9 ⟨A9, c9, x9, rfl, rfl, hs10⟩; (repeat (first | rw [gx_drew] at hs10 | rw [gx_gx] at hs10 | rw [drew_gx] at hs10 | rw [gx_drewN] at hs10 | rw [drewN_gx] at hs10)))
    | (go_at_call 16; refine (HT3.out _ _ _ (by first | assumption | exact smAt_of hs9 (by repeat (first | (with_reducible exact Gx.refl _) | (with_reducible assumption) | (with_reducible refine Gx.gx ?_) | (with_reducible refine Gx.alloc ?_) | (with_reducible refine Gx.drew ?_) | (with_reducible refine Gx.drewN ?_) | (with_reducible refine Gx.setRow ?_ (by first | omega | (simp; done) | (simp <;> omega))) | (with_reducible refine Gx.setCell ?_ (by first | omega | (simp; done) | (simp <;> omega))))) | (rw [← gx_gx]; exact SmAt.gx ‹_›)) (by repeat (first | (with_reducible exact Gx.refl _) | (with_reducible assumption) | (with_reducible refine Gx.gx ?_) | (with_reducible refine Gx.alloc ?_) | (with_reducible refine Gx.drew ?_) | (with_reducible refine Gx.drewN ?_) | (with_reducible refine Gx.setRow ?_ (by first | omega | (simp; done) | (simp <;> omega))) | (with_reducible refine Gx.setCell ?_ (by first | omega | (simp; done) | (simp <;> omega)))))).mono ?_; rintro e w' ⟨rfl, x10, rfl⟩))
  all_goals go_wp2_with (go_at_call 19; refine (holds_any _).mono ?_; rintro e w' ⟨rfl, x6, rfl⟩)
  all_goals go_ret
  all_goals exact ⟨rfl, (by repeat (first | (with_reducible exact Gx.refl _) | (with_reducible assumption) | (with_reducible refine Gx.gx ?_) | (with_reducible refine Gx.alloc ?_) | (with_reducible refine Gx.drew ?_) | (with_reducible refine Gx.drewN ?_) | (with_reducible refine Gx.setRow ?_ (by first | omega | (simp; done) | (simp <;> omega))) | (with_reducible refine Gx.setCell ?_ (by first | omega | (simp; done) | (simp <;> omega)))))⟩
/-- Numbers of samples, handed in as ints, are all in the series, and rise. -/
theorem dbtE_spk {den : Int} {g : Nat → Sm} {n : Nat} {most : Int} (h0 : serE den g n = 0) : dbtE den g n (gw (zL (spkL g (solL g n) most (solL g n).length))) (spkL g (solL g n) most (solL g n).length).length = 0 := by
  obtain ⟨h1, h2⟩ := spkL_in (g := g) (most := most) (solL_at_lt g n) (fun i j hij hj => solL_rise g n i j hij hj) (solL g n).length
  generalize spkL g (solL g n) most (solL g n).length = M at *
  have a1 : firstOf (inE n (gw (zL M))) M.length = 0 := by
    by_cases e : firstOf (inE n (gw (zL M))) M.length = 0
    · exact e
    · exfalso
      rcases firstOf_in (inE n (gw (zL M))) M.length with h | ⟨i, hi, h⟩
      · exact e h
      · rw [h] at e
        refine e (inE_0 ?_)
        rw [zL_at hi]
        have := (h1 _ (show M.getD i 0 ∈ M by rw [List.getD, List.getElem?_eq_getElem hi]; exact List.getElem_mem hi)).1
        omega
  rw [dbtE_3 h0 a1]
  by_cases e : firstOf (riseE (gw (zL M))) M.length = 0
  · exact e
  · exfalso
    rcases firstOf_in (riseE (gw (zL M))) M.length with h | ⟨i, hi, h⟩
    · exact e h
    · rw [h] at e
      refine e (riseE_0 fun hc => ?_)
      obtain ⟨c1, c2⟩ := hc
      rw [zL_at hi, zL_at (by omega : i - 1 < M.length)] at c2
      have := List.pairwise_iff_getElem.1 h2 (i - 1) i (by omega) hi (by omega)
      simp only [List.getD, List.getElem?_eq_getElem hi, List.getElem?_eq_getElem (by omega : i - 1 < M.length), Option.getD_some] at c2
      omega
theorem dbtF_ok {g : Nat → Sm} {n : Nat} (hG : GoodS g n) (z : Nat → Int) (k i : Nat) (hi : i < n) : smOk (dbtF g z k i) := by
  obtain ⟨h1, h2, h3⟩ := dbtF_tn g z k i
  have := hG.ok i hi
  unfold smOk at *
  rw [h1, h2]
  omega
theorem dbtE_fit (den : Int) (g : Nat → Sm) (n : Nat) (z : Nat → Int) (m : Nat) : Fit (dbtE den g n z m) := by
  have f1 : ∀ i, Fit (inE n z i) := fun i => by unfold Fit inE; split <;> omega
  have f2 : ∀ i, Fit (riseE z i) := fun i => by unfold Fit riseE; split <;> omega
  by_cases h0 : serE den g n = 0
  · by_cases h1 : firstOf (inE n z) m = 0
    · rw [dbtE_3 h0 h1]; exact firstOf_fit f2 m
    · rw [dbtE_2 h0 h1]; exact firstOf_fit f1 m
  · rw [dbtE_1 h0]; exact serE_fit _ _ _
theorem dbtE_ser {den : Int} {g : Nat → Sm} {n : Nat} {z : Nat → Int} {m : Nat} (h : dbtE den g n z m = 0) : serE den g n = 0 := by
  by_cases h0 : serE den g n = 0
  · exact h0
  · rw [dbtE_1 h0] at h; exact absurd h h0
theorem dbt_fits (den : Int) (g : Nat → Sm) (n : Nat) (z : Nat → Int) (m : Nat) : Fit (if dbtE den g n z m = 0 then den else 0) ∧ (if dbtE den g n z m = 0 then n else 0) ≤ 1000000 ∧ FitS (dbtF g z m) (if dbtE den g n z m = 0 then n else 0) := by
  by_cases e : dbtE den g n z m = 0
  · rw [if_pos e, if_pos e]
    obtain ⟨d1, h1, h2⟩ := goodS_of (dbtE_ser e)
    refine ⟨by unfold Fit; omega, by omega, fun i hi => ?_⟩
    have hk := dbtF_ok h2 z m i hi
    unfold smOk at hk
    unfold Fit
    omega
  · rw [if_neg e, if_neg e]; exact ⟨by unfold Fit; omega, by omega, fun i hi => by omega⟩
theorem spkLaw (den most : Int) (A B : Option Addr) (n c m cB : Nat) (hN : A = none → n = 0 ∧ c = 0) (g : Nat → Sm) (z : Nat → Int) (hm : m ≤ 9223372036854775807) (w : World) (hp : Pow w) (hL : SmAt w g n A) (hB : IAt w z m B) :
    Calls Tryd.prog 7 #[serV den A n c, .int .i64 most, .slice B m cB] w fun e w' => e = .returned (.bool true) ∧ ∃ x, w' = gx w x := by
  have C1 := Lib.hid (fun W (hW : ∃ x, W = gx w x) => Spikes_any den g n c A most W (smAt_of hL hW))
  have C2 := Lib.hid (fun W (hW : ∃ x, W = gx w x) => RSpikes_any den g n c A most W (smAt_of hL hW))
  have C3 := Lib.hid (fun W (hW : ∃ x, W = gx w x) => Doubt_any den g n c A hN z m cB B hm W (smAt_of hL hW) (iAt_of hB hW))
  have C4 := Lib.hid (fun W (hW : ∃ x, W = gx w x) => RDoubt_any den g n c A hN z m cB B hm W (smAt_of hL hW) (iAt_of hB hW))
  obtain ⟨k1, k2, k3⟩ := dbt_fits den g n z m
  have C5 := Lib.hid (fun W A' c' (hs : SmAt W (dbtF g z m) (if dbtE den g n z m = 0 then n else 0) A') (hW : ∃ x, W = gx w x) => told_any W (if dbtE den g n z m = 0 then den else 0) (dbtF g z m) (if dbtE den g n z m = 0 then n else 0) c' A' (dbtE den g n z m) k1 k3 k2 (dbtE_fit _ _ _ _ _) (by obtain ⟨x, rfl⟩ := hW; exact hp.gx.here) hs)
  have hML : ∀ M : List Nat, (∀ x ∈ M, x < 20000) → M.length ≤ 20000 → ∀ er, Fit er → Hid (∀ W A' c', IAt W (gw (zL M)) M.length A' → (∃ x, W = gx w x) → Calls Tryd.prog 27 #[.slice A' M.length c', .int .i64 er] W fun e W' => e = .returned (.string (intsT (zL M) er)) ∧ ∃ x, W' = gx W x) := by
    intro M h1 h2 er he
    rintro W A' c' hi ⟨x, rfl⟩
    have := ints_any _ (zL M) c' A' er (fun n hn => by
      unfold zL at hn
      obtain ⟨i, hi, rfl⟩ := List.mem_map.1 hn
      have := h1 i hi
      unfold Fit; omega) (by rw [zL_len]; omega) he hp.gx.here (by rw [zL_len]; exact hi.out)
    rw [zL_len] at this
    exact this
  by_cases h0 : spkE den g n most = 0
  · have hs0 : serE den g n = 0 := by
      by_cases e : serE den g n = 0
      · exact e
      · rw [spkE_1 e] at h0; exact absurd h0 e
    obtain ⟨_, hn, hG⟩ := goodS_of hs0
    rw [h0, if_pos rfl] at C1 C2
    have hin := (spkL_in (g := g) (most := most) (solL_at_lt g n) (fun i j hij hj => solL_rise g n i j hij hj) (solL g n).length).1
    have hlen := spkL_len g (solL g n) most (solL g n).length
    have hle := solL_len g n
    have hE := dbtE_spk (most := most) hs0
    obtain ⟨M, hM⟩ : ∃ M, M = spkL g (solL g n) most (solL g n).length := ⟨_, rfl⟩
    rw [← hM] at C1 C2 hin hlen hE
    clear hM
    have C6 := Lib.hid (fun W A' c' (hi : IAt W (gw (zL M)) M.length A') (hW : ∃ x, W = gx w x) => Doubt_any den g n c A hN (gw (zL M)) M.length c' A' (by omega) W (smAt_of hL hW) hi)
    have C7 := Lib.hid (fun W A' c' (hi : IAt W (gw (zL M)) M.length A') (hW : ∃ x, W = gx w x) => RDoubt_any den g n c A hN (gw (zL M)) M.length c' A' (by omega) W (smAt_of hL hW) hi)
    obtain ⟨q1, q2, q3⟩ := dbt_fits den g n (gw (zL M)) M.length
    rw [hE, if_pos rfl, if_pos rfl] at C6 C7
    rw [hE, if_pos rfl] at q1 q2 q3
    have C8 := Lib.hid (fun W A' c' (hs : SmAt W (dbtF g (gw (zL M)) M.length) n A') (hW : ∃ x, W = gx w x) => told_any W den (dbtF g (gw (zL M)) M.length) n c' A' 0 q1 q3 q2 (by unfold Fit; omega) (by obtain ⟨x, rfl⟩ := hW; exact hp.gx.here) hs)
    exact spkLaw_good _ den most A B n c m cB rfl w M _ _ _ _ den n (dbtF g (gw (zL M)) M.length) _ _ _ C1 C2 (hML M (fun x hx => by have := (hin x hx).1; omega) (by omega) 0 (by unfold Fit; omega)) C3 C4 C5 C6 C7 C8
  · rw [if_neg h0] at C1 C2
    exact spkLaw_bad _ den most A B n c m cB rfl w [] _ _ _ _ _ _ _ h0 C1 C2 (hML [] (fun x hx => absurd hx (by simp)) (by simp) _ (spkE_fit _ _ _ _)) C3 C4 C5
end Go.Proofs.YtjlokobgdkkppaaDoor
