/-
  CheckTracks of one track: both sides.
-/
import Derived.Test.YtbhcjaejkplfeaaGreatDoorPTk
import Derived.Test.YtbhcjaejkplfeaaGreatDoorPRNm2
import Derived.Deep.RegionWith
namespace Go.Proofs.YtbhcjaejkplfeaaGreatDoor
open Go.RowKit
-- AT2
-- AT3

/-- One track, of any name, lies in a block. -/
structure TkAt (w : World) (b : Nat) (s : ByteArray) (den : Int) (A : Option Addr) (n c : Nat) (lg : Int) : Prop where
  c0 : w.cell? ⟨b, 0, none⟩ = some (.string s)
  c1 : w.cell? ⟨b, 1, none⟩ = some (.int .i64 den)
  c2 : w.cell? ⟨b, 2, none⟩ = some (.slice A n c)
  c3 : w.cell? ⟨b, 3, none⟩ = some (.int .i64 lg)
theorem ne0t {q : Int} (h : q ≠ 0) : decide (q = 0) = false := decide_eq_false h
theorem beq0 {q : Int} (h : q ≠ 0) : (q == 0) = false := beq_eq_false_iff_ne.2 h
theorem bne0 {q : Int} (h : q ≠ 0) : (q != 0) = true := by rw [bne, beq0 h]; rfl
theorem outsideE_any (n lo hi : Int) (b : Bool) (hb : (b = false ∧ lo ≤ n ∧ n ≤ hi) ∨ (b = true ∧ n < lo) ∨ (b = true ∧ lo ≤ n ∧ hi < n)) (w : World) : Calls Tryz.prog 75 #[.int .i64 n, .int .i64 lo, .int .i64 hi] w fun e w' => e = .returned (.bool b) ∧ w = w' := by
  rcases hb with ⟨rfl, h1, h2⟩ | ⟨rfl, h1⟩ | ⟨rfl, h1, h2⟩
  · have k1 : decide (n < lo) = false := decide_eq_false (by omega)
    have k2 : decide (hi < n) = false := decide_eq_false (by omega)
    clear h1 h2
    go_enter Tryz.func75, Tryz.ntmps75
    go_wp2_with go_skip
    go_ret
    exact ⟨rfl, rfl⟩
  · have k1 : decide (n < lo) = true := decide_eq_true h1
    clear h1
    go_enter Tryz.func75, Tryz.ntmps75
    go_wp2_with go_skip
    go_ret
    exact ⟨rfl, rfl⟩
  · have k1 : decide (n < lo) = false := decide_eq_false (by omega)
    have k2 : decide (hi < n) = true := decide_eq_true h2
    clear h1 h2
    go_enter Tryz.func75, Tryz.ntmps75
    go_wp2_with go_skip
    go_ret
    exact ⟨rfl, rfl⟩
/-- What is wrong with one track. -/
@[irreducible] def tkE (N : Bool) (Q lg : Int) : Int := if N = false then 8 else if Q ≠ 0 then Q else if 0 ≤ lg ∧ lg ≤ 1099511627776 then 0 else 9
theorem tkE_ways (N : Bool) (Q lg : Int) : (N = false ∧ tkE N Q lg = 8) ∨ (N = true ∧ Q ≠ 0 ∧ tkE N Q lg = Q) ∨ (N = true ∧ Q = 0 ∧ lg < 0 ∧ tkE N Q lg = 9) ∨ (N = true ∧ Q = 0 ∧ 0 ≤ lg ∧ 1099511627776 < lg ∧ tkE N Q lg = 9) ∨ (N = true ∧ Q = 0 ∧ 0 ≤ lg ∧ lg ≤ 1099511627776 ∧ tkE N Q lg = 0) := by
  unfold tkE
  cases N with
  | false => exact .inl ⟨rfl, by simp⟩
  | true =>
    by_cases h : Q = 0
    · subst h
      by_cases h1 : 0 ≤ lg
      · by_cases h2 : lg ≤ 1099511627776
        · exact .inr (.inr (.inr (.inr ⟨rfl, rfl, h1, h2, by simp [h1, h2]⟩)))
        · exact .inr (.inr (.inr (.inl ⟨rfl, rfl, h1, by omega, by simp [h2]⟩)))
      · exact .inr (.inr (.inl ⟨rfl, rfl, by omega, by simp [h1]⟩))
    · exact .inr (.inl ⟨rfl, h, by simp [h]⟩)
set_option maxHeartbeats 4000000 in
set_option maxRecDepth 100000 in
theorem CheckTracksT (s : ByteArray) (hs : s.size ≤ 9223372036854775807) (b cc : Nat) (den : Int) (A : Option Addr) (n c : Nat) (lg : Int) (f : Nat → Sm) (w : World) (h : TkAt w b s den A n c lg) (hL : SmAt w f n A) :
    Calls Tryz.prog 41 #[.slice (some ⟨b, 0, none⟩) 1 cc] w fun e w' => e = .returned (.int .i64 (tkE (nameT s) (serE den f n) lg)) ∧ ∃ x, w' = gx w x := by
  have HC := Lib.hid (fun W (hW : ∃ x, W = gx w x) => (Check_any den f n c A W (by obtain ⟨x, rfl⟩ := hW; exact hL.gx)))
  have HN := Lib.hid (fun W => IsNameE_any s hs W)
  have hb : b < w.heap.size := World.block_lt_of_cell? w _ h.c0
  obtain ⟨h0', h1, h2, h3⟩ := h
  have hw := tkE_ways (nameT s) (serE den f n) lg
  generalize tkE (nameT s) (serE den f n) lg = E at *
  generalize nameT s = N at *
  generalize serE den f n = Q at *
  clear hL hs
  rcases hw with ⟨hN, hE⟩ | ⟨hN, q1, hE⟩ | ⟨hN, q1, q2, hE⟩ | ⟨hN, q1, q2, q3, hE⟩ | ⟨hN, q1, q2, q3, hE⟩
  · subst hE
    subst hN
    go_enter Tryz.func41, Tryz.ntmps41
    go_wp2
    refine wp_loop_rounds 2 ?_
    rw [rounds_succ]
    go_wp2_with (first | go_skip | (go_at_call 69; refine (HN.out _).mono ?_; rintro e w' ⟨rfl, rfl⟩))
    go_ret
    exact ⟨rfl, (by repeat (first | (with_reducible exact Gx.refl _) | (with_reducible assumption) | (with_reducible refine Gx.gx ?_) | (with_reducible refine Gx.alloc ?_) | (with_reducible refine Gx.drew ?_) | (with_reducible refine Gx.drewN ?_) | (with_reducible refine Gx.setRow ?_ (by first | omega | (simp; done) | (simp <;> omega))) | (with_reducible refine Gx.setCell ?_ (by first | omega | (simp; done) | (simp <;> omega)))))⟩
  · subst hE
    subst hN
    have k0 : (E == 0) = false := beq0 q1
    have k1 : (E != 0) = true := bne0 q1
    have k2 : decide (E = 0) = false := ne0t q1
    have k3 : ¬ E = 0 := q1
    clear q1
    go_enter Tryz.func41, Tryz.ntmps41
    go_wp2
    refine wp_loop_rounds 2 ?_
    rw [rounds_succ]
    go_wp2_with (first | go_skip | (go_at_call 69; refine (HN.out _).mono ?_; rintro e w' ⟨rfl, rfl⟩))
    go_region_held3 (fun W => (∃ x, W = gx w x) ∧ W.cell? ⟨w.heap.size, 0, none⟩ = some (.string s) ∧ W.cell? ⟨w.heap.size, 1, none⟩ = some (.int .i64 den) ∧ W.cell? ⟨w.heap.size, 2, none⟩ = some (.slice A n c) ∧ W.cell? ⟨w.heap.size, 3, none⟩ = some (.int .i64 lg))
      (refine ⟨(by repeat (first | (with_reducible exact Gx.refl _) | (with_reducible assumption) | (with_reducible refine Gx.gx ?_) | (with_reducible refine Gx.alloc ?_) | (with_reducible refine Gx.drew ?_) | (with_reducible refine Gx.drewN ?_) | (with_reducible refine Gx.setRow ?_ (by first | omega | (simp; done) | (simp <;> omega))) | (with_reducible refine Gx.setCell ?_ (by first | omega | (simp; done) | (simp <;> omega))))), ?_, ?_, ?_, ?_⟩ <;> first | assumption | exact cell_keep_gx ‹_› | go_keep | (simp [go_sem]; done))
      (first | (go_at_call 70; refine (TrackNumber_none _ _ _ _).mono ?_; rintro e w' ⟨rfl, x2, rfl⟩))
    all_goals go_wp2_with (first | go_skip | (go_at_call 71; refine (HC.out _ (by repeat (first | (with_reducible exact Gx.refl _) | (with_reducible assumption) | (with_reducible refine Gx.gx ?_) | (with_reducible refine Gx.alloc ?_) | (with_reducible refine Gx.drew ?_) | (with_reducible refine Gx.drewN ?_) | (with_reducible refine Gx.setRow ?_ (by first | omega | (simp; done) | (simp <;> omega))) | (with_reducible refine Gx.setCell ?_ (by first | omega | (simp; done) | (simp <;> omega)))))).mono ?_; rintro e w' ⟨rfl, x3, rfl⟩))
    all_goals go_ret
    all_goals exact ⟨rfl, (by repeat (first | (with_reducible exact Gx.refl _) | (with_reducible assumption) | (with_reducible refine Gx.gx ?_) | (with_reducible refine Gx.alloc ?_) | (with_reducible refine Gx.drew ?_) | (with_reducible refine Gx.drewN ?_) | (with_reducible refine Gx.setRow ?_ (by first | omega | (simp; done) | (simp <;> omega))) | (with_reducible refine Gx.setCell ?_ (by first | omega | (simp; done) | (simp <;> omega)))))⟩
  · subst hE
    subst hN
    subst q1
    have k0 : decide (lg < 0) = true := decide_eq_true q2
    clear q2
    go_enter Tryz.func41, Tryz.ntmps41
    go_wp2
    refine wp_loop_rounds 2 ?_
    rw [rounds_succ]
    go_wp2_with (first | go_skip | (go_at_call 69; refine (HN.out _).mono ?_; rintro e w' ⟨rfl, rfl⟩))
    go_region_held3 (fun W => (∃ x, W = gx w x) ∧ W.cell? ⟨w.heap.size, 0, none⟩ = some (.string s) ∧ W.cell? ⟨w.heap.size, 1, none⟩ = some (.int .i64 den) ∧ W.cell? ⟨w.heap.size, 2, none⟩ = some (.slice A n c) ∧ W.cell? ⟨w.heap.size, 3, none⟩ = some (.int .i64 lg))
      (refine ⟨(by repeat (first | (with_reducible exact Gx.refl _) | (with_reducible assumption) | (with_reducible refine Gx.gx ?_) | (with_reducible refine Gx.alloc ?_) | (with_reducible refine Gx.drew ?_) | (with_reducible refine Gx.drewN ?_) | (with_reducible refine Gx.setRow ?_ (by first | omega | (simp; done) | (simp <;> omega))) | (with_reducible refine Gx.setCell ?_ (by first | omega | (simp; done) | (simp <;> omega))))), ?_, ?_, ?_, ?_⟩ <;> first | assumption | exact cell_keep_gx ‹_› | go_keep | (simp [go_sem]; done))
      (first | (go_at_call 70; refine (TrackNumber_none _ _ _ _).mono ?_; rintro e w' ⟨rfl, x2, rfl⟩))
    all_goals go_wp2_with (first | go_skip | (go_at_call 71; refine (HC.out _ (by repeat (first | (with_reducible exact Gx.refl _) | (with_reducible assumption) | (with_reducible refine Gx.gx ?_) | (with_reducible refine Gx.alloc ?_) | (with_reducible refine Gx.drew ?_) | (with_reducible refine Gx.drewN ?_) | (with_reducible refine Gx.setRow ?_ (by first | omega | (simp; done) | (simp <;> omega))) | (with_reducible refine Gx.setCell ?_ (by first | omega | (simp; done) | (simp <;> omega)))))).mono ?_; rintro e w' ⟨rfl, x3, rfl⟩))
    all_goals go_ret
    all_goals exact ⟨rfl, (by repeat (first | (with_reducible exact Gx.refl _) | (with_reducible assumption) | (with_reducible refine Gx.gx ?_) | (with_reducible refine Gx.alloc ?_) | (with_reducible refine Gx.drew ?_) | (with_reducible refine Gx.drewN ?_) | (with_reducible refine Gx.setRow ?_ (by first | omega | (simp; done) | (simp <;> omega))) | (with_reducible refine Gx.setCell ?_ (by first | omega | (simp; done) | (simp <;> omega)))))⟩
  · subst hE
    subst hN
    subst q1
    have k0 : decide (lg < 0) = false := decide_eq_false (by omega)
    have k1 : decide (1099511627776 < lg) = true := decide_eq_true q3
    clear q2 q3
    go_enter Tryz.func41, Tryz.ntmps41
    go_wp2
    refine wp_loop_rounds 2 ?_
    rw [rounds_succ]
    go_wp2_with (first | go_skip | (go_at_call 69; refine (HN.out _).mono ?_; rintro e w' ⟨rfl, rfl⟩))
    go_region_held3 (fun W => (∃ x, W = gx w x) ∧ W.cell? ⟨w.heap.size, 0, none⟩ = some (.string s) ∧ W.cell? ⟨w.heap.size, 1, none⟩ = some (.int .i64 den) ∧ W.cell? ⟨w.heap.size, 2, none⟩ = some (.slice A n c) ∧ W.cell? ⟨w.heap.size, 3, none⟩ = some (.int .i64 lg))
      (refine ⟨(by repeat (first | (with_reducible exact Gx.refl _) | (with_reducible assumption) | (with_reducible refine Gx.gx ?_) | (with_reducible refine Gx.alloc ?_) | (with_reducible refine Gx.drew ?_) | (with_reducible refine Gx.drewN ?_) | (with_reducible refine Gx.setRow ?_ (by first | omega | (simp; done) | (simp <;> omega))) | (with_reducible refine Gx.setCell ?_ (by first | omega | (simp; done) | (simp <;> omega))))), ?_, ?_, ?_, ?_⟩ <;> first | assumption | exact cell_keep_gx ‹_› | go_keep | (simp [go_sem]; done))
      (first | (go_at_call 70; refine (TrackNumber_none _ _ _ _).mono ?_; rintro e w' ⟨rfl, x2, rfl⟩))
    all_goals go_wp2_with (first | go_skip | (go_at_call 71; refine (HC.out _ (by repeat (first | (with_reducible exact Gx.refl _) | (with_reducible assumption) | (with_reducible refine Gx.gx ?_) | (with_reducible refine Gx.alloc ?_) | (with_reducible refine Gx.drew ?_) | (with_reducible refine Gx.drewN ?_) | (with_reducible refine Gx.setRow ?_ (by first | omega | (simp; done) | (simp <;> omega))) | (with_reducible refine Gx.setCell ?_ (by first | omega | (simp; done) | (simp <;> omega)))))).mono ?_; rintro e w' ⟨rfl, x3, rfl⟩))
    all_goals go_ret
    all_goals exact ⟨rfl, (by repeat (first | (with_reducible exact Gx.refl _) | (with_reducible assumption) | (with_reducible refine Gx.gx ?_) | (with_reducible refine Gx.alloc ?_) | (with_reducible refine Gx.drew ?_) | (with_reducible refine Gx.drewN ?_) | (with_reducible refine Gx.setRow ?_ (by first | omega | (simp; done) | (simp <;> omega))) | (with_reducible refine Gx.setCell ?_ (by first | omega | (simp; done) | (simp <;> omega)))))⟩
  · subst hE
    subst hN
    subst q1
    have k0 : decide (lg < 0) = false := decide_eq_false (by omega)
    have k1 : decide (1099511627776 < lg) = false := decide_eq_false (by omega)
    clear q2 q3
    go_enter Tryz.func41, Tryz.ntmps41
    go_wp2
    refine wp_loop_rounds 2 ?_
    rw [rounds_succ]
    go_wp2_with (first | go_skip | (go_at_call 69; refine (HN.out _).mono ?_; rintro e w' ⟨rfl, rfl⟩))
    go_region_held3 (fun W => (∃ x, W = gx w x) ∧ W.cell? ⟨w.heap.size, 0, none⟩ = some (.string s) ∧ W.cell? ⟨w.heap.size, 1, none⟩ = some (.int .i64 den) ∧ W.cell? ⟨w.heap.size, 2, none⟩ = some (.slice A n c) ∧ W.cell? ⟨w.heap.size, 3, none⟩ = some (.int .i64 lg))
      (refine ⟨(by repeat (first | (with_reducible exact Gx.refl _) | (with_reducible assumption) | (with_reducible refine Gx.gx ?_) | (with_reducible refine Gx.alloc ?_) | (with_reducible refine Gx.drew ?_) | (with_reducible refine Gx.drewN ?_) | (with_reducible refine Gx.setRow ?_ (by first | omega | (simp; done) | (simp <;> omega))) | (with_reducible refine Gx.setCell ?_ (by first | omega | (simp; done) | (simp <;> omega))))), ?_, ?_, ?_, ?_⟩ <;> first | assumption | exact cell_keep_gx ‹_› | go_keep | (simp [go_sem]; done))
      (first | (go_at_call 70; refine (TrackNumber_none _ _ _ _).mono ?_; rintro e w' ⟨rfl, x2, rfl⟩))
    all_goals go_wp2_with (first | go_skip | (go_at_call 71; refine (HC.out _ (by repeat (first | (with_reducible exact Gx.refl _) | (with_reducible assumption) | (with_reducible refine Gx.gx ?_) | (with_reducible refine Gx.alloc ?_) | (with_reducible refine Gx.drew ?_) | (with_reducible refine Gx.drewN ?_) | (with_reducible refine Gx.setRow ?_ (by first | omega | (simp; done) | (simp <;> omega))) | (with_reducible refine Gx.setCell ?_ (by first | omega | (simp; done) | (simp <;> omega)))))).mono ?_; rintro e w' ⟨rfl, x3, rfl⟩))
    all_goals rw [rounds_succ]
    all_goals go_wp2
    all_goals go_ret
    all_goals exact ⟨rfl, (by repeat (first | (with_reducible exact Gx.refl _) | (with_reducible assumption) | (with_reducible refine Gx.gx ?_) | (with_reducible refine Gx.alloc ?_) | (with_reducible refine Gx.drew ?_) | (with_reducible refine Gx.drewN ?_) | (with_reducible refine Gx.setRow ?_ (by first | omega | (simp; done) | (simp <;> omega))) | (with_reducible refine Gx.setCell ?_ (by first | omega | (simp; done) | (simp <;> omega)))))⟩
set_option maxHeartbeats 4000000 in
set_option maxRecDepth 100000 in
theorem RCheckTracksT (s : ByteArray) (hs : s.size ≤ 9223372036854775807) (b cc : Nat) (den : Int) (A : Option Addr) (n c : Nat) (lg : Int) (f : Nat → Sm) (w : World) (h : TkAt w b s den A n c lg) (hL : SmAt w f n A) :
    Calls Tryz.prog 43 #[.slice (some ⟨b, 0, none⟩) 1 cc] w fun e w' => e = .returned (.int .i64 (tkE (nameT s) (serE den f n) lg)) ∧ ∃ x, w' = gx w x := by
  have HC := Lib.hid (fun W (hW : ∃ x, W = gx w x) => (RCheck_any den f n c A W (by obtain ⟨x, rfl⟩ := hW; exact hL.gx)))
  have HN := Lib.hid (fun W => RIsNameT_any s hs W)
  have hb : b < w.heap.size := World.block_lt_of_cell? w _ h.c0
  obtain ⟨h0', h1, h2, h3⟩ := h
  have hw := tkE_ways (nameT s) (serE den f n) lg
  generalize tkE (nameT s) (serE den f n) lg = E at *
  generalize nameT s = N at *
  generalize serE den f n = Q at *
  clear hL hs
  rcases hw with ⟨hN, hE⟩ | ⟨hN, q1, hE⟩ | ⟨hN, q1, q2, hE⟩ | ⟨hN, q1, q2, q3, hE⟩ | ⟨hN, q1, q2, q3, hE⟩
  · subst hE
    subst hN
    go_enter Tryz.func43, Tryz.ntmps43
    go_wp2
    refine wp_loop_rounds 2 ?_
    rw [rounds_succ]
    go_wp2_with (first | go_skip | (go_at_call 73; refine (HN.out _).mono ?_; rintro e w' ⟨rfl, x1, rfl⟩))
    go_ret
    exact ⟨rfl, (by repeat (first | (with_reducible exact Gx.refl _) | (with_reducible assumption) | (with_reducible refine Gx.gx ?_) | (with_reducible refine Gx.alloc ?_) | (with_reducible refine Gx.drew ?_) | (with_reducible refine Gx.drewN ?_) | (with_reducible refine Gx.setRow ?_ (by first | omega | (simp; done) | (simp <;> omega))) | (with_reducible refine Gx.setCell ?_ (by first | omega | (simp; done) | (simp <;> omega)))))⟩
  · subst hE
    subst hN
    have k0 : (E == 0) = false := beq0 q1
    have k1 : (E != 0) = true := bne0 q1
    have k2 : decide (E = 0) = false := ne0t q1
    have k3 : ¬ E = 0 := q1
    clear q1
    go_enter Tryz.func43, Tryz.ntmps43
    go_wp2
    refine wp_loop_rounds 2 ?_
    rw [rounds_succ]
    go_wp2_with (first | go_skip | (go_at_call 73; refine (HN.out _).mono ?_; rintro e w' ⟨rfl, x1, rfl⟩))
    refine wp_loop_rounds 1 ?_
    rw [rounds_succ]
    go_wp2_with (first | go_skip | (go_at_call 74; refine (HC.out _ (by repeat (first | (with_reducible exact Gx.refl _) | (with_reducible assumption) | (with_reducible refine Gx.gx ?_) | (with_reducible refine Gx.alloc ?_) | (with_reducible refine Gx.drew ?_) | (with_reducible refine Gx.drewN ?_) | (with_reducible refine Gx.setRow ?_ (by first | omega | (simp; done) | (simp <;> omega))) | (with_reducible refine Gx.setCell ?_ (by first | omega | (simp; done) | (simp <;> omega)))))).mono ?_; rintro e w' ⟨rfl, x3, rfl⟩))
    go_ret
    exact ⟨rfl, (by repeat (first | (with_reducible exact Gx.refl _) | (with_reducible assumption) | (with_reducible refine Gx.gx ?_) | (with_reducible refine Gx.alloc ?_) | (with_reducible refine Gx.drew ?_) | (with_reducible refine Gx.drewN ?_) | (with_reducible refine Gx.setRow ?_ (by first | omega | (simp; done) | (simp <;> omega))) | (with_reducible refine Gx.setCell ?_ (by first | omega | (simp; done) | (simp <;> omega)))))⟩
  · subst hE
    subst hN
    subst q1
    have HO := Lib.hid (fun W => outsideE_any lg 0 1099511627776 true (.inr (.inl ⟨rfl, q2⟩)) W)
    clear q2
    go_enter Tryz.func43, Tryz.ntmps43
    go_wp2
    refine wp_loop_rounds 2 ?_
    rw [rounds_succ]
    go_wp2_with (first | go_skip | (go_at_call 73; refine (HN.out _).mono ?_; rintro e w' ⟨rfl, x1, rfl⟩))
    refine wp_loop_rounds 1 ?_
    rw [rounds_succ]
    go_wp2_with (first | go_skip | (go_at_call 74; refine (HC.out _ (by repeat (first | (with_reducible exact Gx.refl _) | (with_reducible assumption) | (with_reducible refine Gx.gx ?_) | (with_reducible refine Gx.alloc ?_) | (with_reducible refine Gx.drew ?_) | (with_reducible refine Gx.drewN ?_) | (with_reducible refine Gx.setRow ?_ (by first | omega | (simp; done) | (simp <;> omega))) | (with_reducible refine Gx.setCell ?_ (by first | omega | (simp; done) | (simp <;> omega)))))).mono ?_; rintro e w' ⟨rfl, x3, rfl⟩) | (go_at_call 75; refine (HO.out _).mono ?_; rintro e w' ⟨rfl, rfl⟩))
    go_ret
    exact ⟨rfl, (by repeat (first | (with_reducible exact Gx.refl _) | (with_reducible assumption) | (with_reducible refine Gx.gx ?_) | (with_reducible refine Gx.alloc ?_) | (with_reducible refine Gx.drew ?_) | (with_reducible refine Gx.drewN ?_) | (with_reducible refine Gx.setRow ?_ (by first | omega | (simp; done) | (simp <;> omega))) | (with_reducible refine Gx.setCell ?_ (by first | omega | (simp; done) | (simp <;> omega)))))⟩
  · subst hE
    subst hN
    subst q1
    have HO := Lib.hid (fun W => outsideE_any lg 0 1099511627776 true (.inr (.inr ⟨rfl, q2, q3⟩)) W)
    clear q2 q3
    go_enter Tryz.func43, Tryz.ntmps43
    go_wp2
    refine wp_loop_rounds 2 ?_
    rw [rounds_succ]
    go_wp2_with (first | go_skip | (go_at_call 73; refine (HN.out _).mono ?_; rintro e w' ⟨rfl, x1, rfl⟩))
    refine wp_loop_rounds 1 ?_
    rw [rounds_succ]
    go_wp2_with (first | go_skip | (go_at_call 74; refine (HC.out _ (by repeat (first | (with_reducible exact Gx.refl _) | (with_reducible assumption) | (with_reducible refine Gx.gx ?_) | (with_reducible refine Gx.alloc ?_) | (with_reducible refine Gx.drew ?_) | (with_reducible refine Gx.drewN ?_) | (with_reducible refine Gx.setRow ?_ (by first | omega | (simp; done) | (simp <;> omega))) | (with_reducible refine Gx.setCell ?_ (by first | omega | (simp; done) | (simp <;> omega)))))).mono ?_; rintro e w' ⟨rfl, x3, rfl⟩) | (go_at_call 75; refine (HO.out _).mono ?_; rintro e w' ⟨rfl, rfl⟩))
    go_ret
    exact ⟨rfl, (by repeat (first | (with_reducible exact Gx.refl _) | (with_reducible assumption) | (with_reducible refine Gx.gx ?_) | (with_reducible refine Gx.alloc ?_) | (with_reducible refine Gx.drew ?_) | (with_reducible refine Gx.drewN ?_) | (with_reducible refine Gx.setRow ?_ (by first | omega | (simp; done) | (simp <;> omega))) | (with_reducible refine Gx.setCell ?_ (by first | omega | (simp; done) | (simp <;> omega)))))⟩
  · subst hE
    subst hN
    subst q1
    have HO := Lib.hid (fun W => outsideE_any lg 0 1099511627776 false (.inl ⟨rfl, q2, q3⟩) W)
    clear q2 q3
    go_enter Tryz.func43, Tryz.ntmps43
    go_wp2
    refine wp_loop_rounds 2 ?_
    rw [rounds_succ]
    go_wp2_with (first | go_skip | (go_at_call 73; refine (HN.out _).mono ?_; rintro e w' ⟨rfl, x1, rfl⟩))
    refine wp_loop_rounds 1 ?_
    rw [rounds_succ]
    go_wp2_with (first | go_skip | (go_at_call 74; refine (HC.out _ (by repeat (first | (with_reducible exact Gx.refl _) | (with_reducible assumption) | (with_reducible refine Gx.gx ?_) | (with_reducible refine Gx.alloc ?_) | (with_reducible refine Gx.drew ?_) | (with_reducible refine Gx.drewN ?_) | (with_reducible refine Gx.setRow ?_ (by first | omega | (simp; done) | (simp <;> omega))) | (with_reducible refine Gx.setCell ?_ (by first | omega | (simp; done) | (simp <;> omega)))))).mono ?_; rintro e w' ⟨rfl, x3, rfl⟩) | (go_at_call 75; refine (HO.out _).mono ?_; rintro e w' ⟨rfl, rfl⟩))
    rw [rounds_succ]
    go_wp2
    go_ret
    exact ⟨rfl, (by repeat (first | (with_reducible exact Gx.refl _) | (with_reducible assumption) | (with_reducible refine Gx.gx ?_) | (with_reducible refine Gx.alloc ?_) | (with_reducible refine Gx.drew ?_) | (with_reducible refine Gx.drewN ?_) | (with_reducible refine Gx.setRow ?_ (by first | omega | (simp; done) | (simp <;> omega))) | (with_reducible refine Gx.setCell ?_ (by first | omega | (simp; done) | (simp <;> omega)))))⟩
end Go.Proofs.YtbhcjaejkplfeaaGreatDoor
