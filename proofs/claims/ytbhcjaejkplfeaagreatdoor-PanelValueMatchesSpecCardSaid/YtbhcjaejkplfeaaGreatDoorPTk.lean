/-
  The guard of stage 8: one track is good.
-/
import Derived.Test.YtbhcjaejkplfeaaGreatDoorPTr
namespace Go.Proofs.YtbhcjaejkplfeaaGreatDoor
open Go.RowKit
-- AT2
-- AT3

set_option maxHeartbeats 1000000 in
theorem CheckTracks_one (b cc : Nat) (den : Int) (A : Option Addr) (n c : Nat) (lg : Int) (f : Nat → Sm) (w : World) (h : TrAt w b 0 den A n c lg) (hL : SmAt w f n A) (h0 : serE den f n = 0) (hl : 0 ≤ lg ∧ lg ≤ 1099511627776) :
    Calls Tryz.prog 41 #[.slice (some ⟨b, 0, none⟩) 1 cc] w fun e w' => e = .returned (.int .i64 0) ∧ ∃ x, w' = gx w x := by
  have HC := Lib.hid (fun W (hW : ∃ x, W = gx w x) => (Check_any den f n c A W (by obtain ⟨x, rfl⟩ := hW; exact hL.gx)))
  rw [h0] at HC
  have k1 : decide (lg < 0) = false := decide_eq_false (by omega)
  have k2 : decide (1099511627776 < lg) = false := decide_eq_false (by omega)
  have hb : b < w.heap.size := World.block_lt_of_cell? w _ h.c0
  obtain ⟨h0', h1, h2, h3⟩ := h
  go_enter Tryz.func41, Tryz.ntmps41
  go_wp2
  refine wp_loop_rounds 2 ?_
  rw [rounds_succ]
  go_wp2_with (first
    | (go_at_call 69; refine (IsName_t _).mono ?_; rintro e w' ⟨rfl, rfl⟩))
  go_region_held3 (fun W => (∃ x, W = gx w x) ∧ W.cell? ⟨w.heap.size, 0, none⟩ = some (.string ⟨#[116]⟩) ∧ W.cell? ⟨w.heap.size, 1, none⟩ = some (.int .i64 den) ∧ W.cell? ⟨w.heap.size, 2, none⟩ = some (.slice A n c) ∧ W.cell? ⟨w.heap.size, 3, none⟩ = some (.int .i64 lg))
    (refine ⟨(by repeat (first | (with_reducible exact Gx.refl _) | (with_reducible assumption) | (with_reducible refine Gx.gx ?_) | (with_reducible refine Gx.alloc ?_) | (with_reducible refine Gx.drew ?_) | (with_reducible refine Gx.drewN ?_) | (with_reducible refine Gx.setRow ?_ (by first | omega | (simp; done) | (simp <;> omega))) | (with_reducible refine Gx.setCell ?_ (by first | omega | (simp; done) | (simp <;> omega))))), ?_, ?_, ?_, ?_⟩ <;> first | assumption | exact cell_keep_gx ‹_› | go_keep | (simp [go_sem]; done))
    (first | (go_at_call 70; refine (TrackNumber_none _ _ _ _).mono ?_; rintro e w' ⟨rfl, x2, rfl⟩))
  all_goals go_wp2_with (first | (go_at_call 71; refine (HC.out _ (by repeat (first | (with_reducible exact Gx.refl _) | (with_reducible assumption) | (with_reducible refine Gx.gx ?_) | (with_reducible refine Gx.alloc ?_) | (with_reducible refine Gx.drew ?_) | (with_reducible refine Gx.drewN ?_) | (with_reducible refine Gx.setRow ?_ (by first | omega | (simp; done) | (simp <;> omega))) | (with_reducible refine Gx.setCell ?_ (by first | omega | (simp; done) | (simp <;> omega)))))).mono ?_; rintro e w' ⟨rfl, x3, rfl⟩))
  all_goals rw [rounds_succ]
  all_goals go_wp2
  all_goals go_ret
  all_goals exact ⟨rfl, (by repeat (first | (with_reducible exact Gx.refl _) | (with_reducible assumption) | (with_reducible refine Gx.gx ?_) | (with_reducible refine Gx.alloc ?_) | (with_reducible refine Gx.drew ?_) | (with_reducible refine Gx.drewN ?_) | (with_reducible refine Gx.setRow ?_ (by first | omega | (simp; done) | (simp <;> omega))) | (with_reducible refine Gx.setCell ?_ (by first | omega | (simp; done) | (simp <;> omega)))))⟩
end Go.Proofs.YtbhcjaejkplfeaaGreatDoor
