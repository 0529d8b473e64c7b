/-
  The guard of stage 8: the board that it makes.
-/
import Derived.Test.YtbhcjaejkplfeaaGreatDoorPChk
import Derived.Test.YtbhcjaejkplfeaaGreatDoorPClone
import Derived.Deep.RegionWith
namespace Go.Proofs.YtbhcjaejkplfeaaGreatDoor
open Go.RowKit
-- AT2
-- AT3

/-- The cells of the guard's gauge. -/
def gaC (A : Option Addr) (n c : Nat) : Array Value := #[.int .i64 1, .string ⟨#[97]⟩, .string ⟨#[116]⟩, .int .i64 1, .int .i64 0, .int .i64 0, .int .i64 0, .slice none 0 0, .int .i64 0, .int .i64 0, .bool false, .int .i64 0, .string ⟨#[116]⟩, .int .i64 2, .slice A n c, .int .i64 100, .slice none 0 0]
theorem make_bd (w : World) : (Instr.makeSlice 100 (.int .i64 1) (.int .i64 1)).run Tryz.prog w = .ok (.slice (some ⟨w.heap.size, 0, none⟩) 1 1) (w.alloc (.cells #[.int .i64 0, .string ⟨#[]⟩, .string ⟨#[]⟩, .int .i64 0, .int .i64 0, .int .i64 0, .int .i64 0, .slice none 0 0, .int .i64 0, .int .i64 0, .bool false, .int .i64 0, .string ⟨#[]⟩, .int .i64 0, .slice none 0 0, .int .i64 0, .slice none 0 0] 132)) := by kernel_rfl
set_option maxHeartbeats 2000000 in
set_option maxRecDepth 100000 in
theorem boardOf_G (b c bt ct : Nat) (A : Option Addr) (n cs : Nat) (w : World) (h : InAt w b) (hT : TrAt w bt 0 2 A n cs 100) :
    Calls Tryz.prog 91 #[.agg #[.slice (some ⟨b, 0, none⟩) 1 c], .slice (some ⟨bt, 0, none⟩) 1 ct] w fun e w' => ∃ gB, e = .returned (.slice (some ⟨gB, 0, none⟩) 1 1) ∧ w.heap.size ≤ gB ∧ At w' gB (.cells (gaC A n cs) 132 (0, 0)) ∧ ∃ x, w' = gx w x := by
  have K3 := Lib.hid (fun W (hW : ∃ x, W = gx w x) => TrackNumber_one bt ct 2 A n cs 100 W (hT.on hW))
  have hb : b < w.heap.size := World.block_lt_of_cell? w _ h.c0
  have ht : bt < w.heap.size := World.block_lt_of_cell? w _ hT.c0
  have hmk := make_bd
  obtain ⟨c0, c1, c2, c3, c4, c5, c6, c7, c8, c9, c10, c11⟩ := h
  obtain ⟨t0, t1, t2, t3⟩ := hT
  go_enter Tryz.func91, Tryz.ntmps91
  go_wp2
  refine wp_loop_rounds 2 ?_
  rw [rounds_succ]
  go_wp2
  go_region_with (first | (go_at_call 70; refine (K3.out _ (by repeat (first | (with_reducible exact Gx.refl _) | (with_reducible assumption) | (with_reducible refine Gx.gx ?_) | (with_reducible refine Gx.alloc ?_) | (with_reducible refine Gx.drew ?_) | (with_reducible refine Gx.drewN ?_) | (with_reducible refine Gx.setRow ?_ (by first | omega | (simp; done) | (simp <;> omega))) | (with_reducible refine Gx.setCell ?_ (by first | omega | (simp; done) | (simp <;> omega)))))).mono ?_; rintro e w' ⟨rfl, x1, rfl⟩))
  all_goals go_wp2
  all_goals rw [rounds_succ]
  all_goals go_wp2
  all_goals (refine bodyPost_ret (v := .slice (some ⟨w.heap.size + 1, 0, none⟩) 1 1) ?_ rfl ?_; (focus (simp [results, Tryz.results91, go_sem]; done)); refine ⟨_, rfl, by omega, ?_, (by repeat (first | (with_reducible exact Gx.refl _) | (with_reducible assumption) | (with_reducible refine Gx.gx ?_) | (with_reducible refine Gx.alloc ?_) | (with_reducible refine Gx.drew ?_) | (with_reducible refine Gx.drewN ?_) | (with_reducible refine Gx.setRow ?_ (by first | omega | (simp; done) | (simp <;> omega))) | (with_reducible refine Gx.setCell ?_ (by first | omega | (simp; done) | (simp <;> omega)))))⟩; unfold gaC; (focus (repeat (first | (with_reducible assumption) | (with_reducible exact At.new _ _) | (with_reducible refine At.row ?_) | ((with_reducible refine At.row_other ?_ ?_); rotate_left; (focus (simp <;> omega))) | (with_reducible refine At.app ?_) | (with_reducible refine At.tick ?_) | (with_reducible refine At.gx ?_) | ((with_reducible refine At.new' ?_); focus (simp; done)) | (with_reducible refine At.alloc ?_) | (with_reducible refine At.drew ?_) | (with_reducible exact Is.new _ _ _) | (with_reducible refine Is.row ?_) | ((with_reducible refine Is.row_other ?_ ?_); rotate_left; (focus (simp <;> omega))) | (with_reducible refine Is.gx ?_) | ((with_reducible refine Is.new' ?_); focus (simp; done)) | (with_reducible refine Is.alloc ?_) | (with_reducible refine Is.drew ?_)))))
end Go.Proofs.YtbhcjaejkplfeaaGreatDoor
