/-
  The guard of stage 8: its board: the first state, the next one, the faces.
-/
import Derived.Test.YtbhcjaejkplfeaaGreatDoorPGau
import Derived.Deep.RegionWith
namespace Go.Proofs.YtbhcjaejkplfeaaGreatDoor
open Go.RowKit
-- AT2
-- AT3

/-- A memo that remembers nothing lies in a block. -/
structure MmAt (w : World) (g : Nat) : Prop where
  c0 : w.cell? ⟨g, 0, none⟩ = some (.bool false)
  c1 : w.cell? ⟨g, 1, none⟩ = some (.bool false)
  c2 : w.cell? ⟨g, 2, none⟩ = some (.int .i64 0)
  c3 : w.cell? ⟨g, 3, none⟩ = some (.int .i64 0)
theorem MmAt.on {w W : World} {g : Nat} (h : MmAt w g) (hW : ∃ x, W = Go.Proofs.YtbhcjaejkplfeaaGreatDoor.gx w x) : MmAt W g := by
  obtain ⟨x, rfl⟩ := hW
  exact ⟨cell_keep_gx h.c0, cell_keep_gx h.c1, cell_keep_gx h.c2, cell_keep_gx h.c3⟩
abbrev stV (fr : Int) (gM : Nat) : Value := .agg #[.int .i64 fr, .slice (some ⟨gM, 0, none⟩) 1 1]
theorem mmAt_new {w : World} {g : Nat} {t : TypeId} (h : At w g (.cells #[.bool false, .bool false, .int .i64 0, .int .i64 0] t (0, 0))) : MmAt w g :=
  ⟨by rw [cell_of_row w _ _ _ _ _ h]; rfl, by rw [cell_of_row w _ _ _ _ _ h]; rfl, by rw [cell_of_row w _ _ _ _ _ h]; rfl, by rw [cell_of_row w _ _ _ _ _ h]; rfl⟩
theorem make_mm (w : World) : (Instr.makeSlice 102 (.int .i64 1) (.int .i64 1)).run Tryz.prog w = .ok (.slice (some ⟨w.heap.size, 0, none⟩) 1 1) (w.alloc (.cells #[.bool false, .bool false, .int .i64 0, .int .i64 0] 135)) := by kernel_rfl
set_option maxHeartbeats 1000000 in
set_option maxRecDepth 100000 in
theorem first_G (gB c : Nat) (w : World) :
    Calls Tryz.prog 66 #[.slice (some ⟨gB, 0, none⟩) 1 c] w fun e w' => ∃ gM, e = .returned (stV (-1) gM) ∧ w.heap.size ≤ gM ∧ MmAt w' gM ∧ ∃ x, w' = gx w x := by
  have hmk := make_mm
  go_enter Tryz.func66, Tryz.ntmps66
  go_wp2
  refine bodyPost_ret (v := stV (-1) (w.heap.size + 1)) (by simp [results, Tryz.results66, go_sem]) rfl ⟨_, rfl, by omega, ?_, (by repeat (first | (with_reducible exact Gx.refl _) | (with_reducible assumption) | (with_reducible refine Gx.gx ?_) | (with_reducible refine Gx.alloc ?_) | (with_reducible refine Gx.drew ?_) | (with_reducible refine Gx.drewN ?_) | (with_reducible refine Gx.setRow ?_ (by first | omega | (simp; done) | (simp <;> omega))) | (with_reducible refine Gx.setCell ?_ (by first | omega | (simp; done) | (simp <;> omega)))))⟩
  exact mmAt_new (t := 135) (by (focus (repeat (first | (with_reducible assumption) | (with_reducible exact At.new _ _) | (with_reducible refine At.row ?_) | ((with_reducible refine At.row_other ?_ ?_); rotate_left; (focus (simp <;> omega))) | (with_reducible refine At.app ?_) | (with_reducible refine At.tick ?_) | (with_reducible refine At.gx ?_) | ((with_reducible refine At.new' ?_); focus (simp; done)) | (with_reducible refine At.alloc ?_) | (with_reducible refine At.drew ?_) | (with_reducible exact Is.new _ _ _) | (with_reducible refine Is.row ?_) | ((with_reducible refine Is.row_other ?_ ?_); rotate_left; (focus (simp <;> omega))) | (with_reducible refine Is.gx ?_) | ((with_reducible refine Is.new' ?_); focus (simp; done)) | (with_reducible refine Is.alloc ?_) | (with_reducible refine Is.drew ?_)))))
set_option maxHeartbeats 2000000 in
set_option maxRecDepth 100000 in
theorem bnext_G (gB c cb gM : Nat) (A : Option Addr) (fr fr' : Int) (hf : (fr = -1 ∧ fr' = 0) ∨ (fr = 0 ∧ fr' = 1)) (w : World) (h : GaAt w gB A c) (hM : MmAt w gM) :
    Calls Tryz.prog 116 #[.slice (some ⟨gB, 0, none⟩) 1 cb, stV fr gM] w fun e w' => ∃ gM', e = .returned (stV fr' gM') ∧ w.heap.size ≤ gM' ∧ MmAt w' gM' ∧ ∃ x, w' = gx w x := by
  have HN := Lib.hid (fun W (hW : ∃ x, W = gx w x) => next_G gB c A fr' (by omega) W (h.on hW))
  have hb : gB < w.heap.size := World.block_lt_of_cell? w _ h.k
  have hm : gM < w.heap.size := World.block_lt_of_cell? w _ hM.c0
  have ew : IntKind.i64.wrap (fr + 1) = fr' := by rw [IntWalk.i64_in _ (by omega)]; omega
  obtain ⟨c0, c1, c2, c3⟩ := hM
  clear hf h
  have hmk := make_mm
  go_enter Tryz.func116, Tryz.ntmps116
  go_wp2
  go_region
  all_goals go_wp2
  all_goals refine wp_loop_rounds 2 ?_
  all_goals rw [rounds_succ]
  all_goals go_wp2
  all_goals go_region_with (first | (go_at_call 133; refine (HN.out _ (by repeat (first | (with_reducible exact Gx.refl _) | (with_reducible assumption) | (with_reducible refine Gx.gx ?_) | (with_reducible refine Gx.alloc ?_) | (with_reducible refine Gx.drew ?_) | (with_reducible refine Gx.drewN ?_) | (with_reducible refine Gx.setRow ?_ (by first | omega | (simp; done) | (simp <;> omega))) | (with_reducible refine Gx.setCell ?_ (by first | omega | (simp; done) | (simp <;> omega)))))).mono ?_; rintro e w' ⟨rfl, x1, rfl⟩))
  all_goals go_wp2
  all_goals rw [rounds_succ]
  all_goals go_wp2
  all_goals first
    | (refine bodyPost_ret (v := stV fr' (w.heap.size + 1 + 1)) ?_ rfl ?_; (focus (simp [results, Tryz.results116, go_sem]; done)); (refine ⟨_, rfl, by omega, ?_, ?_⟩); (focus exact mmAt_new (t := 135) (by (focus (repeat (first | (with_reducible assumption) | (with_reducible exact At.new _ _) | (with_reducible refine At.row ?_) | ((with_reducible refine At.row_other ?_ ?_); rotate_left; (focus (simp <;> omega))) | (with_reducible refine At.app ?_) | (with_reducible refine At.tick ?_) | (with_reducible refine At.gx ?_) | ((with_reducible refine At.new' ?_); focus (simp; done)) | (with_reducible refine At.alloc ?_) | (with_reducible refine At.drew ?_) | (with_reducible exact Is.new _ _ _) | (with_reducible refine Is.row ?_) | ((with_reducible refine Is.row_other ?_ ?_); rotate_left; (focus (simp <;> omega))) | (with_reducible refine Is.gx ?_) | ((with_reducible refine Is.new' ?_); focus (simp; done)) | (with_reducible refine Is.alloc ?_) | (with_reducible refine Is.drew ?_)))))); (focus exact (by repeat (first | (with_reducible exact Gx.refl _) | (with_reducible assumption) | (with_reducible refine Gx.gx ?_) | (with_reducible refine Gx.alloc ?_) | (with_reducible refine Gx.drew ?_) | (with_reducible refine Gx.drewN ?_) | (with_reducible refine Gx.setRow ?_ (by first | omega | (simp; done) | (simp <;> omega))) | (with_reducible refine Gx.setCell ?_ (by first | omega | (simp; done) | (simp <;> omega)))))))
    | (refine bodyPost_ret (v := stV fr' (w.heap.size + 1 + 1 + 1)) ?_ rfl ?_; (focus (simp [results, Tryz.results116, go_sem]; done)); (refine ⟨_, rfl, by omega, ?_, ?_⟩); (focus exact mmAt_new (t := 135) (by (focus (repeat (first | (with_reducible assumption) | (with_reducible exact At.new _ _) | (with_reducible refine At.row ?_) | ((with_reducible refine At.row_other ?_ ?_); rotate_left; (focus (simp <;> omega))) | (with_reducible refine At.app ?_) | (with_reducible refine At.tick ?_) | (with_reducible refine At.gx ?_) | ((with_reducible refine At.new' ?_); focus (simp; done)) | (with_reducible refine At.alloc ?_) | (with_reducible refine At.drew ?_) | (with_reducible exact Is.new _ _ _) | (with_reducible refine Is.row ?_) | ((with_reducible refine Is.row_other ?_ ?_); rotate_left; (focus (simp <;> omega))) | (with_reducible refine Is.gx ?_) | ((with_reducible refine Is.new' ?_); focus (simp; done)) | (with_reducible refine Is.alloc ?_) | (with_reducible refine Is.drew ?_)))))); (focus exact (by repeat (first | (with_reducible exact Gx.refl _) | (with_reducible assumption) | (with_reducible refine Gx.gx ?_) | (with_reducible refine Gx.alloc ?_) | (with_reducible refine Gx.drew ?_) | (with_reducible refine Gx.drewN ?_) | (with_reducible refine Gx.setRow ?_ (by first | omega | (simp; done) | (simp <;> omega))) | (with_reducible refine Gx.setCell ?_ (by first | omega | (simp; done) | (simp <;> omega)))))))
end Go.Proofs.YtbhcjaejkplfeaaGreatDoor
