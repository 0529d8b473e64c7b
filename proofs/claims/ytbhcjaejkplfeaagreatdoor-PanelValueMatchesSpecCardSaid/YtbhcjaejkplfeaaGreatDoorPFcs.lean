/-
  The guard of stage 8: the faces.
-/
import Derived.Test.YtbhcjaejkplfeaaGreatDoorPGo
namespace Go.Proofs.YtbhcjaejkplfeaaGreatDoor
open Go.RowKit
-- AT2
-- AT3

theorem el_face : Elem 75 78 4 40 := elem_of Tryz.underlying75 (by decide) (z := .agg #[.string ⟨#[]⟩, .int .i64 0, .bool false, .int .i64 0]) (by kernel_rfl) rfl
/-- The cells of the face that the guard shows. -/
def fcC : List Value := [.string ⟨#[45, 49, 46, 53]⟩, .int .i64 0, .bool false, .int .i64 4]
set_option maxHeartbeats 4000000 in
set_option maxRecDepth 100000 in
theorem faces_G (gB cb gM : Nat) (A : Option Addr) (c : Nat) (w : World) (hB : GaAt w gB A c) (hM : MmAt w gM) :
    Calls Tryz.prog 68 #[.slice (some ⟨gB, 0, none⟩) 1 cb, stV 1 gM] w fun e w' => ∃ gF cF, e = .returned (.slice (some ⟨gF, 0, none⟩) 1 cF) ∧ (∀ j u, fcC[j]? = some u → w'.cell? ⟨gF, j, none⟩ = some u) ∧ ∃ x, w' = gx w x := by
  have HF := Lib.hid (fun W (hW : ∃ x, W = gx w x) => face_G gB c A W (hB.on hW))
  have hm : gM < w.heap.size := World.block_lt_of_cell? w _ hM.c0
  have hb : gB < w.heap.size := World.block_lt_of_cell? w _ hB.k
  obtain ⟨c0, c1, c2, c3⟩ := hM
  clear hB
  go_enter Tryz.func68, Tryz.ntmps68
  go_wp2
  refine wp_loop_rounds 2 ?_
  rw [rounds_succ]
  go_wp2
  go_region_held3 (fun W => (∃ x, W = gx w x) ∧ W.cell? ⟨w.heap.size, 0, none⟩ = some (.int .i64 1) ∧ W.cell? ⟨w.heap.size + 1, 0, none⟩ = some (.bool false) ∧ W.cell? ⟨w.heap.size + 1, 1, none⟩ = some (.bool false) ∧ W.cell? ⟨w.heap.size + 1, 2, none⟩ = some (.int .i64 0) ∧ W.cell? ⟨w.heap.size + 1, 3, none⟩ = some (.int .i64 0))
    (refine ⟨(by repeat (first | (with_reducible exact Gx.refl _) | (with_reducible assumption) | (with_reducible refine Gx.gx ?_) | (with_reducible refine Gx.alloc ?_) | (with_reducible refine Gx.drew ?_) | (with_reducible refine Gx.drewN ?_) | (with_reducible refine Gx.setRow ?_ (by first | omega | (simp; done) | (simp <;> omega))) | (with_reducible refine Gx.setCell ?_ (by first | omega | (simp; done) | (simp <;> omega))))), ?_, ?_, ?_, ?_, ?_⟩ <;> first | assumption | exact cell_keep_gx ‹_› | go_keep | (simp [go_sem]; done))
    (first
    | (go_at_call 95; refine (HF.out _ (by repeat (first | (with_reducible exact Gx.refl _) | (with_reducible assumption) | (with_reducible refine Gx.gx ?_) | (with_reducible refine Gx.alloc ?_) | (with_reducible refine Gx.drew ?_) | (with_reducible refine Gx.drewN ?_) | (with_reducible refine Gx.setRow ?_ (by first | omega | (simp; done) | (simp <;> omega))) | (with_reducible refine Gx.setCell ?_ (by first | omega | (simp; done) | (simp <;> omega)))))).mono ?_; rintro e w' ⟨rfl, x1, rfl⟩))
  all_goals go_wp2
  all_goals rw [rounds_succ]
  all_goals go_wp2
  all_goals go_ret
  all_goals refine ⟨_, _, rfl, fun j u hu => ?_, (by repeat (first | (with_reducible exact Gx.refl _) | (with_reducible assumption) | (with_reducible refine Gx.gx ?_) | (with_reducible refine Gx.alloc ?_) | (with_reducible refine Gx.drew ?_) | (with_reducible refine Gx.drewN ?_) | (with_reducible refine Gx.setRow ?_ (by first | omega | (simp; done) | (simp <;> omega))) | (with_reducible refine Gx.setCell ?_ (by first | omega | (simp; done) | (simp <;> omega)))))⟩
  all_goals
    have hj := (List.getElem?_eq_some_iff.1 hu).1
    simp only [fcC, List.length_cons, List.length_nil] at hj
    rcases (by omega : j = 0 ∨ j = 1 ∨ j = 2 ∨ j = 3) with rfl | rfl | rfl | rfl
    all_goals
      simp [fcC] at hu
      subst hu
      rw [show ∀ (W : World) a, W.drew.cell? a = W.cell? a from fun _ _ => rfl, cell_of_row _ _ _ _ _ _ (At.new' (by simp)), Array.getElem?_append_left (by simp)]
      rfl
end Go.Proofs.YtbhcjaejkplfeaaGreatDoor
