/-
  The guard of stage 8: the kept state from which its replay goes on.
-/
import Derived.Test.YtbhcjaejkplfeaaGreatDoorPNew
import Derived.Deep.RegionWith
namespace Go.Proofs.YtbhcjaejkplfeaaGreatDoor
open Go.RowKit
-- AT2
-- AT3

set_option maxHeartbeats 2000000 in
set_option maxRecDepth 100000 in
theorem near1_G (gR gB gM gK kc gp gq : Nat) (w : World) (hR : At w gR (.cells (rpC gB gM gK 1 kc (-1)) 109 (0, 0))) (hK : w.cell? ⟨gK, 0, none⟩ = some (.int .i64 (-1))) (hp : w.cell? ⟨gp, 0, none⟩ = some (.pointer (some ⟨gR, 0, none⟩))) (hq : w.cell? ⟨gq, 0, none⟩ = some (.int .i64 1)) :
    Calls Tryz.prog 115 #[.int .i64 0, .pointer (some ⟨gp, 0, none⟩), .pointer (some ⟨gq, 0, none⟩)] w fun e w' => e = .returned (.bool false) ∧ ∃ q os, w' = Go.Sort.grow (w.drewN q) os := by
  have r4 : w.cell? ⟨gR, 4, none⟩ = some (.slice (some ⟨gK, 0, none⟩) 1 kc) := by rw [cell_of_row w _ _ _ _ _ hR]; rfl
  have lR := hR.lt
  have lK : gK < w.heap.size := World.block_lt_of_cell? w _ hK
  have lp : gp < w.heap.size := World.block_lt_of_cell? w _ hp
  have lq : gq < w.heap.size := World.block_lt_of_cell? w _ hq
  clear hR
  go_enter Tryz.func115, Tryz.ntmps115
  go_wp2
  go_quiet (fail)
  go_wp2
  go_ret
  exact ⟨rfl, nq, #[], by rw [Go.Sort.grow_empty]⟩
set_option maxHeartbeats 2000000 in
set_option maxRecDepth 100000 in
theorem nearest_G (gR gB gM gK gM0 kc : Nat) (w : World) (hR : At w gR (.cells (rpC gB gM gK 1 kc (-1)) 109 (0, 0))) (hK : w.cell? ⟨gK, 0, none⟩ = some (.int .i64 (-1))) (hK1 : w.cell? ⟨gK, 1, none⟩ = some (.slice (some ⟨gM0, 0, none⟩) 1 1)) :
    Calls Tryz.prog 93 #[.pointer (some ⟨gR, 0, none⟩), .int .i64 1] w fun e w' => e = .returned (stV (-1) gM0) ∧ ∃ x, w' = gx w x := by
  obtain ⟨W0, hW0⟩ : ∃ W0, W0 = ((w.alloc (.cells #[.pointer (some ⟨gR, 0, none⟩)] 71)).alloc (.cells #[.int .i64 1] 3)).alloc (.cells #[.int .i64 0, .slice none 0 0] 104) := ⟨_, rfl⟩
  have eg : ∀ args w, (callFunc 115 args).run Tryz.prog w = .ok (.enter 115 args) w := enters_of Tryz.func115 (by kernel_rfl) rfl
  have h1 : W0.cell? ⟨w.heap.size, 0, none⟩ = some (.pointer (some ⟨gR, 0, none⟩)) := by rw [hW0, cell_of_row _ _ _ _ _ _ (At.alloc (At.alloc (At.new w _)))]; rfl
  have h2 : W0.cell? ⟨w.heap.size + 1, 0, none⟩ = some (.int .i64 1) := by rw [hW0, cell_of_row _ _ _ _ _ _ (At.alloc (At.new' (by simp)))]; rfl
  have h3 : At W0 gR (.cells (rpC gB gM gK 1 kc (-1)) 109 (0, 0)) := by rw [hW0]; exact At.alloc (At.alloc (At.alloc hR))
  have h4 : W0.cell? ⟨gK, 0, none⟩ = some (.int .i64 (-1)) := by rw [hW0]; exact cell_keep_alloc (cell_keep_alloc (cell_keep_alloc hK))
  have hS := Search_any 115 #[.pointer (some ⟨w.heap.size, 0, none⟩), .pointer (some ⟨w.heap.size + 1, 0, none⟩)] 1 (fun _ => false) W0 eg (by omega)
    (fun W hW i hi => by
      obtain ⟨x, rfl⟩ := hW
      obtain rfl : i = 0 := by omega
      exact near1_G gR gB gM gK kc w.heap.size (w.heap.size + 1) _ h3.gx (cell_keep_gx h4) (cell_keep_gx h1) (cell_keep_gx h2))
    (fun a b hab hb h => by cases h)
  have hcount : ((List.range 1).countP (fun i => !(fun _ : Nat => false) i)) = 1 := by rfl
  rw [hcount] at hS
  have r2 : w.cell? ⟨gR, 2, none⟩ = some (.int .i64 (-1)) := by rw [cell_of_row w _ _ _ _ _ hR]; rfl
  have r4 : w.cell? ⟨gR, 4, none⟩ = some (.slice (some ⟨gK, 0, none⟩) 1 kc) := by rw [cell_of_row w _ _ _ _ _ hR]; rfl
  have lR := hR.lt
  have lK : gK < w.heap.size := World.block_lt_of_cell? w _ hK
  clear h1 h2 h3 h4 eg hR hcount
  go_enter Tryz.func93, Tryz.ntmps93
  go_wp2_with (go_at_call 114; rw [← hW0]; refine hS.mono ?_; rintro e w' ⟨rfl, x, rfl⟩; rw [hW0]; clear hS hW0)
  go_quiet (fail)
  all_goals go_wp2
  exact bodyPost_ret (v := stV (-1) gM0) (by simp [results, Tryz.results93, go_sem]) rfl ⟨rfl, (by repeat (first | (with_reducible exact Gx.refl _) | (with_reducible assumption) | (with_reducible refine Gx.gx ?_) | (with_reducible refine Gx.alloc ?_) | (with_reducible refine Gx.drew ?_) | (with_reducible refine Gx.drewN ?_) | (with_reducible refine Gx.setRow ?_ (by first | omega | (simp; done) | (simp <;> omega))) | (with_reducible refine Gx.setCell ?_ (by first | omega | (simp; done) | (simp <;> omega)))))⟩
end Go.Proofs.YtbhcjaejkplfeaaGreatDoor
