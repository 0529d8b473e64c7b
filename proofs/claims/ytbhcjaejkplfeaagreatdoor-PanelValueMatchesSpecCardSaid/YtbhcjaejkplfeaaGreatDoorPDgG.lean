/-
  The guard of stage 8: the digits that it shows.
-/
import Derived.Test.YtbhcjaejkplfeaaGreatDoorPSmall
import Derived.LoopN
import Derived.BigRegion
namespace Go.Proofs.YtbhcjaejkplfeaaGreatDoor
open Go.RowKit
-- AT2
-- AT3

theorem Itoa_1 (w : World) : Calls Tryz.prog 77 #[.int .i64 1] w fun e w' => e = .returned (.string ⟨#[49]⟩) ∧ w = w' :=
  (Itoa_small 1 (by omega) w).mono (by rintro e w' ⟨rfl, rfl⟩; exact ⟨by simp [Lib.decDigits], rfl⟩)
theorem Itoa_15 (w : World) : Calls Tryz.prog 77 #[.int .i64 15] w fun e w' => e = .returned (.string ⟨#[49, 53]⟩) ∧ w = w' :=
  (Itoa_small 15 (by omega) w).mono (by rintro e w' ⟨rfl, rfl⟩; exact ⟨by simp [Lib.decDigits], rfl⟩)
set_option maxHeartbeats 1000000 in
theorem digits_G (w : World) : Calls Tryz.prog 52 #[.int .i64 (-3), .int .i64 2, .int .i64 1] w fun e w' => e = .returned (.string ⟨#[45, 49, 46, 53]⟩) ∧ ∃ x, w' = gx w x := by
  have hm : max (-3 : Int) 3 = 3 := by decide
  go_enter Tryz.func52, Tryz.ntmps52
  go_wp2
  refine wp_loop_rounds 2 ?_
  rw [rounds_succ]
  go_wp2
  rw [rounds_succ]
  go_wp2
  go_region
  all_goals go_wp2_with (first | (go_at_call 77; with_reducible refine (Itoa_1 _).mono ?_; rintro e w' ⟨rfl, rfl⟩) | (go_at_call 77; with_reducible refine (Itoa_15 _).mono ?_; rintro e w' ⟨rfl, rfl⟩))
  all_goals refine bodyPost_ret (v := .string ⟨#[45, 49, 46, 53]⟩) (by simp only [results, Tryz.results52, go_sem]; kernel_rfl) rfl ⟨rfl, (by repeat (first | (with_reducible exact Gx.refl _) | (with_reducible assumption) | (with_reducible refine Gx.gx ?_) | (with_reducible refine Gx.alloc ?_) | (with_reducible refine Gx.drew ?_) | (with_reducible refine Gx.drewN ?_) | (with_reducible refine Gx.setRow ?_ (by first | omega | (simp; done) | (simp <;> omega))) | (with_reducible refine Gx.setCell ?_ (by first | omega | (simp; done) | (simp <;> omega)))))⟩
end Go.Proofs.YtbhcjaejkplfeaaGreatDoor
