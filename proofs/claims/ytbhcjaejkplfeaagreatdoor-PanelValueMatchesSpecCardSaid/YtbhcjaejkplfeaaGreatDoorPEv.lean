/-
  The guard of stage 8: names of tracks at the one that the guard has.
-/
import Derived.Test.YtbhcjaejkplfeaaGreatDoorKit
import Derived.LoopN
namespace Go.Proofs.YtbhcjaejkplfeaaGreatDoor
open Go.RowKit
-- AT2
-- AT3

theorem isLetter_t (w : World) : Calls Tryz.prog 96 #[.int .u8 116] w fun e w' => e = .returned (.bool true) ∧ w = w' := by
  go_enter Tryz.func96, Tryz.ntmps96
  go_wp2
  go_ret
  exact ⟨rfl, rfl⟩
theorem runOf_t (w : World) : Calls Tryz.prog 97 #[.string ⟨#[116]⟩] w fun e w' => e = .returned (.string ⟨#[116]⟩) ∧ w = w' := by
  go_enter Tryz.func97, Tryz.ntmps97
  go_wp2_with (first | go_skip | (go_at_call 96; refine (isLetter_t _).mono ?_; rintro e w' ⟨rfl, rfl⟩))
  refine wp_loop_rounds 2 ?_
  rw [rounds_succ]
  go_wp2_with (first | go_skip | (go_at_call 96; refine (isLetter_t _).mono ?_; rintro e w' ⟨rfl, rfl⟩))
  rw [rounds_succ]
  go_wp2_with (first | go_skip | (go_at_call 96; refine (isLetter_t _).mono ?_; rintro e w' ⟨rfl, rfl⟩))
  go_ret
  exact ⟨rfl, rfl⟩
theorem isWord_t (w : World) : Calls Tryz.prog 98 #[.string ⟨#[116]⟩] w fun e w' => e = .returned (.bool false) ∧ w = w' := by
  go_enter Tryz.func98, Tryz.ntmps98
  go_wp2
  go_ret
  exact ⟨rfl, rfl⟩
theorem IsName_t (w : World) : Calls Tryz.prog 69 #[.string ⟨#[116]⟩] w fun e w' => e = .returned (.bool true) ∧ w = w' := by
  go_enter Tryz.func69, Tryz.ntmps69
  go_wp2_with (first | go_skip | (go_at_call 96; refine (isLetter_t _).mono ?_; rintro e w' ⟨rfl, rfl⟩) | (go_at_call 97; refine (runOf_t _).mono ?_; rintro e w' ⟨rfl, rfl⟩) | (go_at_call 98; refine (isWord_t _).mono ?_; rintro e w' ⟨rfl, rfl⟩))
  go_ret
  exact ⟨rfl, rfl⟩
end Go.Proofs.YtbhcjaejkplfeaaGreatDoor
