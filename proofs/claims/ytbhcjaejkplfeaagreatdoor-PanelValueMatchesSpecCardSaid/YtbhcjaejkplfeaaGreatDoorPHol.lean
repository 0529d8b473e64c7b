/-
  Comparing two numbers, and the tests of what digits are asked for: both sides.
-/
import Derived.Test.YtbhcjaejkplfeaaGreatDoorPDgB
namespace Go.Proofs.YtbhcjaejkplfeaaGreatDoor
open Go.RowKit
-- AT2
-- AT3

theorem isNaN_any (a : Int) (w : World) : Calls Tryz.prog 109 #[.int .i64 a] w fun e w' => e = .returned (.bool false) ∧ w = w' := by
  go_enter Tryz.func109, Tryz.ntmps109
  go_wp2
  go_ret
  exact ⟨by simp, rfl⟩
theorem Compare_any (a b c : Int) (h : (a < b ∧ c = -1) ∨ (b < a ∧ c = 1) ∨ (a = b ∧ c = 0)) (w : World) : Calls Tryz.prog 79 #[.int .i64 a, .int .i64 b] w fun e w' => e = .returned (.int .i64 c) ∧ w = w' := by
  rcases h with ⟨h, rfl⟩ | ⟨h, rfl⟩ | ⟨rfl, rfl⟩
  · have k1 : decide (a < b) = true := decide_eq_true h
    go_enter Tryz.func79, Tryz.ntmps79
    go_wp2_with (go_at_call 109; refine (isNaN_any _ _).mono ?_; rintro e w' ⟨rfl, rfl⟩)
    go_ret
    exact ⟨rfl, rfl⟩
  · have k1 : decide (a < b) = false := decide_eq_false (by omega)
    have k2 : decide (b < a) = true := decide_eq_true h
    clear h
    go_enter Tryz.func79, Tryz.ntmps79
    go_wp2_with (go_at_call 109; refine (isNaN_any _ _).mono ?_; rintro e w' ⟨rfl, rfl⟩)
    go_ret
    exact ⟨rfl, rfl⟩
  · have k1 : decide (a < a) = false := decide_eq_false (by omega)
    go_enter Tryz.func79, Tryz.ntmps79
    go_wp2_with (go_at_call 109; refine (isNaN_any _ _).mono ?_; rintro e w' ⟨rfl, rfl⟩)
    go_ret
    exact ⟨rfl, rfl⟩
/-- Do two numbers compare so? -/
@[irreducible] def opB (op c : Int) : Bool := if op = 1 then decide (c < 0) else if op = 2 then decide (c ≤ 0) else if op = 3 then decide (c = 0) else if op = 4 then decide (c ≠ 0) else if op = 5 then decide (0 ≤ c) else decide (0 < c)
theorem evHolds_any (op c : Int) (ho : 1 ≤ op ∧ op ≤ 6) (hc : c = -1 ∨ c = 0 ∨ c = 1) (w : World) : Calls Tryz.prog 78 #[.int .i64 op, .int .i64 c] w fun e w' => e = .returned (.bool (opB op c)) ∧ w = w' := by
  have ho' : op = 1 ∨ op = 2 ∨ op = 3 ∨ op = 4 ∨ op = 5 ∨ op = 6 := by omega
  rcases ho' with rfl | rfl | rfl | rfl | rfl | rfl
  all_goals rcases hc with rfl | rfl | rfl
  all_goals
    go_enter Tryz.func78, Tryz.ntmps78
    go_wp2
    go_ret
    exact ⟨by unfold opB; rfl, rfl⟩
theorem holds_any' (op a b c : Int) (ho : 1 ≤ op ∧ op ≤ 6) (h : (a < b ∧ c = -1) ∨ (b < a ∧ c = 1) ∨ (a = b ∧ c = 0)) (w : World) : Calls Tryz.prog 55 #[.int .i64 op, .int .i64 a, .int .i64 b] w fun e w' => e = .returned (.bool (opB op c)) ∧ w = w' := by
  have H1 := Lib.hid (fun W => Compare_any a b c h W)
  have H2 := Lib.hid (fun W => evHolds_any op c ho (by omega) W)
  clear ho h
  go_enter Tryz.func55, Tryz.ntmps55
  go_wp2_with (first | (go_at_call 79; refine (H1.out _).mono ?_; rintro e w' ⟨rfl, rfl⟩) | (go_at_call 78; refine (H2.out _).mono ?_; rintro e w' ⟨rfl, rfl⟩))
  go_ret
  exact ⟨rfl, rfl⟩
set_option maxHeartbeats 1000000 in
theorem rholds_any (op a b c : Int) (ho : 1 ≤ op ∧ op ≤ 6) (h : (a < b ∧ c = -1) ∨ (b < a ∧ c = 1) ∨ (a = b ∧ c = 0)) (w : World) : Calls Tryz.prog 56 #[.int .i64 op, .int .i64 a, .int .i64 b] w fun e w' => e = .returned (.bool (opB op c)) ∧ w = w' := by
  have ho' : op = 1 ∨ op = 2 ∨ op = 3 ∨ op = 4 ∨ op = 5 ∨ op = 6 := by omega
  clear ho
  rcases h with ⟨h, rfl⟩ | ⟨h, rfl⟩ | ⟨rfl, rfl⟩
  · have k1 : decide (a < b) = true := decide_eq_true h
    have k2 : decide (b < a) = false := decide_eq_false (by omega)
    have k3 : decide (a ≤ b) = true := decide_eq_true (by omega)
    have k4 : decide (b ≤ a) = false := decide_eq_false (by omega)
    have k5 : (a == b) = false := by rw [beq_eq_false_iff_ne]; omega
    have k6 : (a != b) = true := by rw [bne, k5]; rfl
    clear h
    rcases ho' with rfl | rfl | rfl | rfl | rfl | rfl
    all_goals
      go_enter Tryz.func56, Tryz.ntmps56
      go_wp2
      go_ret
      exact ⟨by unfold opB; first | rfl | (simp [*]; done), rfl⟩
  · have k1 : decide (a < b) = false := decide_eq_false (by omega)
    have k2 : decide (b < a) = true := decide_eq_true h
    have k3 : decide (a ≤ b) = false := decide_eq_false (by omega)
    have k4 : decide (b ≤ a) = true := decide_eq_true (by omega)
    have k5 : (a == b) = false := by rw [beq_eq_false_iff_ne]; omega
    have k6 : (a != b) = true := by rw [bne, k5]; rfl
    clear h
    rcases ho' with rfl | rfl | rfl | rfl | rfl | rfl
    all_goals
      go_enter Tryz.func56, Tryz.ntmps56
      go_wp2
      go_ret
      exact ⟨by unfold opB; first | rfl | (simp [*]; done), rfl⟩
  · have k1 : decide (a < a) = false := decide_eq_false (by omega)
    have k3 : decide (a ≤ a) = true := decide_eq_true (by omega)
    rcases ho' with rfl | rfl | rfl | rfl | rfl | rfl
    all_goals
      go_enter Tryz.func56, Tryz.ntmps56
      go_wp2
      go_ret
      exact ⟨by unfold opB; first | rfl | (simp [*]; done), rfl⟩
end Go.Proofs.YtbhcjaejkplfeaaGreatDoor
