/-
  holds() is true.
-/
import Derived.Test.YtmpokfbliacmoaaDoorSHold
namespace Go.Proofs.YtmpokfbliacmoaaDoor
open Go.RowKit
-- AT2

def oneS : Nat → Sm := fun _ => ⟨5, 7, 4⟩
theorem oneS_good : GoodS oneS 1 := ⟨fun i _ => by unfold oneS smOk; decide, fun i _ h => absurd h (by unfold oneS; decide), fun i h => by omega⟩
theorem oneS_E : holdE 1 oneS 1 9 4 = 0 := by
  rw [holdE_is (goodS_back (by omega) (by omega) oneS_good), inB_iff.2 (by omega), inB_iff.2 (by omega)]
  rfl
theorem oneS_c : aheadN oneS (9 + 1) 1 = 1 := by unfold aheadN aheadN oneS; decide
theorem oneS_B : holdB 1 oneS 1 9 4 = true := by
  rw [(hold_yes oneS_E).2, oneS_c]; exact heldB_iff.2 (by unfold oneS; decide)
theorem oneS_V : holdV 1 oneS 1 9 4 = ⟨5, 7, 4⟩ := by
  rw [(hold_yes oneS_E).1, oneS_c, heldV_yes (heldB_iff.2 (by unfold oneS; decide))]; rfl
theorem holds_Hold (c : Nat) (A : Option Addr) (w : World) (hL : SmAt w oneS 1 A) :
    Calls Tryd.prog 20 #[serV 1 A 1 c, .int .i64 9, .int .i64 4] w fun e w' => e = .returned (.tuple #[smV 5 7 4, .bool true, .int .i64 0]) ∧ ∃ x, w' = gx w x := by
  have h := Hold_any 1 oneS 1 c A 9 4 w hL
  rw [oneS_E, oneS_B, oneS_V] at h
  exact h
theorem one_at {w : World} {g : Nat} (h1 : w.cell? ⟨g, 0, none⟩ = some (.int .i64 5)) (h2 : w.cell? ⟨g, 1, none⟩ = some (.int .i64 7)) (h3 : w.cell? ⟨g, 2, none⟩ = some (.int .i64 4)) : SmAt w oneS 1 (some ⟨g, 0, none⟩) :=
  SmAt.mk fun _ => ⟨g, 0, rfl, fun k hk => by
    obtain rfl : k = 0 := by omega
    exact ⟨h1, h2, h3⟩⟩
set_option maxHeartbeats 2000000 in
set_option maxRecDepth 100000 in
theorem holds_any (w : World) : Calls Tryd.prog 8 #[] w fun e w' => e = .returned (.bool true) ∧ ∃ x, w' = gx w x := by
  go_enter Tryd.func8, Tryd.ntmps8
  go_wp2_with (go_at_call 20; refine (holds_Hold _ _ _ (one_at (by simp [go_sem]) (by simp [go_sem]) (by simp [go_sem]))).mono ?_; rintro e w' ⟨rfl, x, rfl⟩)
  go_ret
  exact ⟨rfl, (by repeat (first | (with_reducible exact Gx.refl _) | (with_reducible assumption) | (with_reducible refine Gx.gx ?_) | (with_reducible refine Gx.alloc ?_) | (with_reducible refine Gx.drew ?_) | (with_reducible refine Gx.drewN ?_) | (with_reducible refine Gx.setRow ?_ (by simp)) | (with_reducible refine Gx.setCell ?_ (by simp))))⟩
end Go.Proofs.YtmpokfbliacmoaaDoor
