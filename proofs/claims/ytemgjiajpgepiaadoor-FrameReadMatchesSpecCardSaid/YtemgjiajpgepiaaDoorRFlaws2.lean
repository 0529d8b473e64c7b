/-
  The reference's Flaws of wide frames, and whether a frame is sound.
-/
import Derived.Test.YtemgjiajpgepiaaDoorRFlaws
namespace Go.Proofs.YtemgjiajpgepiaaDoor
open Go.RowKit
-- AT2

set_option maxHeartbeats 1000000 in
set_option maxRecDepth 100000 in
theorem RFlaws_wide (F : List Int) (hF : Fr F) (hw : wideB F = true) (w : World) :
    Calls Tryd.prog 35 #[.agg (fc F)] w fun e w' => ∃ v x, e = .returned v ∧ w' = gx w x ∧ Own w.heap.size (gx w x) 49 2 v (flawsL F).length (flC (flawsL F)) := by
  have hl := hF.len
  have hp := wideL_pos F 64 hw
  have hs : flawsL F = wideL F 64 := by unfold flawsL; rw [if_pos hw]
  rw [hs]
  clear hs hw
  go_enter Tryd.func35, Tryd.ntmps35
  go_wp2_with (refine load_fr rfl _ rfl _ rfl ?_ ?_ ?_ ?_; rotate_left; (focus (repeat (first | (with_reducible assumption) | (with_reducible exact At.new _ _) | (with_reducible refine At.row ?_) | (with_reducible refine At.app ?_) | (with_reducible refine At.tick ?_) | (with_reducible refine At.gx ?_) | ((with_reducible refine At.new' ?_); focus (simp; done)) | (with_reducible refine At.alloc ?_) | (with_reducible refine At.drew ?_) | (with_reducible exact Is.new _ _ _) | (with_reducible refine Is.row ?_) | (with_reducible refine Is.gx ?_) | ((with_reducible refine Is.new' ?_); focus (simp; done)) | (with_reducible refine Is.alloc ?_) | (with_reducible refine Is.drew ?_)))); (focus (with_reducible (first | exact hl | exact hl1 | exact hl2 | exact hl3 | exact hl4 | exact zeroF_len))))
  go_loopw [3, 8] (fun fl i wr => ∃ (k : Nat) (x : Ext), k ≤ 64 ∧ i = .int .i64 k ∧ wr = gx (w.alloc (.cells (fc F) 32)) x ∧ Own (w.heap.size + 1) wr 49 2 fl (wideL F k).length (flC (wideL F k))) (fun _ i _ => 64 - (intOf i).toNat)
  case atStart => exact ⟨0, _, Nat.zero_le _, rfl, (gx_none _).symm, by rw [wideL, flC_nil]; exact Own.nil _ _ _ _⟩
  case round =>
    obtain ⟨k, y, hk, rfl, rfl, hO⟩ := hrel
    by_cases hlt : k < 64
    · have hle := wideL_len F k
      by_cases hwd : 4095 < gw F k
      · have hs : ∀ v W, Own (w.heap.size + 1) W 49 2 v ((wideL F k).length + 1) (flC (wideL F k) ++ [.int .i64 k, .int .i64 5]) → Own (w.heap.size + 1) W 49 2 v (wideL F (k + 1)).length (flC (wideL F (k + 1))) := fun v W h => by
          have e : wideL F (k + 1) = wideL F k ++ [((k : Int), 5)] := by rw [wideL, if_pos (by omega)]
          rw [e, flC_app, flC_one, List.length_append]; exact h
        have Hs := Lib.hid hs
        clear hs
        go_wp2_with (at_builtin; (with_reducible apply append_new (o := ⟨some 18, _, _, _, _, _⟩) el_flaw (w.alloc (.cells (fc F) 32)) (w.heap.size + 1) (v := u3) (n := (wideL F k).length) (xs := flC (wideL F k)) (m := 1) (news := [.int .i64 k, .int .i64 5])); go_loud ((exact rfl; exact rfl; exact rfl; exact rfl; (focus (simp; done)); (focus (repeat (first | (with_reducible assumption) | (with_reducible exact Own.nil _ _ _ _) | (with_reducible refine Own.app ?_) | (with_reducible refine Own.tick ?_) | (with_reducible refine Own.gx ?_) | (with_reducible refine Own.alloc ?_) | (with_reducible refine Own.drew ?_)))); exact (by repeat (first | (with_reducible exact Gx.refl _) | (with_reducible assumption) | (with_reducible refine Gx.gx ?_) | (with_reducible refine Gx.alloc ?_) | (with_reducible refine Gx.drew ?_) | (with_reducible refine Gx.drewN ?_) | (with_reducible refine Gx.setRow ?_ (by simp)) | (with_reducible refine Gx.setCell ?_ (by simp)))); (focus (simp <;> omega)); exact rfl; (focus (repeat (first | (with_reducible assumption) | ((with_reducible apply Shows.whole); focus ((focus (repeat (first | (with_reducible assumption) | (with_reducible exact At.new _ _) | (with_reducible refine At.row ?_) | (with_reducible refine At.app ?_) | (with_reducible refine At.tick ?_) | (with_reducible refine At.gx ?_) | ((with_reducible refine At.new' ?_); focus (simp; done)) | (with_reducible refine At.alloc ?_) | (with_reducible refine At.drew ?_) | (with_reducible exact Is.new _ _ _) | (with_reducible refine Is.row ?_) | (with_reducible refine Is.gx ?_) | ((with_reducible refine Is.new' ?_); focus (simp; done)) | (with_reducible refine Is.alloc ?_) | (with_reducible refine Is.drew ?_)))); done)) | (with_reducible refine Shows.app ?_) | (with_reducible refine Shows.tick ?_) | (with_reducible refine Shows.gx ?_) | (with_reducible refine Shows.alloc ?_) | (with_reducible refine Shows.drew ?_)))); (focus (simp [Value.oneCell']; done)); (focus (simp only [maxLen]; omega)); (focus omega); (rintro v' _ ⟨y', rfl⟩ hO' _); have hO2 := Hs.out _ _ hO'; clear hO')))
        go_roundw
        case rel => exact ⟨k + 1, _, by omega, by go_num, rfl, hO2⟩
        case measure => simp [intOf]; omega
      · have e : wideL F (k + 1) = wideL F k := by rw [wideL, if_neg (by omega)]
        rw [← e] at hO
        clear e
        go_wp2
        go_roundw
        case rel => exact ⟨k + 1, _, by omega, by go_num, rfl, hO⟩
        case measure => simp [intOf]; omega
    · obtain rfl : k = 64 := by omega
      obtain ⟨A0, c0, rfl, -, -, -, -⟩ := hO.is
      go_wp2
      go_ret
      refine own_ret (v := .slice A0 (wideL F 64).length c0) (b := w.heap.size + 1) (Gx.trans (by repeat (first | (with_reducible exact Gx.refl _) | (with_reducible assumption) | (with_reducible refine Gx.gx ?_) | (with_reducible refine Gx.alloc ?_) | (with_reducible refine Gx.drew ?_) | (with_reducible refine Gx.drewN ?_) | (with_reducible refine Gx.setRow ?_ (by simp)) | (with_reducible refine Gx.setCell ?_ (by simp)))) Gx.one) (by simp) ?_; (focus (repeat (first | (with_reducible assumption) | (with_reducible exact Own.nil _ _ _ _) | (with_reducible refine Own.app ?_) | (with_reducible refine Own.tick ?_) | (with_reducible refine Own.gx ?_) | (with_reducible refine Own.alloc ?_) | (with_reducible refine Own.drew ?_))))

theorem RFlaws_any (F : List Int) (hF : Fr F) (w : World) :
    Calls Tryd.prog 35 #[.agg (fc F)] w fun e w' => ∃ v x, e = .returned v ∧ w' = gx w x ∧ Own w.heap.size (gx w x) 49 2 v (flawsL F).length (flC (flawsL F)) := by
  cases hw : wideB F
  · cases h1 : syncOk F
    · exact RFlaws_0 F hF hw h1 w
    · exact RFlaws_1 F hF hw h1 w
  · exact RFlaws_wide F hF hw w

set_option maxHeartbeats 400000 in
set_option maxRecDepth 100000 in
theorem RSound_any (F : List Int) (hF : Fr F) (hw : wideB F = false) (w : World) :
    Calls Tryd.prog 99 #[.agg (fc F)] w fun e w' => e = .returned (.bool (soundB F)) ∧ ∃ x, w' = gx w x := by
  have hl := hF.len
  have hb : (((flawsL F).length : Int) == 0) = soundB F := by
    rw [Bool.eq_iff_iff, ← flawsL_none hw, beq_iff_eq]
    constructor
    · intro h; exact List.eq_nil_of_length_eq_zero (by omega)
    · intro h; rw [h]; rfl
  have Hb := Lib.hid hb
  clear hb
  go_enter Tryd.func99, Tryd.ntmps99
  go_wp2_with (first | (refine load_fr rfl _ rfl _ rfl ?_ ?_ ?_ ?_; rotate_left; (focus (repeat (first | (with_reducible assumption) | (with_reducible exact At.new _ _) | (with_reducible refine At.row ?_) | (with_reducible refine At.app ?_) | (with_reducible refine At.tick ?_) | (with_reducible refine At.gx ?_) | ((with_reducible refine At.new' ?_); focus (simp; done)) | (with_reducible refine At.alloc ?_) | (with_reducible refine At.drew ?_) | (with_reducible exact Is.new _ _ _) | (with_reducible refine Is.row ?_) | (with_reducible refine Is.gx ?_) | ((with_reducible refine Is.new' ?_); focus (simp; done)) | (with_reducible refine Is.alloc ?_) | (with_reducible refine Is.drew ?_)))); (focus (with_reducible (first | exact hl | exact hl1 | exact hl2 | exact hl3 | exact hl4 | exact zeroF_len)))) | (go_at_call 35; refine (RFlaws_any F hF _).mono ?_; rintro e w' ⟨v, z, rfl, rfl, hO⟩; obtain ⟨A0, c0, rfl, -, -, -, -⟩ := hO.is; clear hO))
  go_ret
  exact ⟨by rw [← Hb.out]; rfl, (by repeat (first | (with_reducible exact Gx.refl _) | (with_reducible assumption) | (with_reducible refine Gx.gx ?_) | (with_reducible refine Gx.alloc ?_) | (with_reducible refine Gx.drew ?_) | (with_reducible refine Gx.drewN ?_) | (with_reducible refine Gx.setRow ?_ (by simp)) | (with_reducible refine Gx.setCell ?_ (by simp))))⟩
end Go.Proofs.YtemgjiajpgepiaaDoor
