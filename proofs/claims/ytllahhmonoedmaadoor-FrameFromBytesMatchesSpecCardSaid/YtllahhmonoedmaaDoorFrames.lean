/-
  Frames, the reference's: the contract.
-/
import Derived.Test.YtllahhmonoedmaaDoorFramesA
namespace Go.Proofs.YtllahhmonoedmaaDoor
open Go.RowKit
-- AT2

set_option maxHeartbeats 400000 in
set_option maxRecDepth 100000 in
theorem RFrames_any (M : List Int) (hM : Bs M) (A : Option Addr) (c : Nat) (w : World) (hH : HeldB M A M.length w) (hcap : M.length ≤ c) (hcm : c ≤ 9223372036854775807) (hm : M.length ≤ 140737488355328) :
    Calls Tryd.prog 57 #[.slice A M.length c] w fun e w' => ∃ v x, e = .returned (.tuple #[v, .int .i64 ((M.length % 96 : Nat) : Int)]) ∧ w' = gx w x ∧ Own w.heap.size (gx w x) 32 64 v (M.length / 96) (frC M (M.length / 96)) := by
  have key : ∀ v W k, k = M.length / 96 → (∃ x, W = gx w x) → Own w.heap.size W 32 64 v k (frC M k) → ∃ v' x, Ending.returned (.tuple #[v, .int .i64 ((M.length - 96 * k : Nat) : Int)]) = .returned (.tuple #[v', .int .i64 ((M.length % 96 : Nat) : Int)]) ∧ W = gx w x ∧ Own w.heap.size (gx w x) 32 64 v' (M.length / 96) (frC M (M.length / 96)) := by
    rintro v _ k rfl ⟨x, rfl⟩ h
    exact ⟨v, x, by rw [show M.length - 96 * (M.length / 96) = M.length % 96 by omega], rfl, h⟩
  have Key := Lib.hid key
  clear key
  go_enter Tryd.func57, Tryd.ntmps57
  go_wp2
  go_loopw [0, 4] (fun bv v wr => ∃ (k : Nat) (A' : Option Addr), 96 * k ≤ M.length ∧ bv = .slice A' (M.length - 96 * k) (c - 96 * k) ∧ HeldB (M.drop (96 * k)) A' (M.length - 96 * k) w ∧ (∃ x, wr = gx w x) ∧ Own w.heap.size wr 32 64 v k (frC M k)) (fun bv _ _ => match bv with | .slice _ n _ => n | _ => 0)
  case atStart => exact ⟨0, A, by omega, rfl, by simpa using hH, Gx.refl _, by rw [frC_0]; exact Own.nil _ _ _ _⟩
  case round =>
    obtain ⟨k, A', hk, rfl, hH', ⟨x, rfl⟩, hO⟩ := hrel
    by_cases hge : 96 ≤ M.length - 96 * k
    · have hd : decide ((96 : Int) ≤ ((M.length - 96 * k : Nat) : Int)) = true := decide_eq_true (by omega)
      unfold HeldB at hH'
      obtain ⟨b, o, rfl, hc⟩ := hH' (by omega)
      have hnext : ∀ A2, (96 < M.length - 96 * k → A2 = some ⟨b, o + 96, none⟩) → HeldB (M.drop (96 * (k + 1))) A2 (M.length - 96 * (k + 1)) w := fun A2 h => by
        unfold HeldB
        intro h0
        refine ⟨b, o + 96, h (by omega), fun j hj => ?_⟩
        have := hc (96 + j) (by omega)
        rw [gw_drop, show 96 * k + (96 + j) = 96 * (k + 1) + j by omega] at this
        rw [gw_drop, show o + 96 + j = o + (96 + j) by omega]
        exact this
      obtain ⟨A2, hs, hA2⟩ := slice96 b o (M.length - 96 * k) (c - 96 * k) hge (by omega)
      have HN := Lib.hid (hnext A2 hA2)
      have hc' := Lib.hid hc
      have hb := bs_drop hM (96 * k)
      have hlf := rdF_len (M.drop (96 * k))
      have HS := Lib.hid (frC_succ M k)
      have hkm : k + 1 ≤ 140737488355328 / 96 := by omega
      clear hnext hA2 hc hH'
      go_wp2_with (first | (go_at_call 105; refine (Rframe_any (M.drop (96 * k)) hb b o _ _ hge (by omega) _ ?_).mono ?_; (focus (intro j hj; exact cell_keep_gx (hc'.out j (by omega)))); rintro e w' ⟨rfl, z, rfl⟩) | (refine build_frame rfl _ rfl (rdF (M.drop (96 * k))) rfl hlf ?_) | (at_builtin; (with_reducible apply append_newW (o := ⟨some 14, _, _, _, _, _⟩) el_frame w w.heap.size (v := u4) (n := k) (xs := frC M k) (m := 1) (news := (rdF (M.drop (96 * k))).map (Value.int .u16))); go_loud ((exact rfl; exact rfl; exact rfl; exact rfl; (focus (exact Nat.le_refl _)); (focus (repeat (first | (with_reducible assumption) | (with_reducible exact Own.nil _ _ _ _) | (with_reducible refine Own.app ?_) | (with_reducible refine Own.tick ?_) | (with_reducible refine Own.gx ?_) | (with_reducible refine Own.alloc ?_) | (with_reducible refine Own.drew ?_) | (with_reducible refine Own.row ?_ (by omega))))); exact (by repeat (first | (with_reducible exact Gx.refl _) | (with_reducible assumption) | (with_reducible refine Gx.gx ?_) | (with_reducible refine Gx.alloc ?_) | (with_reducible refine Gx.drew ?_) | (with_reducible refine Gx.drewN ?_) | (with_reducible refine Gx.setRow ?_ (by simp)) | (with_reducible refine Gx.setCell ?_ (by simp)))); (focus (simp <;> omega)); (focus (simp [hlf]; done)); (focus (refine Shows.whole (t := 32) ?_; show At _ _ (.cells (fc _) _ _); (focus (repeat (first | (with_reducible assumption) | (with_reducible exact At.new _ _) | (with_reducible refine At.row ?_) | (with_reducible refine At.app ?_) | (with_reducible refine At.tick ?_) | (with_reducible refine At.gx ?_) | ((with_reducible refine At.new' ?_); focus (simp; done)) | (with_reducible refine At.alloc ?_) | (with_reducible refine At.drew ?_) | (with_reducible exact Is.new _ _ _) | (with_reducible refine Is.row ?_) | (with_reducible refine Is.gx ?_) | ((with_reducible refine Is.new' ?_); focus (simp; done)) | (with_reducible refine Is.alloc ?_) | (with_reducible refine Is.drew ?_)))))); (focus (simp [Value.oneCell']; done)); (focus (simp only [maxLen]; omega)); (focus omega); (rintro v' W' hW' hO' hg')))))
      go_roundw
      case rel => exact ⟨k + 1, A2, by omega, by rw [Nat.mul_succ, Nat.sub_add_eq, Nat.sub_add_eq], HN.out, hW', by rw [← HS.out]; exact hO'⟩
      case measure => simp; omega
    · have hd : decide ((96 : Int) ≤ ((M.length - 96 * k : Nat) : Int)) = false := decide_eq_false (by omega)
      go_wp2
      go_ret2
      exact Key.out _ _ k (by omega) (by repeat (first | (with_reducible exact Gx.refl _) | (with_reducible assumption) | (with_reducible refine Gx.gx ?_) | (with_reducible refine Gx.alloc ?_) | (with_reducible refine Gx.drew ?_) | (with_reducible refine Gx.drewN ?_) | (with_reducible refine Gx.setRow ?_ (by simp)) | (with_reducible refine Gx.setCell ?_ (by simp)))) hO
end Go.Proofs.YtllahhmonoedmaaDoor
