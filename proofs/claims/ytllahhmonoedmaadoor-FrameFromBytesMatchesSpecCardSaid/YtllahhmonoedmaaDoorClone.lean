/-
  slices.Clone of bytes: the contract; slices.Equal of frames that are the same.
-/
import Derived.Test.YtllahhmonoedmaaDoorFramesA
namespace Go.Proofs.YtllahhmonoedmaaDoor
open Go.RowKit
-- AT2

set_option maxHeartbeats 600000 in
set_option maxRecDepth 100000 in
theorem Clone_any (M : List Int) (hM : Bs M) (A : Option Addr) (c : Nat) (w : World) (hH : HeldB M A M.length w) (hN : A = none → M.length = 0) (hm : M.length ≤ 140737488355328) :
    Calls Tryd.prog 48 #[.slice A M.length c] w fun e w' => ∃ A' c' x, e = .returned (.slice A' M.length c') ∧ w' = gx w x ∧ HeldB M A' M.length (gx w x) ∧ (A' = none → M.length = 0) := by
  cases A with
  | none =>
    have h0 := Lib.hid (hN rfl)
    clear hN hm
    have he : ∀ w : World, (binOp .eql 61 (.slice none M.length c) (.slice none 0 0)).run Tryd.prog w = .ok (.bool true) w := fun _ => rfl
    go_enter Tryd.func48, Tryd.ntmps48
    go_wp2
    go_ret
    exact ⟨none, 0, _, by rw [h0.out]; rfl, (gx_none w).symm, by rw [gx_none]; exact hH, fun _ => h0.out⟩
  | some ad =>
    have he : ∀ w : World, (binOp .eql 61 (.slice (some ad) M.length c) (.slice none 0 0)).run Tryd.prog w = .ok (.bool false) w := fun _ => rfl
    clear hN
    go_enter Tryd.func48, Tryd.ntmps48
    go_wp2_with (first | (refine append_own w [] M _ 0 (some ad) c rfl _ _ rfl rfl rfl rfl ?_ ?_ ?_ (by decide) (by decide) nil_bs hM ?_ (by omega) ?_; (focus (exact At.new w (.cells #[] 5))); exact (by repeat (first | (with_reducible exact Gx.refl _) | (with_reducible assumption) | (with_reducible refine Gx.gx ?_) | (with_reducible refine Gx.alloc ?_) | (with_reducible refine Gx.drew ?_) | (with_reducible refine Gx.drewN ?_) | (with_reducible refine Gx.setRow ?_ (by simp)) | (with_reducible refine Gx.setCell ?_ (by simp)))); (focus (simp)); (focus (repeat (first | (with_reducible assumption) | (with_reducible refine HeldB.gx ?_) | (with_reducible refine HeldB.alloc ?_) | (with_reducible refine HeldB.drew ?_)))); rintro g1 C1 W1 ⟨x1, rfl⟩ hg1 hA1 hl1 hm1 hb1 hp1 hq1))
    go_ret
    exact ⟨some ⟨g1, 0, none⟩, C1.length, x1, rfl, rfl, HeldB.part (C := C1) (o := 0) hA1 (by omega) hq1, fun h => by cases h⟩

theorem frC_get (M : List Int) : ∀ n k j, k < n → j < 64 → (frC M n)[k * 64 + j]? = some (.int .u16 (gw (rdF (M.drop (96 * k))) j))
  | 0, k, j, h, _ => absurd h (by omega)
  | n + 1, k, j, h, hj => by
    have hl := frC_len M n
    rw [← frC_succ]
    rcases Nat.lt_or_ge k n with hlt | hge
    · rw [List.getElem?_append_left (by omega)]
      exact frC_get M n k j hlt hj
    · obtain rfl : k = n := by omega
      rw [List.getElem?_append_right (by omega), show k * 64 + j - (frC M k).length = j by omega]
      have hr := rdF_len (M.drop (96 * k))
      generalize rdF (M.drop (96 * k)) = F at *
      simp [gw, List.getD, hr, hj]
theorem range_fr {F : List Int} (hl : F.length = 64) {w : World} {g q : Nat} (hc : ∀ j, j < 64 → w.cell? ⟨g, q + j, none⟩ = some (.int .u16 (gw F j))) : w.rangeAt g q (F.map (Value.int .u16)) := by
  intro j v hj
  have hj' : j < 64 := by
    have := (List.getElem?_eq_some_iff.1 hj).1
    rw [List.length_map, hl] at this
    exact this
  have e := fc_get F j (by omega)
  have hv : v = .int .u16 (gw F j) := by
    have : (fc F)[j]? = some v := by unfold fc; simpa using hj
    rw [e] at this
    exact (Option.some.inj this).symm
  rw [hv]
  exact hc j hj'
theorem quiet_frq {ops : Array Oper} {C : World → Prop} {Q : Act → Prop} {a : Act} {o : Oper} {rest : List Oper} (hw : Region.wanted o (yielded ops a.tmps) = true) (x : Operand) (ho : o.op = .load 32 x)
    (g q : Nat) (hx : a.eval x = .pointer (some ⟨g, q, none⟩)) (F : List Int) (hl : F.length = 64) (hC : ∀ w, C w → ∀ j, j < 64 → w.cell? ⟨g, q + j, none⟩ = some (.int .u16 (gw F j)))
    (h : wpQuiet Tryd.prog ops C Q rest (a.put o.dst (.agg (fc F)))) : wpQuiet Tryd.prog ops C Q (o :: rest) a := by
  refine BigFrame.wpQuiet_want hw fun K hK => ⟨.agg (fc F), fun w hw' => ?_, hK _ h⟩
  unfold Oper.quietAt execOp
  simp only [ho, hx, Instr.loadAt, Instr.sureAddr, Sem.run_bind, Sem.run_pure, Result.andThen_ok, run_loadVar_mid w g _ _ _ _ (range_fr hl (hC w hw')) Tryd.underlying32 rfl (by rw [List.length_map, hl]; kernel_rfl)]
  exact ⟨rfl, rfl⟩
set_option maxHeartbeats 600000 in
set_option maxRecDepth 100000 in
theorem EqualR_same (M : List Int) (n b o c b' o' c' : Nat) (hn : n ≤ 140737488355328) (w : World) (hc : ∀ k, k < n → ∀ j, j < 64 → w.cell? ⟨b, o + k * 64 + j, none⟩ = some (.int .u16 (gw (rdF (M.drop (96 * k))) j))) (hc' : ∀ k, k < n → ∀ j, j < 64 → w.cell? ⟨b', o' + k * 64 + j, none⟩ = some (.int .u16 (gw (rdF (M.drop (96 * k))) j))) :
    Calls Tryd.prog 58 #[.slice (some ⟨b, o, none⟩) n c, .slice (some ⟨b', o', none⟩) n c'] w fun e w' => e = .returned (.bool true) ∧ ∃ x, w' = gx w x := by
  have Hc := Lib.hid hc
  have Hc' := Lib.hid hc'
  clear hc hc'
  go_enter Tryd.func58, Tryd.ntmps58
  go_wp2
  go_loopw [13] (fun i wr => ∃ (k : Nat) (x : Ext), k ≤ n ∧ i = .int .i64 k ∧ wr = gx w x) (fun i _ => n - (intOf i).toNat)
  case atStart => exact ⟨0, _, Nat.zero_le _, rfl, (gx_none _).symm⟩
  case round =>
    obtain ⟨k, y, hk, rfl, rfl⟩ := hrel
    by_cases hlt : k < n
    · have c0 := Hc.out k hlt
      have c1 := Hc'.out k hlt
      have hbw : b < w.heap.size := World.block_lt_of_cell? w _ (c0 0 (by omega))
      have hbw' : b' < w.heap.size := World.block_lt_of_cell? w _ (c1 0 (by omega))
      have hl := rdF_len (M.drop (96 * k))
      generalize rdF (M.drop (96 * k)) = F at *
      have hq := eqF_self F
      have C0 := Lib.hid c0
      have C1 := Lib.hid c1
      clear c0 c1
      go_wp2
      first | (with_reducible refine region_gxx (by kernel_rfl) (by kernel_rfl) ?_) | (with_reducible refine region_gx (by kernel_rfl) (by kernel_rfl) ?_)
      repeat (any_goals (first | (refine quiet_frq rfl _ rfl _ _ rfl F hl ?_ ?_; (focus (rintro _ ⟨x, rfl⟩ j hj; repeat (first | (with_reducible exact C0.out j hj) | (with_reducible exact C1.out j hj) | (with_reducible refine cell_keep_gx ?_))))) | go_big_quiet_step (fail) | quiet_step (fail)))
      refine wpQuiet_nil ?_
      rintro _ ⟨x, rfl⟩
      go_wp2
      go_roundw
      case rel => exact ⟨k + 1, _, by omega, by go_num, rfl⟩
      case measure => simp [intOf]; omega
    · obtain rfl : k = n := by omega
      go_wp2
      go_ret
      exact ⟨rfl, (by repeat (first | (with_reducible exact Gx.refl _) | (with_reducible assumption) | (with_reducible refine Gx.gx ?_) | (with_reducible refine Gx.alloc ?_) | (with_reducible refine Gx.drew ?_) | (with_reducible refine Gx.drewN ?_) | (with_reducible refine Gx.setRow ?_ (by simp)) | (with_reducible refine Gx.setCell ?_ (by simp))))⟩
set_option maxHeartbeats 400000 in
set_option maxRecDepth 100000 in
theorem EqualR_none (A A' : Option Addr) (c c' : Nat) (w : World) :
    Calls Tryd.prog 58 #[.slice A 0 c, .slice A' 0 c'] w fun e w' => e = .returned (.bool true) ∧ ∃ x, w' = gx w x := by
  go_enter Tryd.func58, Tryd.ntmps58
  go_wp2
  go_loopw [13] (fun i wr => i = .int .i64 0 ∧ wr = w) (fun i _ => (intOf i).toNat)
  case atStart => exact ⟨rfl, rfl⟩
  case round =>
    obtain ⟨rfl, rfl⟩ := hrel
    go_wp2
    go_ret
    exact ⟨rfl, (by repeat (first | (with_reducible exact Gx.refl _) | (with_reducible assumption) | (with_reducible refine Gx.gx ?_) | (with_reducible refine Gx.alloc ?_) | (with_reducible refine Gx.drew ?_) | (with_reducible refine Gx.drewN ?_) | (with_reducible refine Gx.setRow ?_ (by simp)) | (with_reducible refine Gx.setCell ?_ (by simp))))⟩
theorem shows_frames {M : List Int} {n : Nat} {A : Option Addr} {w : World} (h : Shows (frC M n) A w) (h0 : 0 < n) : ∃ g o, A = some ⟨g, o, none⟩ ∧ ∀ k, k < n → ∀ j, j < 64 → w.cell? ⟨g, o + k * 64 + j, none⟩ = some (.int .u16 (gw (rdF (M.drop (96 * k))) j)) := by
  unfold Shows at h
  obtain ⟨g, o, e, hc⟩ := h (by rw [frC_len]; omega)
  exact ⟨g, o, e, fun k hk j hj => by rw [Nat.add_assoc]; exact hc _ _ (frC_get M n k j hk hj)⟩
theorem EqualR_shows (M : List Int) (n : Nat) (hn : n ≤ 140737488355328) (A A' : Option Addr) (c c' : Nat) (w : World) (h : Shows (frC M n) A w) (h' : Shows (frC M n) A' w) :
    Calls Tryd.prog 58 #[.slice A n c, .slice A' n c'] w fun e w' => e = .returned (.bool true) ∧ ∃ x, w' = gx w x := by
  rcases Nat.eq_zero_or_pos n with rfl | h0
  · exact EqualR_none A A' c c' w
  · obtain ⟨g, o, rfl, hc⟩ := shows_frames h h0
    obtain ⟨g', o', rfl, hc'⟩ := shows_frames h' h0
    exact EqualR_same M n g o c g' o' c' hn w hc hc'
end Go.Proofs.YtllahhmonoedmaaDoor
