/-
  Names of tracks: the reference's IsName at every text (second part).
-/
import Derived.Test.YtfbhjgaiejjfaaaPRNm
namespace Go.Proofs.Ytfbhjgaiejjfaaa
open Go.RowKit
-- AT2
-- AT3

set_option maxHeartbeats 2000000 in
set_option maxRecDepth 100000 in
theorem RIsNameT_any (s : ByteArray) (hs : s.size ≤ 9223372036854775807) (w : World) : Calls Try.prog 12 #[.string s] w fun e w' => e = .returned (.bool (nameT s)) ∧ ∃ x, w' = gx w x := by
  have key : ∀ k, k < s.size → letB (bt s k) = false → (k = 0 ∨ (digB (bt s k) = false ∧ (bt s k == 45) = false)) → nameT s = false := fun k hk e h => by
    unfold nameT
    rcases h with rfl | ⟨h1, h2⟩
    · rw [e]; simp
    · rw [okTo_mono s (k + 1) s.size (by omega) (by rw [okTo]; unfold chB; rw [e, h1, h2]; simp)]; simp
  have key2 : okTo s s.size = true → (0 < s.size → letB (bt s 0) = true) → nameT s = (decide (1 ≤ (s.size : Int)) && decide ((s.size : Int) ≤ 30) && !wordB s) := fun h1 h2 => by
    unfold nameT
    rw [h1]
    by_cases h0 : 1 ≤ s.size
    · rw [h2 (by omega), decide_eq_true h0, decide_eq_true (show 1 ≤ (s.size : Int) by omega)]
      by_cases h30 : s.size ≤ 30
      · rw [decide_eq_true h30, decide_eq_true (show (s.size : Int) ≤ 30 by omega)]; rfl
      · rw [decide_eq_false h30, decide_eq_false (show ¬ (s.size : Int) ≤ 30 by omega)]; rfl
    · rw [decide_eq_false h0, decide_eq_false (show ¬ 1 ≤ (s.size : Int) by omega)]
      rfl
  have Key := Lib.hid key
  have Key2 := Lib.hid key2
  clear key key2
  go_enter Try.func12, Try.ntmps12
  go_wp2
  go_loop [3] (fun i => ∃ k : Nat, k ≤ s.size ∧ i = .int .i64 k ∧ okTo s k = true ∧ (0 < k → letB (bt s 0) = true)) (fun i => s.size - (intOf i).toNat)
  case atStart => exact ⟨0, Nat.zero_le _, rfl, rfl, fun h => absurd h (Nat.lt_irrefl _)⟩
  case round =>
    obtain ⟨k, hk, rfl, ho, hz⟩ := hrel
    have HO := Lib.hid ho
    have HZ := Lib.hid hz
    clear ho hz
    by_cases hlt : k < s.size
    · have gk := bt_get s k hlt
      have l1 : letB (bt s k) = (decide (97 ≤ bt s k) && decide (bt s k ≤ 122)) := by unfold letB; rfl
      have l2 : digB (bt s k) = (decide (48 ≤ bt s k) && decide (bt s k ≤ 57)) := by unfold digB; rfl
      have hs1 : okTo s (k + 1) = chB (bt s k) := by rw [okTo, HO.out]; rfl
      have hc : chB (bt s k) = (letB (bt s k) || digB (bt s k) || bt s k == 45) := rfl
      have HS := Lib.hid hs1
      have HC := Lib.hid hc
      have L1 := Lib.hid l1
      have L2 := Lib.hid l2
      clear hs1 hc l1 l2
      generalize hb : bt s k = c at *
      have Hb := Lib.hid hb
      clear hb
      by_cases a1 : 97 ≤ c ∧ c ≤ 122
      · have a2 : decide (97 ≤ c) = true := decide_eq_true a1.1
        have a3 : decide (c ≤ 122) = true := decide_eq_true a1.2
        have e1 : Hid (letB c = true) := by show _ = _; rw [L1.out, a2, a3]; rfl
        have HN : Hid (okTo s (k + 1) = true) := by show _ = _; rw [HS.out, HC.out, e1.out]; rfl
        clear a1
        go_wp2_with go_skip
        go_round
        case rel => exact ⟨k + 1, by omega, by go_num, HN.out, fun _ => by
          by_cases e : k = 0
          · subst e; rw [Hb.out]; exact e1.out
          · exact HZ.out (by omega)⟩
        case measure => simp [intOf]; omega
      · have hw : (97 ≤ c ∧ 122 < c ∧ k = 0) ∨ (97 ≤ c ∧ 122 < c ∧ 0 < k) ∨ (c < 97 ∧ 48 ≤ c ∧ c ≤ 57 ∧ k = 0) ∨ (c < 97 ∧ 48 ≤ c ∧ c ≤ 57 ∧ 0 < k) ∨ (c < 97 ∧ 57 < c ∧ k = 0) ∨ (c < 97 ∧ 57 < c ∧ 0 < k) ∨ (c < 48 ∧ c ≠ 45 ∧ k = 0) ∨ (c = 45 ∧ k = 0) ∨ (c = 45 ∧ 0 < k) ∨ (c < 48 ∧ c ≠ 45 ∧ 0 < k) := by omega
        clear a1
        rcases hw with hcs | hcs | hcs | hcs | hcs | hcs | hcs | hcs | hcs | hcs
        · -- 97 ≤ c ∧ 122 < c ∧ k = 0
          obtain rfl : k = 0 := by omega
          have a2 : decide (97 ≤ c) = true := decide_eq_true (by omega)
          have a3 : decide (c ≤ 122) = false := decide_eq_false (by omega)
          have a4 : decide (48 ≤ c) = true := decide_eq_true (by omega)
          have a5 : decide (c ≤ 57) = false := decide_eq_false (by omega)
          have a6 : (c == 45) = false := by rw [beq_eq_false_iff_ne]; omega
          have e1 : Hid (letB c = false) := by show _ = _; rw [L1.out, a2, a3]; rfl
          have e2 : Hid (digB c = false) := by show _ = _; rw [L2.out, a4, a5]; rfl
          have HB : Hid (nameT s = false) := by show _ = _; exact Key.out _ hlt (by rw [Hb.out]; exact e1.out) (.inl (by omega))
          clear hcs
          go_wp2_with go_skip
          all_goals (go_ret; exact ⟨by rw [HB.out]; rfl, Gx.refl _⟩)
        · -- 97 ≤ c ∧ 122 < c ∧ 0 < k
          have a2 : decide (97 ≤ c) = true := decide_eq_true (by omega)
          have a3 : decide (c ≤ 122) = false := decide_eq_false (by omega)
          have a4 : decide (48 ≤ c) = true := decide_eq_true (by omega)
          have a5 : decide (c ≤ 57) = false := decide_eq_false (by omega)
          have a6 : (c == 45) = false := by rw [beq_eq_false_iff_ne]; omega
          have e1 : Hid (letB c = false) := by show _ = _; rw [L1.out, a2, a3]; rfl
          have e2 : Hid (digB c = false) := by show _ = _; rw [L2.out, a4, a5]; rfl
          have a7 : 0 < k := by omega
          have a8 : decide (0 < k) = true := decide_eq_true a7
          have HB : Hid (nameT s = false) := by show _ = _; exact Key.out _ hlt (by rw [Hb.out]; exact e1.out) (.inr ⟨by rw [Hb.out]; exact e2.out, by rw [Hb.out]; exact a6⟩)
          clear hcs
          go_wp2_with go_skip
          all_goals (go_ret; exact ⟨by rw [HB.out]; rfl, Gx.refl _⟩)
        · -- c < 97 ∧ 48 ≤ c ∧ c ≤ 57 ∧ k = 0
          obtain rfl : k = 0 := by omega
          have a2 : decide (97 ≤ c) = false := decide_eq_false (by omega)
          have a4 : decide (48 ≤ c) = true := decide_eq_true (by omega)
          have a5 : decide (c ≤ 57) = true := decide_eq_true (by omega)
          have a6 : (c == 45) = false := by rw [beq_eq_false_iff_ne]; omega
          have e1 : Hid (letB c = false) := by show _ = _; rw [L1.out, a2]; simp
          have e2 : Hid (digB c = true) := by show _ = _; rw [L2.out, a4, a5]; rfl
          have HB : Hid (nameT s = false) := by show _ = _; exact Key.out _ hlt (by rw [Hb.out]; exact e1.out) (.inl (by omega))
          clear hcs
          go_wp2_with go_skip
          all_goals (go_ret; exact ⟨by rw [HB.out]; rfl, Gx.refl _⟩)
        · -- c < 97 ∧ 48 ≤ c ∧ c ≤ 57 ∧ 0 < k
          have a2 : decide (97 ≤ c) = false := decide_eq_false (by omega)
          have a4 : decide (48 ≤ c) = true := decide_eq_true (by omega)
          have a5 : decide (c ≤ 57) = true := decide_eq_true (by omega)
          have a6 : (c == 45) = false := by rw [beq_eq_false_iff_ne]; omega
          have e1 : Hid (letB c = false) := by show _ = _; rw [L1.out, a2]; simp
          have e2 : Hid (digB c = true) := by show _ = _; rw [L2.out, a4, a5]; rfl
          have a7 : 0 < k := by omega
          have a8 : decide (0 < k) = true := decide_eq_true a7
          have HN : Hid (okTo s (k + 1) = true) := by show _ = _; rw [HS.out, HC.out, e1.out, e2.out, a6]; rfl
          have HK := Lib.hid (show 0 < k by omega)
          clear hcs
          go_wp2_with go_skip
          go_round
          case rel => exact ⟨k + 1, by omega, by go_num, HN.out, fun _ => HZ.out HK.out⟩
          case measure => simp [intOf]; omega
        · -- c < 97 ∧ 57 < c ∧ k = 0
          obtain rfl : k = 0 := by omega
          have a2 : decide (97 ≤ c) = false := decide_eq_false (by omega)
          have a4 : decide (48 ≤ c) = true := decide_eq_true (by omega)
          have a5 : decide (c ≤ 57) = false := decide_eq_false (by omega)
          have a6 : (c == 45) = false := by rw [beq_eq_false_iff_ne]; omega
          have e1 : Hid (letB c = false) := by show _ = _; rw [L1.out, a2]; simp
          have e2 : Hid (digB c = false) := by show _ = _; rw [L2.out, a4, a5]; rfl
          have HB : Hid (nameT s = false) := by show _ = _; exact Key.out _ hlt (by rw [Hb.out]; exact e1.out) (.inl (by omega))
          clear hcs
          go_wp2_with go_skip
          all_goals (go_ret; exact ⟨by rw [HB.out]; rfl, Gx.refl _⟩)
        · -- c < 97 ∧ 57 < c ∧ 0 < k
          have a2 : decide (97 ≤ c) = false := decide_eq_false (by omega)
          have a4 : decide (48 ≤ c) = true := decide_eq_true (by omega)
          have a5 : decide (c ≤ 57) = false := decide_eq_false (by omega)
          have a6 : (c == 45) = false := by rw [beq_eq_false_iff_ne]; omega
          have e1 : Hid (letB c = false) := by show _ = _; rw [L1.out, a2]; simp
          have e2 : Hid (digB c = false) := by show _ = _; rw [L2.out, a4, a5]; rfl
          have a7 : 0 < k := by omega
          have a8 : decide (0 < k) = true := decide_eq_true a7
          have HB : Hid (nameT s = false) := by show _ = _; exact Key.out _ hlt (by rw [Hb.out]; exact e1.out) (.inr ⟨by rw [Hb.out]; exact e2.out, by rw [Hb.out]; exact a6⟩)
          clear hcs
          go_wp2_with go_skip
          all_goals (go_ret; exact ⟨by rw [HB.out]; rfl, Gx.refl _⟩)
        · -- c < 48 ∧ c ≠ 45 ∧ k = 0
          obtain rfl : k = 0 := by omega
          have a2 : decide (97 ≤ c) = false := decide_eq_false (by omega)
          have a4 : decide (48 ≤ c) = false := decide_eq_false (by omega)
          have a6 : (c == 45) = false := by rw [beq_eq_false_iff_ne]; omega
          have e1 : Hid (letB c = false) := by show _ = _; rw [L1.out, a2]; simp
          have e2 : Hid (digB c = false) := by show _ = _; rw [L2.out, a4]; simp
          have HB : Hid (nameT s = false) := by show _ = _; exact Key.out _ hlt (by rw [Hb.out]; exact e1.out) (.inl (by omega))
          clear hcs
          go_wp2_with go_skip
          all_goals (go_ret; exact ⟨by rw [HB.out]; rfl, Gx.refl _⟩)
        · -- c = 45 ∧ k = 0
          obtain rfl : k = 0 := by omega
          have a2 : decide (97 ≤ c) = false := decide_eq_false (by omega)
          have a4 : decide (48 ≤ c) = false := decide_eq_false (by omega)
          have a6 : (c == 45) = true := by rw [beq_iff_eq]; omega
          have e1 : Hid (letB c = false) := by show _ = _; rw [L1.out, a2]; simp
          have e2 : Hid (digB c = false) := by show _ = _; rw [L2.out, a4]; simp
          have HB : Hid (nameT s = false) := by show _ = _; exact Key.out _ hlt (by rw [Hb.out]; exact e1.out) (.inl (by omega))
          clear hcs
          go_wp2_with go_skip
          all_goals (go_ret; exact ⟨by rw [HB.out]; rfl, Gx.refl _⟩)
        · -- c = 45 ∧ 0 < k
          have a2 : decide (97 ≤ c) = false := decide_eq_false (by omega)
          have a4 : decide (48 ≤ c) = false := decide_eq_false (by omega)
          have a6 : (c == 45) = true := by rw [beq_iff_eq]; omega
          have e1 : Hid (letB c = false) := by show _ = _; rw [L1.out, a2]; simp
          have e2 : Hid (digB c = false) := by show _ = _; rw [L2.out, a4]; simp
          have a7 : 0 < k := by omega
          have a8 : decide (0 < k) = true := decide_eq_true a7
          have HN : Hid (okTo s (k + 1) = true) := by show _ = _; rw [HS.out, HC.out, e1.out, e2.out, a6]; rfl
          have HK := Lib.hid (show 0 < k by omega)
          clear hcs
          go_wp2_with go_skip
          go_round
          case rel => exact ⟨k + 1, by omega, by go_num, HN.out, fun _ => HZ.out HK.out⟩
          case measure => simp [intOf]; omega
        · -- c < 48 ∧ c ≠ 45 ∧ 0 < k
          have a2 : decide (97 ≤ c) = false := decide_eq_false (by omega)
          have a4 : decide (48 ≤ c) = false := decide_eq_false (by omega)
          have a6 : (c == 45) = false := by rw [beq_eq_false_iff_ne]; omega
          have e1 : Hid (letB c = false) := by show _ = _; rw [L1.out, a2]; simp
          have e2 : Hid (digB c = false) := by show _ = _; rw [L2.out, a4]; simp
          have a7 : 0 < k := by omega
          have a8 : decide (0 < k) = true := decide_eq_true a7
          have HB : Hid (nameT s = false) := by show _ = _; exact Key.out _ hlt (by rw [Hb.out]; exact e1.out) (.inr ⟨by rw [Hb.out]; exact e2.out, by rw [Hb.out]; exact a6⟩)
          clear hcs
          go_wp2_with go_skip
          all_goals (go_ret; exact ⟨by rw [HB.out]; rfl, Gx.refl _⟩)
    · obtain rfl : k = s.size := by omega
      have hf := Key2.out HO.out HZ.out
      have HF := Lib.hid hf
      have HW := Lib.hid (fun W => Reserved_any s W)
      clear hf
      generalize wordB s = V at *
      by_cases y : 1 ≤ s.size
      · have y1 : decide (1 ≤ (s.size : Int)) = true := decide_eq_true (by omega)
        have y0 : s.toList ≠ [] := fun e => by
          have h : s.toList.length = 0 := by rw [e]; rfl
          rw [ByteArray.toList_eq, Array.length_toList] at h
          have h2 : s.data.size = s.size := rfl
          omega
        have y2 : (s.toList == []) = false := beq_eq_false_iff_ne.2 y0
        have y3 : (s.toList != []) = true := by rw [bne, y2]; rfl
        have y6 : s.toList.isEmpty = false := by cases h : s.toList with | nil => exact absurd h y0 | cons a l => rfl
        clear y0
        by_cases z : s.size ≤ 30
        · have y4 : decide ((s.size : Int) ≤ 30) = true := decide_eq_true (by omega)
          go_wp2_with (first | go_skip | (go_at_call 26; refine (HW.out _).mono ?_; rintro e w' ⟨rfl, x1, rfl⟩))
          go_ret
          exact ⟨by rw [HF.out, y1, y4]; rfl, (by repeat (first | (with_reducible exact Gx.refl _) | (with_reducible assumption) | (with_reducible refine Gx.gx ?_) | (with_reducible refine Gx.alloc ?_) | (with_reducible refine Gx.drew ?_) | (with_reducible refine Gx.drewN ?_) | (with_reducible refine Gx.setRow ?_ (by first | omega | (simp; done) | (simp <;> omega))) | (with_reducible refine Gx.setCell ?_ (by first | omega | (simp; done) | (simp <;> omega)))))⟩
        · have y4 : decide ((s.size : Int) ≤ 30) = false := decide_eq_false (by omega)
          go_wp2_with go_skip
          go_ret
          exact ⟨by rw [HF.out, y1, y4]; rfl, Gx.refl _⟩
      · have y1 : decide (1 ≤ (s.size : Int)) = false := decide_eq_false (by omega)
        have y0 : s.toList = [] := by
          apply List.eq_nil_of_length_eq_zero
          rw [ByteArray.toList_eq, Array.length_toList]
          show s.size = 0
          omega
        have y2 : (s.toList == []) = true := by rw [y0]; rfl
        have y3 : (s.toList != []) = false := by rw [bne, y2]; rfl
        have y6 : s.toList.isEmpty = true := by rw [y0]; rfl
        clear y0
        go_wp2_with go_skip
        go_ret
        exact ⟨by rw [HF.out, y1]; rfl, Gx.refl _⟩
end Go.Proofs.Ytfbhjgaiejjfaaa
