/-
  Texts that this claim leans on, merged: PRNm2, PCt, PNd.
-/
import Derived.Deep.RegionWith
import Derived.Test.YtocaphcnnmcnjaaGreatDoorM9
import Derived.Test.YtocaphcnnmcnjaaGreatDoorM2

/-
  Names of tracks: the reference's IsName at every text (second part).
-/
namespace Go.Proofs.YtocaphcnnmcnjaaGreatDoor
open Go.RowKit
-- AT2
-- AT3

set_option maxHeartbeats 2000000 in
set_option maxRecDepth 100000 in
theorem RIsNameT_any (s : ByteArray) (hs : s.size ≤ 9223372036854775807) (w : World) : Calls Tryz.prog 73 #[.string s] w fun e w' => e = .returned (.bool (nameT s)) ∧ ∃ x, w' = gx w x := by
  have key : ∀ k, k < s.size → letB (bt s k) = false → (k = 0 ∨ (digB (bt s k) = false ∧ (bt s k == 45) = false)) → nameT s = false := fun k hk e h => by
    unfold nameT
    rcases h with rfl | ⟨h1, h2⟩
    · rw [e]; simp
    · rw [okTo_mono s (k + 1) s.size (by omega) (by rw [okTo]; unfold chB; rw [e, h1, h2]; simp)]; simp
  have key2 : okTo s s.size = true → (0 < s.size → letB (bt s 0) = true) → nameT s = (decide (1 ≤ (s.size : Int)) && decide ((s.size : Int) ≤ 30) && !wordB s) := fun h1 h2 => by
    unfold nameT
    rw [h1]
    by_cases h0 : 1 ≤ s.size
    · rw [h2 (by omega), decide_eq_true h0, decide_eq_true (show 1 ≤ (s.size : Int) by omega)]
      by_cases h30 : s.size ≤ 30
      · rw [decide_eq_true h30, decide_eq_true (show (s.size : Int) ≤ 30 by omega)]; rfl
      · rw [decide_eq_false h30, decide_eq_false (show ¬ (s.size : Int) ≤ 30 by omega)]; rfl
    · rw [decide_eq_false h0, decide_eq_false (show ¬ 1 ≤ (s.size : Int) by omega)]
      rfl
  have Key := Lib.hid key
  have Key2 := Lib.hid key2
  clear key key2
  go_enter Tryz.func73, Tryz.ntmps73
  go_wp2
  go_loop [3] (fun i => ∃ k : Nat, k ≤ s.size ∧ i = .int .i64 k ∧ okTo s k = true ∧ (0 < k → letB (bt s 0) = true)) (fun i => s.size - (intOf i).toNat)
  case atStart => exact ⟨0, Nat.zero_le _, rfl, rfl, fun h => absurd h (Nat.lt_irrefl _)⟩
  case round =>
    obtain ⟨k, hk, rfl, ho, hz⟩ := hrel
    have HO := Lib.hid ho
    have HZ := Lib.hid hz
    clear ho hz
    by_cases hlt : k < s.size
    · have gk := bt_get s k hlt
      have l1 : letB (bt s k) = (decide (97 ≤ bt s k) && decide (bt s k ≤ 122)) := by unfold letB; rfl
      have l2 : digB (bt s k) = (decide (48 ≤ bt s k) && decide (bt s k ≤ 57)) := by unfold digB; rfl
      have hs1 : okTo s (k + 1) = chB (bt s k) := by rw [okTo, HO.out]; rfl
      have hc : chB (bt s k) = (letB (bt s k) || digB (bt s k) || bt s k == 45) := rfl
      have HS := Lib.hid hs1
      have HC := Lib.hid hc
      have L1 := Lib.hid l1
      have L2 := Lib.hid l2
      clear hs1 hc l1 l2
      generalize hb : bt s k = c at *
      have Hb := Lib.hid hb
      clear hb
      by_cases a1 : 97 ≤ c ∧ c ≤ 122
      · have a2 : decide (97 ≤ c) = true := decide_eq_true a1.1
        have a3 : decide (c ≤ 122) = true := decide_eq_true a1.2
        have e1 : Hid (letB c = true) := by show _ = _; rw [L1.out, a2, a3]; rfl
        have HN : Hid (okTo s (k + 1) = true) := by show _ = _; rw [HS.out, HC.out, e1.out]; rfl
        clear a1
        go_wp2_with go_skip
        go_round
        case rel => exact ⟨k + 1, by omega, by go_num, HN.out, fun _ => by
          by_cases e : k = 0
          · subst e; rw [Hb.out]; exact e1.out
          · exact HZ.out (by omega)⟩
        case measure => simp [intOf]; omega
      · have hw : (97 ≤ c ∧ 122 < c ∧ k = 0) ∨ (97 ≤ c ∧ 122 < c ∧ 0 < k) ∨ (c < 97 ∧ 48 ≤ c ∧ c ≤ 57 ∧ k = 0) ∨ (c < 97 ∧ 48 ≤ c ∧ c ≤ 57 ∧ 0 < k) ∨ (c < 97 ∧ 57 < c ∧ k = 0) ∨ (c < 97 ∧ 57 < c ∧ 0 < k) ∨ (c < 48 ∧ c ≠ 45 ∧ k = 0) ∨ (c = 45 ∧ k = 0) ∨ (c = 45 ∧ 0 < k) ∨ (c < 48 ∧ c ≠ 45 ∧ 0 < k) := by omega
        clear a1
        rcases hw with hcs | hcs | hcs | hcs | hcs | hcs | hcs | hcs | hcs | hcs
        · -- 97 ≤ c ∧ 122 < c ∧ k = 0
          obtain rfl : k = 0 := by omega
          have a2 : decide (97 ≤ c) = true := decide_eq_true (by omega)
          have a3 : decide (c ≤ 122) = false := decide_eq_false (by omega)
          have a4 : decide (48 ≤ c) = true := decide_eq_true (by omega)
          have a5 : decide (c ≤ 57) = false := decide_eq_false (by omega)
          have a6 : (c == 45) = false := by rw [beq_eq_false_iff_ne]; omega
          have e1 : Hid (letB c = false) := by show _ = _; rw [L1.out, a2, a3]; rfl
          have e2 : Hid (digB c = false) := by show _ = _; rw [L2.out, a4, a5]; rfl
          have HB : Hid (nameT s = false) := by show _ = _; exact Key.out _ hlt (by rw [Hb.out]; exact e1.out) (.inl (by omega))
          clear hcs
          go_wp2_with go_skip
          all_goals (go_ret; exact ⟨by rw [HB.out]; rfl, Gx.refl _⟩)
        · -- 97 ≤ c ∧ 122 < c ∧ 0 < k
          have a2 : decide (97 ≤ c) = true := decide_eq_true (by omega)
          have a3 : decide (c ≤ 122) = false := decide_eq_false (by omega)
          have a4 : decide (48 ≤ c) = true := decide_eq_true (by omega)
          have a5 : decide (c ≤ 57) = false := decide_eq_false (by omega)
          have a6 : (c == 45) = false := by rw [beq_eq_false_iff_ne]; omega
          have e1 : Hid (letB c = false) := by show _ = _; rw [L1.out, a2, a3]; rfl
          have e2 : Hid (digB c = false) := by show _ = _; rw [L2.out, a4, a5]; rfl
          have a7 : 0 < k := by omega
          have a8 : decide (0 < k) = true := decide_eq_true a7
          have HB : Hid (nameT s = false) := by show _ = _; exact Key.out _ hlt (by rw [Hb.out]; exact e1.out) (.inr ⟨by rw [Hb.out]; exact e2.out, by rw [Hb.out]; exact a6⟩)
          clear hcs
          go_wp2_with go_skip
          all_goals (go_ret; exact ⟨by rw [HB.out]; rfl, Gx.refl _⟩)
        · -- c < 97 ∧ 48 ≤ c ∧ c ≤ 57 ∧ k = 0
          obtain rfl : k = 0 := by omega
          have a2 : decide (97 ≤ c) = false := decide_eq_false (by omega)
          have a4 : decide (48 ≤ c) = true := decide_eq_true (by omega)
          have a5 : decide (c ≤ 57) = true := decide_eq_true (by omega)
          have a6 : (c == 45) = false := by rw [beq_eq_false_iff_ne]; omega
          have e1 : Hid (letB c = false) := by show _ = _; rw [L1.out, a2]; simp
          have e2 : Hid (digB c = true) := by show _ = _; rw [L2.out, a4, a5]; rfl
          have HB : Hid (nameT s = false) := by show _ = _; exact Key.out _ hlt (by rw [Hb.out]; exact e1.out) (.inl (by omega))
          clear hcs
          go_wp2_with go_skip
          all_goals (go_ret; exact ⟨by rw [HB.out]; rfl, Gx.refl _⟩)
        · -- c < 97 ∧ 48 ≤ c ∧ c ≤ 57 ∧ 0 < k
          have a2 : decide (97 ≤ c) = false := decide_eq_false (by omega)
          have a4 : decide (48 ≤ c) = true := decide_eq_true (by omega)
          have a5 : decide (c ≤ 57) = true := decide_eq_true (by omega)
          have a6 : (c == 45) = false := by rw [beq_eq_false_iff_ne]; omega
          have e1 : Hid (letB c = false) := by show _ = _; rw [L1.out, a2]; simp
          have e2 : Hid (digB c = true) := by show _ = _; rw [L2.out, a4, a5]; rfl
          have a7 : 0 < k := by omega
          have a8 : decide (0 < k) = true := decide_eq_true a7
          have HN : Hid (okTo s (k + 1) = true) := by show _ = _; rw [HS.out, HC.out, e1.out, e2.out, a6]; rfl
          have HK := Lib.hid (show 0 < k by omega)
          clear hcs
          go_wp2_with go_skip
          go_round
          case rel => exact ⟨k + 1, by omega, by go_num, HN.out, fun _ => HZ.out HK.out⟩
          case measure => simp [intOf]; omega
        · -- c < 97 ∧ 57 < c ∧ k = 0
          obtain rfl : k = 0 := by omega
          have a2 : decide (97 ≤ c) = false := decide_eq_false (by omega)
          have a4 : decide (48 ≤ c) = true := decide_eq_true (by omega)
          have a5 : decide (c ≤ 57) = false := decide_eq_false (by omega)
          have a6 : (c == 45) = false := by rw [beq_eq_false_iff_ne]; omega
          have e1 : Hid (letB c = false) := by show _ = _; rw [L1.out, a2]; simp
          have e2 : Hid (digB c = false) := by show _ = _; rw [L2.out, a4, a5]; rfl
          have HB : Hid (nameT s = false) := by show _ = _; exact Key.out _ hlt (by rw [Hb.out]; exact e1.out) (.inl (by omega))
          clear hcs
          go_wp2_with go_skip
          all_goals (go_ret; exact ⟨by rw [HB.out]; rfl, Gx.refl _⟩)
        · -- c < 97 ∧ 57 < c ∧ 0 < k
          have a2 : decide (97 ≤ c) = false := decide_eq_false (by omega)
          have a4 : decide (48 ≤ c) = true := decide_eq_true (by omega)
          have a5 : decide (c ≤ 57) = false := decide_eq_false (by omega)
          have a6 : (c == 45) = false := by rw [beq_eq_false_iff_ne]; omega
          have e1 : Hid (letB c = false) := by show _ = _; rw [L1.out, a2]; simp
          have e2 : Hid (digB c = false) := by show _ = _; rw [L2.out, a4, a5]; rfl
          have a7 : 0 < k := by omega
          have a8 : decide (0 < k) = true := decide_eq_true a7
          have HB : Hid (nameT s = false) := by show _ = _; exact Key.out _ hlt (by rw [Hb.out]; exact e1.out) (.inr ⟨by rw [Hb.out]; exact e2.out, by rw [Hb.out]; exact a6⟩)
          clear hcs
          go_wp2_with go_skip
          all_goals (go_ret; exact ⟨by rw [HB.out]; rfl, Gx.refl _⟩)
        · -- c < 48 ∧ c ≠ 45 ∧ k = 0
          obtain rfl : k = 0 := by omega
          have a2 : decide (97 ≤ c) = false := decide_eq_false (by omega)
          have a4 : decide (48 ≤ c) = false := decide_eq_false (by omega)
          have a6 : (c == 45) = false := by rw [beq_eq_false_iff_ne]; omega
          have e1 : Hid (letB c = false) := by show _ = _; rw [L1.out, a2]; simp
          have e2 : Hid (digB c = false) := by show _ = _; rw [L2.out, a4]; simp
          have HB : Hid (nameT s = false) := by show _ = _; exact Key.out _ hlt (by rw [Hb.out]; exact e1.out) (.inl (by omega))
          clear hcs
          go_wp2_with go_skip
          all_goals (go_ret; exact ⟨by rw [HB.out]; rfl, Gx.refl _⟩)
        · -- c = 45 ∧ k = 0
          obtain rfl : k = 0 := by omega
          have a2 : decide (97 ≤ c) = false := decide_eq_false (by omega)
          have a4 : decide (48 ≤ c) = false := decide_eq_false (by omega)
          have a6 : (c == 45) = true := by rw [beq_iff_eq]; omega
          have e1 : Hid (letB c = false) := by show _ = _; rw [L1.out, a2]; simp
          have e2 : Hid (digB c = false) := by show _ = _; rw [L2.out, a4]; simp
          have HB : Hid (nameT s = false) := by show _ = _; exact Key.out _ hlt (by rw [Hb.out]; exact e1.out) (.inl (by omega))
          clear hcs
          go_wp2_with go_skip
          all_goals (go_ret; exact ⟨by rw [HB.out]; rfl, Gx.refl _⟩)
        · -- c = 45 ∧ 0 < k
          have a2 : decide (97 ≤ c) = false := decide_eq_false (by omega)
          have a4 : decide (48 ≤ c) = false := decide_eq_false (by omega)
          have a6 : (c == 45) = true := by rw [beq_iff_eq]; omega
          have e1 : Hid (letB c = false) := by show _ = _; rw [L1.out, a2]; simp
          have e2 : Hid (digB c = false) := by show _ = _; rw [L2.out, a4]; simp
          have a7 : 0 < k := by omega
          have a8 : decide (0 < k) = true := decide_eq_true a7
          have HN : Hid (okTo s (k + 1) = true) := by show _ = _; rw [HS.out, HC.out, e1.out, e2.out, a6]; rfl
          have HK := Lib.hid (show 0 < k by omega)
          clear hcs
          go_wp2_with go_skip
          go_round
          case rel => exact ⟨k + 1, by omega, by go_num, HN.out, fun _ => HZ.out HK.out⟩
          case measure => simp [intOf]; omega
        · -- c < 48 ∧ c ≠ 45 ∧ 0 < k
          have a2 : decide (97 ≤ c) = false := decide_eq_false (by omega)
          have a4 : decide (48 ≤ c) = false := decide_eq_false (by omega)
          have a6 : (c == 45) = false := by rw [beq_eq_false_iff_ne]; omega
          have e1 : Hid (letB c = false) := by show _ = _; rw [L1.out, a2]; simp
          have e2 : Hid (digB c = false) := by show _ = _; rw [L2.out, a4]; simp
          have a7 : 0 < k := by omega
          have a8 : decide (0 < k) = true := decide_eq_true a7
          have HB : Hid (nameT s = false) := by show _ = _; exact Key.out _ hlt (by rw [Hb.out]; exact e1.out) (.inr ⟨by rw [Hb.out]; exact e2.out, by rw [Hb.out]; exact a6⟩)
          clear hcs
          go_wp2_with go_skip
          all_goals (go_ret; exact ⟨by rw [HB.out]; rfl, Gx.refl _⟩)
    · obtain rfl : k = s.size := by omega
      have hf := Key2.out HO.out HZ.out
      have HF := Lib.hid hf
      have HW := Lib.hid (fun W => Reserved_any s W)
      clear hf
      generalize wordB s = V at *
      by_cases y : 1 ≤ s.size
      · have y1 : decide (1 ≤ (s.size : Int)) = true := decide_eq_true (by omega)
        have y0 : s.toList ≠ [] := fun e => by
          have h : s.toList.length = 0 := by rw [e]; rfl
          rw [ByteArray.toList_eq, Array.length_toList] at h
          have h2 : s.data.size = s.size := rfl
          omega
        have y2 : (s.toList == []) = false := beq_eq_false_iff_ne.2 y0
        have y3 : (s.toList != []) = true := by rw [bne, y2]; rfl
        have y6 : s.toList.isEmpty = false := by cases h : s.toList with | nil => exact absurd h y0 | cons a l => rfl
        clear y0
        by_cases z : s.size ≤ 30
        · have y4 : decide ((s.size : Int) ≤ 30) = true := decide_eq_true (by omega)
          go_wp2_with (first | go_skip | (go_at_call 104; refine (HW.out _).mono ?_; rintro e w' ⟨rfl, x1, rfl⟩))
          go_ret
          exact ⟨by rw [HF.out, y1, y4]; rfl, (by repeat (first | (with_reducible exact Gx.refl _) | (with_reducible assumption) | (with_reducible refine Gx.gx ?_) | (with_reducible refine Gx.alloc ?_) | (with_reducible refine Gx.drew ?_) | (with_reducible refine Gx.drewN ?_) | (with_reducible refine Gx.setRow ?_ (by first | omega | (simp; done) | (simp <;> omega))) | (with_reducible refine Gx.setCell ?_ (by first | omega | (simp; done) | (simp <;> omega)))))⟩
        · have y4 : decide ((s.size : Int) ≤ 30) = false := decide_eq_false (by omega)
          go_wp2_with go_skip
          go_ret
          exact ⟨by rw [HF.out, y1, y4]; rfl, Gx.refl _⟩
      · have y1 : decide (1 ≤ (s.size : Int)) = false := decide_eq_false (by omega)
        have y0 : s.toList = [] := by
          apply List.eq_nil_of_length_eq_zero
          rw [ByteArray.toList_eq, Array.length_toList]
          show s.size = 0
          omega
        have y2 : (s.toList == []) = true := by rw [y0]; rfl
        have y3 : (s.toList != []) = false := by rw [bne, y2]; rfl
        have y6 : s.toList.isEmpty = true := by rw [y0]; rfl
        clear y0
        go_wp2_with go_skip
        go_ret
        exact ⟨by rw [HF.out, y1]; rfl, Gx.refl _⟩
end Go.Proofs.YtocaphcnnmcnjaaGreatDoor

/-
  CheckTracks of one track: both sides.
-/
namespace Go.Proofs.YtocaphcnnmcnjaaGreatDoor
open Go.RowKit
-- AT2
-- AT3

/-- One track, of any name, lies in a block. -/
structure TkAt (w : World) (b : Nat) (s : ByteArray) (den : Int) (A : Option Addr) (n c : Nat) (lg : Int) : Prop where
  c0 : w.cell? ⟨b, 0, none⟩ = some (.string s)
  c1 : w.cell? ⟨b, 1, none⟩ = some (.int .i64 den)
  c2 : w.cell? ⟨b, 2, none⟩ = some (.slice A n c)
  c3 : w.cell? ⟨b, 3, none⟩ = some (.int .i64 lg)
theorem ne0t {q : Int} (h : q ≠ 0) : decide (q = 0) = false := decide_eq_false h
theorem beq0 {q : Int} (h : q ≠ 0) : (q == 0) = false := beq_eq_false_iff_ne.2 h
theorem bne0 {q : Int} (h : q ≠ 0) : (q != 0) = true := by rw [bne, beq0 h]; rfl
theorem outsideE_any (n lo hi : Int) (b : Bool) (hb : (b = false ∧ lo ≤ n ∧ n ≤ hi) ∨ (b = true ∧ n < lo) ∨ (b = true ∧ lo ≤ n ∧ hi < n)) (w : World) : Calls Tryz.prog 75 #[.int .i64 n, .int .i64 lo, .int .i64 hi] w fun e w' => e = .returned (.bool b) ∧ w = w' := by
  rcases hb with ⟨rfl, h1, h2⟩ | ⟨rfl, h1⟩ | ⟨rfl, h1, h2⟩
  · have k1 : decide (n < lo) = false := decide_eq_false (by omega)
    have k2 : decide (hi < n) = false := decide_eq_false (by omega)
    clear h1 h2
    go_enter Tryz.func75, Tryz.ntmps75
    go_wp2_with go_skip
    go_ret
    exact ⟨rfl, rfl⟩
  · have k1 : decide (n < lo) = true := decide_eq_true h1
    clear h1
    go_enter Tryz.func75, Tryz.ntmps75
    go_wp2_with go_skip
    go_ret
    exact ⟨rfl, rfl⟩
  · have k1 : decide (n < lo) = false := decide_eq_false (by omega)
    have k2 : decide (hi < n) = true := decide_eq_true h2
    clear h1 h2
    go_enter Tryz.func75, Tryz.ntmps75
    go_wp2_with go_skip
    go_ret
    exact ⟨rfl, rfl⟩
/-- What is wrong with one track. -/
@[irreducible] def tkE (N : Bool) (Q lg : Int) : Int := if N = false then 8 else if Q ≠ 0 then Q else if 0 ≤ lg ∧ lg ≤ 1099511627776 then 0 else 9
theorem tkE_ways (N : Bool) (Q lg : Int) : (N = false ∧ tkE N Q lg = 8) ∨ (N = true ∧ Q ≠ 0 ∧ tkE N Q lg = Q) ∨ (N = true ∧ Q = 0 ∧ lg < 0 ∧ tkE N Q lg = 9) ∨ (N = true ∧ Q = 0 ∧ 0 ≤ lg ∧ 1099511627776 < lg ∧ tkE N Q lg = 9) ∨ (N = true ∧ Q = 0 ∧ 0 ≤ lg ∧ lg ≤ 1099511627776 ∧ tkE N Q lg = 0) := by
  unfold tkE
  cases N with
  | false => exact .inl ⟨rfl, by simp⟩
  | true =>
    by_cases h : Q = 0
    · subst h
      by_cases h1 : 0 ≤ lg
      · by_cases h2 : lg ≤ 1099511627776
        · exact .inr (.inr (.inr (.inr ⟨rfl, rfl, h1, h2, by simp [h1, h2]⟩)))
        · exact .inr (.inr (.inr (.inl ⟨rfl, rfl, h1, by omega, by simp [h2]⟩)))
      · exact .inr (.inr (.inl ⟨rfl, rfl, by omega, by simp [h1]⟩))
    · exact .inr (.inl ⟨rfl, h, by simp [h]⟩)
set_option maxHeartbeats 4000000 in
set_option maxRecDepth 100000 in
theorem CheckTracksT (s : ByteArray) (hs : s.size ≤ 9223372036854775807) (b cc : Nat) (den : Int) (A : Option Addr) (n c : Nat) (lg : Int) (f : Nat → Sm) (w : World) (h : TkAt w b s den A n c lg) (hL : SmAt w f n A) :
    Calls Tryz.prog 41 #[.slice (some ⟨b, 0, none⟩) 1 cc] w fun e w' => e = .returned (.int .i64 (tkE (nameT s) (serE den f n) lg)) ∧ ∃ x, w' = gx w x := by
  have HC := Lib.hid (fun W (hW : ∃ x, W = gx w x) => (Check_any den f n c A W (by obtain ⟨x, rfl⟩ := hW; exact hL.gx)))
  have HN := Lib.hid (fun W => IsNameE_any s hs W)
  have hb : b < w.heap.size := World.block_lt_of_cell? w _ h.c0
  obtain ⟨h0', h1, h2, h3⟩ := h
  have hw := tkE_ways (nameT s) (serE den f n) lg
  generalize tkE (nameT s) (serE den f n) lg = E at *
  generalize nameT s = N at *
  generalize serE den f n = Q at *
  clear hL hs
  rcases hw with ⟨hN, hE⟩ | ⟨hN, q1, hE⟩ | ⟨hN, q1, q2, hE⟩ | ⟨hN, q1, q2, q3, hE⟩ | ⟨hN, q1, q2, q3, hE⟩
  · subst hE
    subst hN
    go_enter Tryz.func41, Tryz.ntmps41
    go_wp2
    refine wp_loop_rounds 2 ?_
    rw [rounds_succ]
    go_wp2_with (first | go_skip | (go_at_call 69; refine (HN.out _).mono ?_; rintro e w' ⟨rfl, rfl⟩))
    go_ret
    exact ⟨rfl, (by repeat (first | (with_reducible exact Gx.refl _) | (with_reducible assumption) | (with_reducible refine Gx.gx ?_) | (with_reducible refine Gx.alloc ?_) | (with_reducible refine Gx.drew ?_) | (with_reducible refine Gx.drewN ?_) | (with_reducible refine Gx.setRow ?_ (by first | omega | (simp; done) | (simp <;> omega))) | (with_reducible refine Gx.setCell ?_ (by first | omega | (simp; done) | (simp <;> omega)))))⟩
  · subst hE
    subst hN
    have k0 : (E == 0) = false := beq0 q1
    have k1 : (E != 0) = true := bne0 q1
    have k2 : decide (E = 0) = false := ne0t q1
    have k3 : ¬ E = 0 := q1
    clear q1
    go_enter Tryz.func41, Tryz.ntmps41
    go_wp2
    refine wp_loop_rounds 2 ?_
    rw [rounds_succ]
    go_wp2_with (first | go_skip | (go_at_call 69; refine (HN.out _).mono ?_; rintro e w' ⟨rfl, rfl⟩))
    go_region_held3 (fun W => (∃ x, W = gx w x) ∧ W.cell? ⟨w.heap.size, 0, none⟩ = some (.string s) ∧ W.cell? ⟨w.heap.size, 1, none⟩ = some (.int .i64 den) ∧ W.cell? ⟨w.heap.size, 2, none⟩ = some (.slice A n c) ∧ W.cell? ⟨w.heap.size, 3, none⟩ = some (.int .i64 lg))
      (refine ⟨(by repeat (first | (with_reducible exact Gx.refl _) | (with_reducible assumption) | (with_reducible refine Gx.gx ?_) | (with_reducible refine Gx.alloc ?_) | (with_reducible refine Gx.drew ?_) | (with_reducible refine Gx.drewN ?_) | (with_reducible refine Gx.setRow ?_ (by first | omega | (simp; done) | (simp <;> omega))) | (with_reducible refine Gx.setCell ?_ (by first | omega | (simp; done) | (simp <;> omega))))), ?_, ?_, ?_, ?_⟩ <;> first | assumption | exact cell_keep_gx ‹_› | go_keep | (simp [go_sem]; done))
      (first | (go_at_call 70; refine (TrackNumber_none _ _ _ _).mono ?_; rintro e w' ⟨rfl, x2, rfl⟩))
    all_goals go_wp2_with (first | go_skip | (go_at_call 71; refine (HC.out _ (by repeat (first | (with_reducible exact Gx.refl _) | (with_reducible assumption) | (with_reducible refine Gx.gx ?_) | (with_reducible refine Gx.alloc ?_) | (with_reducible refine Gx.drew ?_) | (with_reducible refine Gx.drewN ?_) | (with_reducible refine Gx.setRow ?_ (by first | omega | (simp; done) | (simp <;> omega))) | (with_reducible refine Gx.setCell ?_ (by first | omega | (simp; done) | (simp <;> omega)))))).mono ?_; rintro e w' ⟨rfl, x3, rfl⟩))
    all_goals go_ret
    all_goals exact ⟨rfl, (by repeat (first | (with_reducible exact Gx.refl _) | (with_reducible assumption) | (with_reducible refine Gx.gx ?_) | (with_reducible refine Gx.alloc ?_) | (with_reducible refine Gx.drew ?_) | (with_reducible refine Gx.drewN ?_) | (with_reducible refine Gx.setRow ?_ (by first | omega | (simp; done) | (simp <;> omega))) | (with_reducible refine Gx.setCell ?_ (by first | omega | (simp; done) | (simp <;> omega)))))⟩
  · subst hE
    subst hN
    subst q1
    have k0 : decide (lg < 0) = true := decide_eq_true q2
    clear q2
    go_enter Tryz.func41, Tryz.ntmps41
    go_wp2
    refine wp_loop_rounds 2 ?_
    rw [rounds_succ]
    go_wp2_with (first | go_skip | (go_at_call 69; refine (HN.out _).mono ?_; rintro e w' ⟨rfl, rfl⟩))
    go_region_held3 (fun W => (∃ x, W = gx w x) ∧ W.cell? ⟨w.heap.size, 0, none⟩ = some (.string s) ∧ W.cell? ⟨w.heap.size, 1, none⟩ = some (.int .i64 den) ∧ W.cell? ⟨w.heap.size, 2, none⟩ = some (.slice A n c) ∧ W.cell? ⟨w.heap.size, 3, none⟩ = some (.int .i64 lg))
      (refine ⟨(by repeat (first | (with_reducible exact Gx.refl _) | (with_reducible assumption) | (with_reducible refine Gx.gx ?_) | (with_reducible refine Gx.alloc ?_) | (with_reducible refine Gx.drew ?_) | (with_reducible refine Gx.drewN ?_) | (with_reducible refine Gx.setRow ?_ (by first | omega | (simp; done) | (simp <;> omega))) | (with_reducible refine Gx.setCell ?_ (by first | omega | (simp; done) | (simp <;> omega))))), ?_, ?_, ?_, ?_⟩ <;> first | assumption | exact cell_keep_gx ‹_› | go_keep | (simp [go_sem]; done))
      (first | (go_at_call 70; refine (TrackNumber_none _ _ _ _).mono ?_; rintro e w' ⟨rfl, x2, rfl⟩))
    all_goals go_wp2_with (first | go_skip | (go_at_call 71; refine (HC.out _ (by repeat (first | (with_reducible exact Gx.refl _) | (with_reducible assumption) | (with_reducible refine Gx.gx ?_) | (with_reducible refine Gx.alloc ?_) | (with_reducible refine Gx.drew ?_) | (with_reducible refine Gx.drewN ?_) | (with_reducible refine Gx.setRow ?_ (by first | omega | (simp; done) | (simp <;> omega))) | (with_reducible refine Gx.setCell ?_ (by first | omega | (simp; done) | (simp <;> omega)))))).mono ?_; rintro e w' ⟨rfl, x3, rfl⟩))
    all_goals go_ret
    all_goals exact ⟨rfl, (by repeat (first | (with_reducible exact Gx.refl _) | (with_reducible assumption) | (with_reducible refine Gx.gx ?_) | (with_reducible refine Gx.alloc ?_) | (with_reducible refine Gx.drew ?_) | (with_reducible refine Gx.drewN ?_) | (with_reducible refine Gx.setRow ?_ (by first | omega | (simp; done) | (simp <;> omega))) | (with_reducible refine Gx.setCell ?_ (by first | omega | (simp; done) | (simp <;> omega)))))⟩
  · subst hE
    subst hN
    subst q1
    have k0 : decide (lg < 0) = false := decide_eq_false (by omega)
    have k1 : decide (1099511627776 < lg) = true := decide_eq_true q3
    clear q2 q3
    go_enter Tryz.func41, Tryz.ntmps41
    go_wp2
    refine wp_loop_rounds 2 ?_
    rw [rounds_succ]
    go_wp2_with (first | go_skip | (go_at_call 69; refine (HN.out _).mono ?_; rintro e w' ⟨rfl, rfl⟩))
    go_region_held3 (fun W => (∃ x, W = gx w x) ∧ W.cell? ⟨w.heap.size, 0, none⟩ = some (.string s) ∧ W.cell? ⟨w.heap.size, 1, none⟩ = some (.int .i64 den) ∧ W.cell? ⟨w.heap.size, 2, none⟩ = some (.slice A n c) ∧ W.cell? ⟨w.heap.size, 3, none⟩ = some (.int .i64 lg))
      (refine ⟨(by repeat (first | (with_reducible exact Gx.refl _) | (with_reducible assumption) | (with_reducible refine Gx.gx ?_) | (with_reducible refine Gx.alloc ?_) | (with_reducible refine Gx.drew ?_) | (with_reducible refine Gx.drewN ?_) | (with_reducible refine Gx.setRow ?_ (by first | omega | (simp; done) | (simp <;> omega))) | (with_reducible refine Gx.setCell ?_ (by first | omega | (simp; done) | (simp <;> omega))))), ?_, ?_, ?_, ?_⟩ <;> first | assumption | exact cell_keep_gx ‹_› | go_keep | (simp [go_sem]; done))
      (first | (go_at_call 70; refine (TrackNumber_none _ _ _ _).mono ?_; rintro e w' ⟨rfl, x2, rfl⟩))
    all_goals go_wp2_with (first | go_skip | (go_at_call 71; refine (HC.out _ (by repeat (first | (with_reducible exact Gx.refl _) | (with_reducible assumption) | (with_reducible refine Gx.gx ?_) | (with_reducible refine Gx.alloc ?_) | (with_reducible refine Gx.drew ?_) | (with_reducible refine Gx.drewN ?_) | (with_reducible refine Gx.setRow ?_ (by first | omega | (simp; done) | (simp <;> omega))) | (with_reducible refine Gx.setCell ?_ (by first | omega | (simp; done) | (simp <;> omega)))))).mono ?_; rintro e w' ⟨rfl, x3, rfl⟩))
    all_goals go_ret
    all_goals exact ⟨rfl, (by repeat (first | (with_reducible exact Gx.refl _) | (with_reducible assumption) | (with_reducible refine Gx.gx ?_) | (with_reducible refine Gx.alloc ?_) | (with_reducible refine Gx.drew ?_) | (with_reducible refine Gx.drewN ?_) | (with_reducible refine Gx.setRow ?_ (by first | omega | (simp; done) | (simp <;> omega))) | (with_reducible refine Gx.setCell ?_ (by first | omega | (simp; done) | (simp <;> omega)))))⟩
  · subst hE
    subst hN
    subst q1
    have k0 : decide (lg < 0) = false := decide_eq_false (by omega)
    have k1 : decide (1099511627776 < lg) = false := decide_eq_false (by omega)
    clear q2 q3
    go_enter Tryz.func41, Tryz.ntmps41
    go_wp2
    refine wp_loop_rounds 2 ?_
    rw [rounds_succ]
    go_wp2_with (first | go_skip | (go_at_call 69; refine (HN.out _).mono ?_; rintro e w' ⟨rfl, rfl⟩))
    go_region_held3 (fun W => (∃ x, W = gx w x) ∧ W.cell? ⟨w.heap.size, 0, none⟩ = some (.string s) ∧ W.cell? ⟨w.heap.size, 1, none⟩ = some (.int .i64 den) ∧ W.cell? ⟨w.heap.size, 2, none⟩ = some (.slice A n c) ∧ W.cell? ⟨w.heap.size, 3, none⟩ = some (.int .i64 lg))
      (refine ⟨(by repeat (first | (with_reducible exact Gx.refl _) | (with_reducible assumption) | (with_reducible refine Gx.gx ?_) | (with_reducible refine Gx.alloc ?_) | (with_reducible refine Gx.drew ?_) | (with_reducible refine Gx.drewN ?_) | (with_reducible refine Gx.setRow ?_ (by first | omega | (simp; done) | (simp <;> omega))) | (with_reducible refine Gx.setCell ?_ (by first | omega | (simp; done) | (simp <;> omega))))), ?_, ?_, ?_, ?_⟩ <;> first | assumption | exact cell_keep_gx ‹_› | go_keep | (simp [go_sem]; done))
      (first | (go_at_call 70; refine (TrackNumber_none _ _ _ _).mono ?_; rintro e w' ⟨rfl, x2, rfl⟩))
    all_goals go_wp2_with (first | go_skip | (go_at_call 71; refine (HC.out _ (by repeat (first | (with_reducible exact Gx.refl _) | (with_reducible assumption) | (with_reducible refine Gx.gx ?_) | (with_reducible refine Gx.alloc ?_) | (with_reducible refine Gx.drew ?_) | (with_reducible refine Gx.drewN ?_) | (with_reducible refine Gx.setRow ?_ (by first | omega | (simp; done) | (simp <;> omega))) | (with_reducible refine Gx.setCell ?_ (by first | omega | (simp; done) | (simp <;> omega)))))).mono ?_; rintro e w' ⟨rfl, x3, rfl⟩))
    all_goals rw [rounds_succ]
    all_goals go_wp2
    all_goals go_ret
    all_goals exact ⟨rfl, (by repeat (first | (with_reducible exact Gx.refl _) | (with_reducible assumption) | (with_reducible refine Gx.gx ?_) | (with_reducible refine Gx.alloc ?_) | (with_reducible refine Gx.drew ?_) | (with_reducible refine Gx.drewN ?_) | (with_reducible refine Gx.setRow ?_ (by first | omega | (simp; done) | (simp <;> omega))) | (with_reducible refine Gx.setCell ?_ (by first | omega | (simp; done) | (simp <;> omega)))))⟩
set_option maxHeartbeats 4000000 in
set_option maxRecDepth 100000 in
theorem RCheckTracksT (s : ByteArray) (hs : s.size ≤ 9223372036854775807) (b cc : Nat) (den : Int) (A : Option Addr) (n c : Nat) (lg : Int) (f : Nat → Sm) (w : World) (h : TkAt w b s den A n c lg) (hL : SmAt w f n A) :
    Calls Tryz.prog 43 #[.slice (some ⟨b, 0, none⟩) 1 cc] w fun e w' => e = .returned (.int .i64 (tkE (nameT s) (serE den f n) lg)) ∧ ∃ x, w' = gx w x := by
  have HC := Lib.hid (fun W (hW : ∃ x, W = gx w x) => (RCheck_any den f n c A W (by obtain ⟨x, rfl⟩ := hW; exact hL.gx)))
  have HN := Lib.hid (fun W => RIsNameT_any s hs W)
  have hb : b < w.heap.size := World.block_lt_of_cell? w _ h.c0
  obtain ⟨h0', h1, h2, h3⟩ := h
  have hw := tkE_ways (nameT s) (serE den f n) lg
  generalize tkE (nameT s) (serE den f n) lg = E at *
  generalize nameT s = N at *
  generalize serE den f n = Q at *
  clear hL hs
  rcases hw with ⟨hN, hE⟩ | ⟨hN, q1, hE⟩ | ⟨hN, q1, q2, hE⟩ | ⟨hN, q1, q2, q3, hE⟩ | ⟨hN, q1, q2, q3, hE⟩
  · subst hE
    subst hN
    go_enter Tryz.func43, Tryz.ntmps43
    go_wp2
    refine wp_loop_rounds 2 ?_
    rw [rounds_succ]
    go_wp2_with (first | go_skip | (go_at_call 73; refine (HN.out _).mono ?_; rintro e w' ⟨rfl, x1, rfl⟩))
    go_ret
    exact ⟨rfl, (by repeat (first | (with_reducible exact Gx.refl _) | (with_reducible assumption) | (with_reducible refine Gx.gx ?_) | (with_reducible refine Gx.alloc ?_) | (with_reducible refine Gx.drew ?_) | (with_reducible refine Gx.drewN ?_) | (with_reducible refine Gx.setRow ?_ (by first | omega | (simp; done) | (simp <;> omega))) | (with_reducible refine Gx.setCell ?_ (by first | omega | (simp; done) | (simp <;> omega)))))⟩
  · subst hE
    subst hN
    have k0 : (E == 0) = false := beq0 q1
    have k1 : (E != 0) = true := bne0 q1
    have k2 : decide (E = 0) = false := ne0t q1
    have k3 : ¬ E = 0 := q1
    clear q1
    go_enter Tryz.func43, Tryz.ntmps43
    go_wp2
    refine wp_loop_rounds 2 ?_
    rw [rounds_succ]
    go_wp2_with (first | go_skip | (go_at_call 73; refine (HN.out _).mono ?_; rintro e w' ⟨rfl, x1, rfl⟩))
    refine wp_loop_rounds 1 ?_
    rw [rounds_succ]
    go_wp2_with (first | go_skip | (go_at_call 74; refine (HC.out _ (by repeat (first | (with_reducible exact Gx.refl _) | (with_reducible assumption) | (with_reducible refine Gx.gx ?_) | (with_reducible refine Gx.alloc ?_) | (with_reducible refine Gx.drew ?_) | (with_reducible refine Gx.drewN ?_) | (with_reducible refine Gx.setRow ?_ (by first | omega | (simp; done) | (simp <;> omega))) | (with_reducible refine Gx.setCell ?_ (by first | omega | (simp; done) | (simp <;> omega)))))).mono ?_; rintro e w' ⟨rfl, x3, rfl⟩))
    go_ret
    exact ⟨rfl, (by repeat (first | (with_reducible exact Gx.refl _) | (with_reducible assumption) | (with_reducible refine Gx.gx ?_) | (with_reducible refine Gx.alloc ?_) | (with_reducible refine Gx.drew ?_) | (with_reducible refine Gx.drewN ?_) | (with_reducible refine Gx.setRow ?_ (by first | omega | (simp; done) | (simp <;> omega))) | (with_reducible refine Gx.setCell ?_ (by first | omega | (simp; done) | (simp <;> omega)))))⟩
  · subst hE
    subst hN
    subst q1
    have HO := Lib.hid (fun W => outsideE_any lg 0 1099511627776 true (.inr (.inl ⟨rfl, q2⟩)) W)
    clear q2
    go_enter Tryz.func43, Tryz.ntmps43
    go_wp2
    refine wp_loop_rounds 2 ?_
    rw [rounds_succ]
    go_wp2_with (first | go_skip | (go_at_call 73; refine (HN.out _).mono ?_; rintro e w' ⟨rfl, x1, rfl⟩))
    refine wp_loop_rounds 1 ?_
    rw [rounds_succ]
    go_wp2_with (first | go_skip | (go_at_call 74; refine (HC.out _ (by repeat (first | (with_reducible exact Gx.refl _) | (with_reducible assumption) | (with_reducible refine Gx.gx ?_) | (with_reducible refine Gx.alloc ?_) | (with_reducible refine Gx.drew ?_) | (with_reducible refine Gx.drewN ?_) | (with_reducible refine Gx.setRow ?_ (by first | omega | (simp; done) | (simp <;> omega))) | (with_reducible refine Gx.setCell ?_ (by first | omega | (simp; done) | (simp <;> omega)))))).mono ?_; rintro e w' ⟨rfl, x3, rfl⟩) | (go_at_call 75; refine (HO.out _).mono ?_; rintro e w' ⟨rfl, rfl⟩))
    go_ret
    exact ⟨rfl, (by repeat (first | (with_reducible exact Gx.refl _) | (with_reducible assumption) | (with_reducible refine Gx.gx ?_) | (with_reducible refine Gx.alloc ?_) | (with_reducible refine Gx.drew ?_) | (with_reducible refine Gx.drewN ?_) | (with_reducible refine Gx.setRow ?_ (by first | omega | (simp; done) | (simp <;> omega))) | (with_reducible refine Gx.setCell ?_ (by first | omega | (simp; done) | (simp <;> omega)))))⟩
  · subst hE
    subst hN
    subst q1
    have HO := Lib.hid (fun W => outsideE_any lg 0 1099511627776 true (.inr (.inr ⟨rfl, q2, q3⟩)) W)
    clear q2 q3
    go_enter Tryz.func43, Tryz.ntmps43
    go_wp2
    refine wp_loop_rounds 2 ?_
    rw [rounds_succ]
    go_wp2_with (first | go_skip | (go_at_call 73; refine (HN.out _).mono ?_; rintro e w' ⟨rfl, x1, rfl⟩))
    refine wp_loop_rounds 1 ?_
    rw [rounds_succ]
    go_wp2_with (first | go_skip | (go_at_call 74; refine (HC.out _ (by repeat (first | (with_reducible exact Gx.refl _) | (with_reducible assumption) | (with_reducible refine Gx.gx ?_) | (with_reducible refine Gx.alloc ?_) | (with_reducible refine Gx.drew ?_) | (with_reducible refine Gx.drewN ?_) | (with_reducible refine Gx.setRow ?_ (by first | omega | (simp; done) | (simp <;> omega))) | (with_reducible refine Gx.setCell ?_ (by first | omega | (simp; done) | (simp <;> omega)))))).mono ?_; rintro e w' ⟨rfl, x3, rfl⟩) | (go_at_call 75; refine (HO.out _).mono ?_; rintro e w' ⟨rfl, rfl⟩))
    go_ret
    exact ⟨rfl, (by repeat (first | (with_reducible exact Gx.refl _) | (with_reducible assumption) | (with_reducible refine Gx.gx ?_) | (with_reducible refine Gx.alloc ?_) | (with_reducible refine Gx.drew ?_) | (with_reducible refine Gx.drewN ?_) | (with_reducible refine Gx.setRow ?_ (by first | omega | (simp; done) | (simp <;> omega))) | (with_reducible refine Gx.setCell ?_ (by first | omega | (simp; done) | (simp <;> omega)))))⟩
  · subst hE
    subst hN
    subst q1
    have HO := Lib.hid (fun W => outsideE_any lg 0 1099511627776 false (.inl ⟨rfl, q2, q3⟩) W)
    clear q2 q3
    go_enter Tryz.func43, Tryz.ntmps43
    go_wp2
    refine wp_loop_rounds 2 ?_
    rw [rounds_succ]
    go_wp2_with (first | go_skip | (go_at_call 73; refine (HN.out _).mono ?_; rintro e w' ⟨rfl, x1, rfl⟩))
    refine wp_loop_rounds 1 ?_
    rw [rounds_succ]
    go_wp2_with (first | go_skip | (go_at_call 74; refine (HC.out _ (by repeat (first | (with_reducible exact Gx.refl _) | (with_reducible assumption) | (with_reducible refine Gx.gx ?_) | (with_reducible refine Gx.alloc ?_) | (with_reducible refine Gx.drew ?_) | (with_reducible refine Gx.drewN ?_) | (with_reducible refine Gx.setRow ?_ (by first | omega | (simp; done) | (simp <;> omega))) | (with_reducible refine Gx.setCell ?_ (by first | omega | (simp; done) | (simp <;> omega)))))).mono ?_; rintro e w' ⟨rfl, x3, rfl⟩) | (go_at_call 75; refine (HO.out _).mono ?_; rintro e w' ⟨rfl, rfl⟩))
    rw [rounds_succ]
    go_wp2
    go_ret
    exact ⟨rfl, (by repeat (first | (with_reducible exact Gx.refl _) | (with_reducible assumption) | (with_reducible refine Gx.gx ?_) | (with_reducible refine Gx.alloc ?_) | (with_reducible refine Gx.drew ?_) | (with_reducible refine Gx.drewN ?_) | (with_reducible refine Gx.setRow ?_ (by first | omega | (simp; done) | (simp <;> omega))) | (with_reducible refine Gx.setCell ?_ (by first | omega | (simp; done) | (simp <;> omega)))))⟩
end Go.Proofs.YtocaphcnnmcnjaaGreatDoor

/-
  Dials: needles, zones and what is wrong with what is asked of them, both sides.
-/
namespace Go.Proofs.YtocaphcnnmcnjaaGreatDoor
open Go.RowKit
-- AT2
-- AT3

/-- Where the needle of a dial is. -/
def needN (lo hi st n : Int) : Int := ((min (max n lo) hi - lo) * st).tdiv (hi - lo)
theorem need_low {lo hi st n : Int} (h : lo < hi) (hn : n ≤ lo) : needN lo hi st n = 0 := by
  unfold needN
  rw [show min (max n lo) hi - lo = 0 by omega]; simp
theorem need_high {lo hi st n : Int} (h : lo < hi) (hn : hi ≤ n) : needN lo hi st n = st := by
  unfold needN
  rw [show min (max n lo) hi = hi by omega, Int.mul_comm]
  exact Int.mul_tdiv_cancel _ (by omega)
theorem need_mid {lo hi st n : Int} (h1 : lo < n) (h2 : n < hi) : needN lo hi st n = ((n - lo) * st).tdiv (hi - lo) := by
  unfold needN
  rw [show min (max n lo) hi = n by omega]
theorem need_mono {lo hi st n m : Int} (h : lo < hi) (hs : 0 ≤ st) (hm : n ≤ m) : needN lo hi st n ≤ needN lo hi st m := by
  unfold needN
  rw [Int.tdiv_eq_ediv_of_nonneg (Int.mul_nonneg (by omega) hs), Int.tdiv_eq_ediv_of_nonneg (Int.mul_nonneg (by omega) hs)]
  exact Int.ediv_le_ediv (by omega) (Int.mul_le_mul_of_nonneg_right (by omega) hs)
theorem need_in {lo hi st n : Int} (h : lo < hi) (hs : 0 ≤ st) : 0 ≤ needN lo hi st n ∧ needN lo hi st n ≤ st := by
  have h1 := need_mono (n := min n lo) (m := n) h hs (by omega)
  have h2 := need_mono (n := n) (m := max n hi) h hs (by omega)
  have e1 : needN lo hi st (min n lo) = 0 := need_low h (by omega)
  have e2 : needN lo hi st (max n hi) = st := need_high h (by omega)
  omega
theorem tdiv_in {a b : Int} (ha : 0 ≤ a) (hb : 0 < b) (h : a ≤ 9223372036854775807) : 0 ≤ a.tdiv b ∧ a.tdiv b ≤ 9223372036854775807 := by
  rw [Int.tdiv_eq_ediv_of_nonneg ha]
  have h1 : 0 ≤ a / b := Int.ediv_nonneg ha (by omega)
  have h2 : a / b ≤ a := Int.ediv_le_self _ ha
  omega
theorem prod_in {d st : Int} (h : 0 ≤ d ∧ d ≤ 2251799813685248) (hs : 0 ≤ st ∧ st ≤ 1000) : 0 ≤ d * st ∧ d * st ≤ 2251799813685248000 := by
  refine ⟨Int.mul_nonneg h.1 hs.1, ?_⟩
  calc d * st ≤ 2251799813685248 * st := Int.mul_le_mul_of_nonneg_right h.2 hs.1
    _ ≤ 2251799813685248 * 1000 := Int.mul_le_mul_of_nonneg_left hs.2 (by decide)
    _ = 2251799813685248000 := by decide
/-- The first of some that has a property, or none. -/
theorem first_of (P : Nat → Prop) [DecidablePred P] : ∀ m, (∃ k, k < m ∧ P k ∧ ∀ j, j < k → ¬ P j) ∨ ∀ j, j < m → ¬ P j
  | 0 => .inr fun j h => absurd h (by omega)
  | m + 1 => by
    rcases first_of P m with ⟨k, hk, h⟩ | h
    · exact .inl ⟨k, by omega, h⟩
    · by_cases hp : P m
      · exact .inl ⟨m, by omega, hp, h⟩
      · refine .inr fun j hj => ?_
        by_cases e : j = m
        · rw [e]; exact hp
        · exact h j (by omega)
set_option maxHeartbeats 4000000 in
set_option maxRecDepth 100000 in
theorem needle_core (kd : Int) (nm tr : ByteArray) (pl lo hi st : Int) (Z : Option Addr) (zn zc : Nat) (op nn : Int) (lt : Bool) (sz : Int) (n m1 m2 d p q r : Int) (w : World) (e1 : max n lo = m1) (e2 : min m1 hi = m2) (e3 : IntKind.i64.wrap (m2 - lo) = d) (e4 : IntKind.i64.wrap (d * st) = p) (e5 : IntKind.i64.wrap (hi - lo) = q) (_z1 : (q == 0) = false) (z2 : ¬ q = 0) (e6 : p.tdiv q = r) (e7 : IntKind.i64.wrap r = r) :
    Calls Tryz.prog 46 #[inV kd nm tr pl lo hi st Z zn zc op nn lt sz, .int .i64 n] w fun e w' => e = .returned (.int .i64 r) ∧ ∃ x, w' = gx w x := by
  go_enter Tryz.func46, Tryz.ntmps46
  go_wp2
  go_ret
  exact ⟨rfl, (by repeat (first | (with_reducible exact Gx.refl _) | (with_reducible assumption) | (with_reducible refine Gx.gx ?_) | (with_reducible refine Gx.alloc ?_) | (with_reducible refine Gx.drew ?_) | (with_reducible refine Gx.drewN ?_) | (with_reducible refine Gx.setRow ?_ (by first | omega | (simp; done) | (simp <;> omega))) | (with_reducible refine Gx.setCell ?_ (by first | omega | (simp; done) | (simp <;> omega)))))⟩
theorem needle_any (kd : Int) (nm tr : ByteArray) (pl lo hi st : Int) (Z : Option Addr) (zn zc : Nat) (op nn : Int) (lt : Bool) (sz : Int) (n : Int) (w : World) (h : lo < hi ∧ -1125899906842624 ≤ lo ∧ hi ≤ 1125899906842624 ∧ 1 ≤ st ∧ st ≤ 1000) :
    Calls Tryz.prog 46 #[inV kd nm tr pl lo hi st Z zn zc op nn lt sz, .int .i64 n] w fun e w' => e = .returned (.int .i64 (needN lo hi st n)) ∧ ∃ x, w' = gx w x := by
  obtain ⟨m, hm⟩ : ∃ m, min (max n lo) hi = m := ⟨_, rfl⟩
  have hp := prod_in (d := m - lo) (st := st) (by omega) (by omega)
  have ht := tdiv_in (b := hi - lo) hp.1 (by omega) (by omega)
  have e : needN lo hi st n = ((m - lo) * st).tdiv (hi - lo) := by unfold needN; rw [hm]
  rw [e]
  exact needle_core kd nm tr pl lo hi st Z zn zc op nn lt sz n (max n lo) m (m - lo) ((m - lo) * st) (hi - lo) _ w rfl hm (IntWalk.i64_in _ (by omega)) (IntWalk.i64_in _ (by omega)) (IntWalk.i64_in _ (by omega)) (beq_eq_false_iff_ne.2 (by omega)) (by omega) rfl (IntWalk.i64_in _ (by omega))
set_option maxHeartbeats 4000000 in
set_option maxRecDepth 100000 in
theorem Rneedle_1 (kd : Int) (nm tr : ByteArray) (pl lo hi st : Int) (Z : Option Addr) (zn zc : Nat) (op nn : Int) (lt : Bool) (sz : Int) (n : Int) (w : World) (k1 : decide (n ≤ lo) = true) :
    Calls Tryz.prog 48 #[inV kd nm tr pl lo hi st Z zn zc op nn lt sz, .int .i64 n] w fun e w' => e = .returned (.int .i64 0) ∧ ∃ x, w' = gx w x := by
  go_enter Tryz.func48, Tryz.ntmps48
  go_wp2
  go_ret
  exact ⟨rfl, (by repeat (first | (with_reducible exact Gx.refl _) | (with_reducible assumption) | (with_reducible refine Gx.gx ?_) | (with_reducible refine Gx.alloc ?_) | (with_reducible refine Gx.drew ?_) | (with_reducible refine Gx.drewN ?_) | (with_reducible refine Gx.setRow ?_ (by first | omega | (simp; done) | (simp <;> omega))) | (with_reducible refine Gx.setCell ?_ (by first | omega | (simp; done) | (simp <;> omega)))))⟩
set_option maxHeartbeats 4000000 in
set_option maxRecDepth 100000 in
theorem Rneedle_2 (kd : Int) (nm tr : ByteArray) (pl lo hi st : Int) (Z : Option Addr) (zn zc : Nat) (op nn : Int) (lt : Bool) (sz : Int) (n : Int) (w : World) (k1 : decide (n ≤ lo) = false) (k2 : decide (hi ≤ n) = true) :
    Calls Tryz.prog 48 #[inV kd nm tr pl lo hi st Z zn zc op nn lt sz, .int .i64 n] w fun e w' => e = .returned (.int .i64 st) ∧ ∃ x, w' = gx w x := by
  go_enter Tryz.func48, Tryz.ntmps48
  go_wp2
  go_ret
  exact ⟨rfl, (by repeat (first | (with_reducible exact Gx.refl _) | (with_reducible assumption) | (with_reducible refine Gx.gx ?_) | (with_reducible refine Gx.alloc ?_) | (with_reducible refine Gx.drew ?_) | (with_reducible refine Gx.drewN ?_) | (with_reducible refine Gx.setRow ?_ (by first | omega | (simp; done) | (simp <;> omega))) | (with_reducible refine Gx.setCell ?_ (by first | omega | (simp; done) | (simp <;> omega)))))⟩
set_option maxHeartbeats 4000000 in
set_option maxRecDepth 100000 in
theorem Rneedle_3 (kd : Int) (nm tr : ByteArray) (pl lo hi st : Int) (Z : Option Addr) (zn zc : Nat) (op nn : Int) (lt : Bool) (sz : Int) (n d p q r : Int) (w : World) (k1 : decide (n ≤ lo) = false) (k2 : decide (hi ≤ n) = false) (e3 : IntKind.i64.wrap (n - lo) = d) (e4 : IntKind.i64.wrap (d * st) = p) (e5 : IntKind.i64.wrap (hi - lo) = q) (_z1 : (q == 0) = false) (z2 : ¬ q = 0) (e6 : p.tdiv q = r) (e7 : IntKind.i64.wrap r = r) :
    Calls Tryz.prog 48 #[inV kd nm tr pl lo hi st Z zn zc op nn lt sz, .int .i64 n] w fun e w' => e = .returned (.int .i64 r) ∧ ∃ x, w' = gx w x := by
  go_enter Tryz.func48, Tryz.ntmps48
  go_wp2
  go_ret
  exact ⟨rfl, (by repeat (first | (with_reducible exact Gx.refl _) | (with_reducible assumption) | (with_reducible refine Gx.gx ?_) | (with_reducible refine Gx.alloc ?_) | (with_reducible refine Gx.drew ?_) | (with_reducible refine Gx.drewN ?_) | (with_reducible refine Gx.setRow ?_ (by first | omega | (simp; done) | (simp <;> omega))) | (with_reducible refine Gx.setCell ?_ (by first | omega | (simp; done) | (simp <;> omega)))))⟩
theorem Rneedle_any (kd : Int) (nm tr : ByteArray) (pl lo hi st : Int) (Z : Option Addr) (zn zc : Nat) (op nn : Int) (lt : Bool) (sz : Int) (n : Int) (w : World) (h : lo < hi ∧ -1125899906842624 ≤ lo ∧ hi ≤ 1125899906842624 ∧ 1 ≤ st ∧ st ≤ 1000) :
    Calls Tryz.prog 48 #[inV kd nm tr pl lo hi st Z zn zc op nn lt sz, .int .i64 n] w fun e w' => e = .returned (.int .i64 (needN lo hi st n)) ∧ ∃ x, w' = gx w x := by
  by_cases h1 : n ≤ lo
  · rw [need_low h.1 h1]; exact Rneedle_1 kd nm tr pl lo hi st Z zn zc op nn lt sz n w (decide_eq_true h1)
  by_cases h2 : hi ≤ n
  · rw [need_high h.1 h2]; exact Rneedle_2 kd nm tr pl lo hi st Z zn zc op nn lt sz n w (decide_eq_false h1) (decide_eq_true h2)
  rw [need_mid (by omega) (by omega)]
  have hp := prod_in (d := n - lo) (st := st) (by omega) (by omega)
  have ht := tdiv_in (b := hi - lo) hp.1 (by omega) (by omega)
  exact Rneedle_3 kd nm tr pl lo hi st Z zn zc op nn lt sz n (n - lo) ((n - lo) * st) (hi - lo) _ w (decide_eq_false h1) (decide_eq_false h2) (IntWalk.i64_in _ (by omega)) (IntWalk.i64_in _ (by omega)) (IntWalk.i64_in _ (by omega)) (beq_eq_false_iff_ne.2 (by omega)) (by omega) rfl (IntWalk.i64_in _ (by omega))
set_option maxHeartbeats 4000000 in
set_option maxRecDepth 100000 in
theorem zone_any (kd : Int) (nm tr : ByteArray) (pl lo hi st : Int) (Z : Option Addr) (zn zc : Nat) (op nn : Int) (lt : Bool) (sz : Int) (z : Nat → Zn) (n : Int) (w : World) (hL : ZnAt w z zn Z) (hz : zn ≤ 10) (K : Nat) (hK : K ≤ zn) (HN : Hid (∀ j, j < K → ¬ ((z j).fr ≤ n ∧ n ≤ (z j).to))) (S : ByteArray) (HS : Hid ((K = zn ∧ S = ⟨#[]⟩) ∨ (K < zn ∧ (z K).fr ≤ n ∧ n ≤ (z K).to ∧ S = (z K).nm))) :
    Calls Tryz.prog 49 #[inV kd nm tr pl lo hi st Z zn zc op nn lt sz, .int .i64 n] w fun e w' => e = .returned (.string S) ∧ ∃ x, w' = gx w x := by
  go_enter Tryz.func49, Tryz.ntmps49
  go_wp2
  go_loopw [10] (fun i wr => ∃ k : Nat, k ≤ K ∧ i = .int .i64 k ∧ ∃ x, wr = gx w x) (fun i _ => zn - (intOf i).toNat)
  case atStart => exact ⟨0, Nat.zero_le _, rfl, (by repeat (first | (with_reducible exact Gx.refl _) | (with_reducible assumption) | (with_reducible refine Gx.gx ?_) | (with_reducible refine Gx.alloc ?_) | (with_reducible refine Gx.drew ?_) | (with_reducible refine Gx.drewN ?_) | (with_reducible refine Gx.setRow ?_ (by first | omega | (simp; done) | (simp <;> omega))) | (with_reducible refine Gx.setCell ?_ (by first | omega | (simp; done) | (simp <;> omega)))))⟩
  case round =>
    obtain ⟨k, hk, rfl, y, rfl⟩ := hrel
    by_cases hlt : k < zn
    · obtain ⟨b, o, rfl, hbw, HC⟩ := hL.get (by omega)
      obtain ⟨c1, c2, c3⟩ := HC.out k hlt
      by_cases hkK : k < K
      · have hno := HN.out k hkK
        by_cases h1 : (z k).fr ≤ n
        · have d1 : decide ((z k).fr ≤ n) = true := decide_eq_true h1
          have d2 : decide (n ≤ (z k).to) = false := decide_eq_false fun h => hno ⟨h1, h⟩
          clear hno h1
          go_wp2
          go_roundw
          case rel => exact ⟨k + 1, by omega, by go_num, (by repeat (first | (with_reducible exact Gx.refl _) | (with_reducible assumption) | (with_reducible refine Gx.gx ?_) | (with_reducible refine Gx.alloc ?_) | (with_reducible refine Gx.drew ?_) | (with_reducible refine Gx.drewN ?_) | (with_reducible refine Gx.setRow ?_ (by first | omega | (simp; done) | (simp <;> omega))) | (with_reducible refine Gx.setCell ?_ (by first | omega | (simp; done) | (simp <;> omega)))))⟩
          case measure => simp [intOf]; omega
        · have d1 : decide ((z k).fr ≤ n) = false := decide_eq_false h1
          clear hno h1
          go_wp2
          go_roundw
          case rel => exact ⟨k + 1, by omega, by go_num, (by repeat (first | (with_reducible exact Gx.refl _) | (with_reducible assumption) | (with_reducible refine Gx.gx ?_) | (with_reducible refine Gx.alloc ?_) | (with_reducible refine Gx.drew ?_) | (with_reducible refine Gx.drewN ?_) | (with_reducible refine Gx.setRow ?_ (by first | omega | (simp; done) | (simp <;> omega))) | (with_reducible refine Gx.setCell ?_ (by first | omega | (simp; done) | (simp <;> omega)))))⟩
          case measure => simp [intOf]; omega
      · obtain rfl : k = K := by omega
        obtain ⟨d1, d2, rfl⟩ : decide ((z k).fr ≤ n) = true ∧ decide (n ≤ (z k).to) = true ∧ S = (z k).nm := by
          rcases HS.out with ⟨h, -⟩ | ⟨-, h1, h2, h3⟩
          · omega
          · exact ⟨decide_eq_true h1, decide_eq_true h2, h3⟩
        go_wp2
        go_ret
        exact ⟨rfl, (by repeat (first | (with_reducible exact Gx.refl _) | (with_reducible assumption) | (with_reducible refine Gx.gx ?_) | (with_reducible refine Gx.alloc ?_) | (with_reducible refine Gx.drew ?_) | (with_reducible refine Gx.drewN ?_) | (with_reducible refine Gx.setRow ?_ (by first | omega | (simp; done) | (simp <;> omega))) | (with_reducible refine Gx.setCell ?_ (by first | omega | (simp; done) | (simp <;> omega)))))⟩
    · obtain rfl : k = zn := by omega
      obtain rfl : k = K := by omega
      obtain rfl : S = ⟨#[]⟩ := by
        rcases HS.out with ⟨-, h⟩ | ⟨h, -⟩
        · exact h
        · omega
      go_wp2
      go_ret
      exact ⟨rfl, (by repeat (first | (with_reducible exact Gx.refl _) | (with_reducible assumption) | (with_reducible refine Gx.gx ?_) | (with_reducible refine Gx.alloc ?_) | (with_reducible refine Gx.drew ?_) | (with_reducible refine Gx.drewN ?_) | (with_reducible refine Gx.setRow ?_ (by first | omega | (simp; done) | (simp <;> omega))) | (with_reducible refine Gx.setCell ?_ (by first | omega | (simp; done) | (simp <;> omega)))))⟩
set_option maxHeartbeats 4000000 in
set_option maxRecDepth 100000 in
theorem Rzone_any (kd : Int) (nm tr : ByteArray) (pl lo hi st : Int) (Z : Option Addr) (zn zc : Nat) (op nn : Int) (lt : Bool) (sz : Int) (z : Nat → Zn) (n : Int) (w : World) (hL : ZnAt w z zn Z) (hz : zn ≤ 10) (K : Nat) (hK : K ≤ zn) (HN : Hid (∀ j, j < K → ¬ ((z j).fr ≤ n ∧ n ≤ (z j).to))) (S : ByteArray) (HS : Hid ((K = zn ∧ S = ⟨#[]⟩) ∨ (K < zn ∧ (z K).fr ≤ n ∧ n ≤ (z K).to ∧ S = (z K).nm))) :
    Calls Tryz.prog 50 #[inV kd nm tr pl lo hi st Z zn zc op nn lt sz, .int .i64 n] w fun e w' => e = .returned (.string S) ∧ ∃ x, w' = gx w x := by
  go_enter Tryz.func50, Tryz.ntmps50
  go_wp2
  go_loopw [10] (fun i wr => ∃ k : Nat, k ≤ K ∧ i = .int .i64 k ∧ ∃ x, wr = gx w x) (fun i _ => zn - (intOf i).toNat)
  case atStart => exact ⟨0, Nat.zero_le _, rfl, (by repeat (first | (with_reducible exact Gx.refl _) | (with_reducible assumption) | (with_reducible refine Gx.gx ?_) | (with_reducible refine Gx.alloc ?_) | (with_reducible refine Gx.drew ?_) | (with_reducible refine Gx.drewN ?_) | (with_reducible refine Gx.setRow ?_ (by first | omega | (simp; done) | (simp <;> omega))) | (with_reducible refine Gx.setCell ?_ (by first | omega | (simp; done) | (simp <;> omega)))))⟩
  case round =>
    obtain ⟨k, hk, rfl, y, rfl⟩ := hrel
    by_cases hlt : k < zn
    · obtain ⟨b, o, rfl, hbw, HC⟩ := hL.get (by omega)
      obtain ⟨c1, c2, c3⟩ := HC.out k hlt
      by_cases hkK : k < K
      · have hno := HN.out k hkK
        by_cases h1 : (z k).fr ≤ n
        · have d1 : decide ((z k).fr ≤ n) = true := decide_eq_true h1
          have d2 : decide (n ≤ (z k).to) = false := decide_eq_false fun h => hno ⟨h1, h⟩
          clear hno h1
          go_wp2
          go_roundw
          case rel => exact ⟨k + 1, by omega, by go_num, (by repeat (first | (with_reducible exact Gx.refl _) | (with_reducible assumption) | (with_reducible refine Gx.gx ?_) | (with_reducible refine Gx.alloc ?_) | (with_reducible refine Gx.drew ?_) | (with_reducible refine Gx.drewN ?_) | (with_reducible refine Gx.setRow ?_ (by first | omega | (simp; done) | (simp <;> omega))) | (with_reducible refine Gx.setCell ?_ (by first | omega | (simp; done) | (simp <;> omega)))))⟩
          case measure => simp [intOf]; omega
        · have d1 : decide ((z k).fr ≤ n) = false := decide_eq_false h1
          clear hno h1
          go_wp2
          go_roundw
          case rel => exact ⟨k + 1, by omega, by go_num, (by repeat (first | (with_reducible exact Gx.refl _) | (with_reducible assumption) | (with_reducible refine Gx.gx ?_) | (with_reducible refine Gx.alloc ?_) | (with_reducible refine Gx.drew ?_) | (with_reducible refine Gx.drewN ?_) | (with_reducible refine Gx.setRow ?_ (by first | omega | (simp; done) | (simp <;> omega))) | (with_reducible refine Gx.setCell ?_ (by first | omega | (simp; done) | (simp <;> omega)))))⟩
          case measure => simp [intOf]; omega
      · obtain rfl : k = K := by omega
        obtain ⟨d1, d2, rfl⟩ : decide ((z k).fr ≤ n) = true ∧ decide (n ≤ (z k).to) = true ∧ S = (z k).nm := by
          rcases HS.out with ⟨h, -⟩ | ⟨-, h1, h2, h3⟩
          · omega
          · exact ⟨decide_eq_true h1, decide_eq_true h2, h3⟩
        go_wp2
        go_ret
        exact ⟨rfl, (by repeat (first | (with_reducible exact Gx.refl _) | (with_reducible assumption) | (with_reducible refine Gx.gx ?_) | (with_reducible refine Gx.alloc ?_) | (with_reducible refine Gx.drew ?_) | (with_reducible refine Gx.drewN ?_) | (with_reducible refine Gx.setRow ?_ (by first | omega | (simp; done) | (simp <;> omega))) | (with_reducible refine Gx.setCell ?_ (by first | omega | (simp; done) | (simp <;> omega)))))⟩
    · obtain rfl : k = zn := by omega
      obtain rfl : k = K := by omega
      obtain rfl : S = ⟨#[]⟩ := by
        rcases HS.out with ⟨-, h⟩ | ⟨h, -⟩
        · exact h
        · omega
      go_wp2
      go_ret
      exact ⟨rfl, (by repeat (first | (with_reducible exact Gx.refl _) | (with_reducible assumption) | (with_reducible refine Gx.gx ?_) | (with_reducible refine Gx.alloc ?_) | (with_reducible refine Gx.drew ?_) | (with_reducible refine Gx.drewN ?_) | (with_reducible refine Gx.setRow ?_ (by first | omega | (simp; done) | (simp <;> omega))) | (with_reducible refine Gx.setCell ?_ (by first | omega | (simp; done) | (simp <;> omega)))))⟩
/-- What is wrong with a question to a dial. -/
@[irreducible] def askE (kd E n : Int) : Int := if E ≠ 0 then E else if kd ≠ 2 then 7 else if n < -1125899906842624 ∨ 1125899906842624 < n then 9 else 0
theorem askE_0 {kd E n : Int} (h : askE kd E n = 0) : E = 0 ∧ kd = 2 := by
  unfold askE at h
  split at h
  · exact absurd h ‹_›
  split at h
  · exact absurd h (by decide)
  omega
set_option maxHeartbeats 4000000 in
set_option maxRecDepth 100000 in
theorem shn_a (kd : Int) (nm tr : ByteArray) (pl lo hi st : Int) (Z : Option Addr) (zn zc : Nat) (op nn : Int) (lt : Bool) (sz : Int) (n : Int) (w : World) (E : Int) (H : Hid (∀ W, (∃ x, W = gx w x) → Calls Tryz.prog 7 #[inV kd nm tr pl lo hi st Z zn zc op nn lt sz] W fun e W' => e = .returned (.int .i64 E) ∧ ∃ x, W' = gx W x)) (h0 : E ≠ 0) :
    Calls Tryz.prog 45 #[inV kd nm tr pl lo hi st Z zn zc op nn lt sz, .int .i64 n] w fun e w' => e = .returned (.int .i64 E) ∧ ∃ x, w' = gx w x := by
  have k0 := beq0 h0
  have k1 := bne0 h0
  have k2 := ne0t h0
  clear h0
  go_enter Tryz.func45, Tryz.ntmps45
  go_wp2_with (first | go_skip | (go_at_call 7; refine (H.out _ (by repeat (first | (with_reducible exact Gx.refl _) | (with_reducible assumption) | (with_reducible refine Gx.gx ?_) | (with_reducible refine Gx.alloc ?_) | (with_reducible refine Gx.drew ?_) | (with_reducible refine Gx.drewN ?_) | (with_reducible refine Gx.setRow ?_ (by first | omega | (simp; done) | (simp <;> omega))) | (with_reducible refine Gx.setCell ?_ (by first | omega | (simp; done) | (simp <;> omega)))))).mono ?_; rintro e w' ⟨rfl, x1, rfl⟩))
  go_ret
  exact ⟨rfl, (by repeat (first | (with_reducible exact Gx.refl _) | (with_reducible assumption) | (with_reducible refine Gx.gx ?_) | (with_reducible refine Gx.alloc ?_) | (with_reducible refine Gx.drew ?_) | (with_reducible refine Gx.drewN ?_) | (with_reducible refine Gx.setRow ?_ (by first | omega | (simp; done) | (simp <;> omega))) | (with_reducible refine Gx.setCell ?_ (by first | omega | (simp; done) | (simp <;> omega)))))⟩
set_option maxHeartbeats 4000000 in
set_option maxRecDepth 100000 in
theorem shn_b (kd : Int) (nm tr : ByteArray) (pl lo hi st : Int) (Z : Option Addr) (zn zc : Nat) (op nn : Int) (lt : Bool) (sz : Int) (n : Int) (w : World) (H : Hid (∀ W, (∃ x, W = gx w x) → Calls Tryz.prog 7 #[inV kd nm tr pl lo hi st Z zn zc op nn lt sz] W fun e W' => e = .returned (.int .i64 0) ∧ ∃ x, W' = gx W x)) (hk : kd ≠ 2) :
    Calls Tryz.prog 45 #[inV kd nm tr pl lo hi st Z zn zc op nn lt sz, .int .i64 n] w fun e w' => e = .returned (.int .i64 7) ∧ ∃ x, w' = gx w x := by
  have k0 : (kd == 2) = false := beq_eq_false_iff_ne.2 hk
  have k1 : (kd != 2) = true := bne_iff_ne.2 hk
  clear hk
  go_enter Tryz.func45, Tryz.ntmps45
  go_wp2_with (first | go_skip | (go_at_call 7; refine (H.out _ (by repeat (first | (with_reducible exact Gx.refl _) | (with_reducible assumption) | (with_reducible refine Gx.gx ?_) | (with_reducible refine Gx.alloc ?_) | (with_reducible refine Gx.drew ?_) | (with_reducible refine Gx.drewN ?_) | (with_reducible refine Gx.setRow ?_ (by first | omega | (simp; done) | (simp <;> omega))) | (with_reducible refine Gx.setCell ?_ (by first | omega | (simp; done) | (simp <;> omega)))))).mono ?_; rintro e w' ⟨rfl, x1, rfl⟩))
  go_ret
  exact ⟨rfl, (by repeat (first | (with_reducible exact Gx.refl _) | (with_reducible assumption) | (with_reducible refine Gx.gx ?_) | (with_reducible refine Gx.alloc ?_) | (with_reducible refine Gx.drew ?_) | (with_reducible refine Gx.drewN ?_) | (with_reducible refine Gx.setRow ?_ (by first | omega | (simp; done) | (simp <;> omega))) | (with_reducible refine Gx.setCell ?_ (by first | omega | (simp; done) | (simp <;> omega)))))⟩
set_option maxHeartbeats 4000000 in
set_option maxRecDepth 100000 in
theorem shn_c (nm tr : ByteArray) (pl lo hi st : Int) (Z : Option Addr) (zn zc : Nat) (op nn : Int) (lt : Bool) (sz : Int) (n : Int) (w : World) (H : Hid (∀ W, (∃ x, W = gx w x) → Calls Tryz.prog 7 #[inV 2 nm tr pl lo hi st Z zn zc op nn lt sz] W fun e W' => e = .returned (.int .i64 0) ∧ ∃ x, W' = gx W x)) (hn : n < -1125899906842624) :
    Calls Tryz.prog 45 #[inV 2 nm tr pl lo hi st Z zn zc op nn lt sz, .int .i64 n] w fun e w' => e = .returned (.int .i64 9) ∧ ∃ x, w' = gx w x := by
  have G0 := Lib.hid (fun W => pNumber_any n false (.inr (.inl ⟨rfl, hn⟩)) W)
  clear hn
  go_enter Tryz.func45, Tryz.ntmps45
  go_wp2_with (first | go_skip | (go_at_call 7; refine (H.out _ (by repeat (first | (with_reducible exact Gx.refl _) | (with_reducible assumption) | (with_reducible refine Gx.gx ?_) | (with_reducible refine Gx.alloc ?_) | (with_reducible refine Gx.drew ?_) | (with_reducible refine Gx.drewN ?_) | (with_reducible refine Gx.setRow ?_ (by first | omega | (simp; done) | (simp <;> omega))) | (with_reducible refine Gx.setCell ?_ (by first | omega | (simp; done) | (simp <;> omega)))))).mono ?_; rintro e w' ⟨rfl, x1, rfl⟩) | (go_at_call 51; with_reducible refine (G0.out _).mono ?_; rintro e w' ⟨rfl, rfl⟩))
  go_ret
  exact ⟨rfl, (by repeat (first | (with_reducible exact Gx.refl _) | (with_reducible assumption) | (with_reducible refine Gx.gx ?_) | (with_reducible refine Gx.alloc ?_) | (with_reducible refine Gx.drew ?_) | (with_reducible refine Gx.drewN ?_) | (with_reducible refine Gx.setRow ?_ (by first | omega | (simp; done) | (simp <;> omega))) | (with_reducible refine Gx.setCell ?_ (by first | omega | (simp; done) | (simp <;> omega)))))⟩
set_option maxHeartbeats 4000000 in
set_option maxRecDepth 100000 in
theorem shn_d (nm tr : ByteArray) (pl lo hi st : Int) (Z : Option Addr) (zn zc : Nat) (op nn : Int) (lt : Bool) (sz : Int) (n : Int) (w : World) (H : Hid (∀ W, (∃ x, W = gx w x) → Calls Tryz.prog 7 #[inV 2 nm tr pl lo hi st Z zn zc op nn lt sz] W fun e W' => e = .returned (.int .i64 0) ∧ ∃ x, W' = gx W x)) (hn : 1125899906842624 < n) :
    Calls Tryz.prog 45 #[inV 2 nm tr pl lo hi st Z zn zc op nn lt sz, .int .i64 n] w fun e w' => e = .returned (.int .i64 9) ∧ ∃ x, w' = gx w x := by
  have G0 := Lib.hid (fun W => pNumber_any n false (.inr (.inr ⟨rfl, hn⟩)) W)
  clear hn
  go_enter Tryz.func45, Tryz.ntmps45
  go_wp2_with (first | go_skip | (go_at_call 7; refine (H.out _ (by repeat (first | (with_reducible exact Gx.refl _) | (with_reducible assumption) | (with_reducible refine Gx.gx ?_) | (with_reducible refine Gx.alloc ?_) | (with_reducible refine Gx.drew ?_) | (with_reducible refine Gx.drewN ?_) | (with_reducible refine Gx.setRow ?_ (by first | omega | (simp; done) | (simp <;> omega))) | (with_reducible refine Gx.setCell ?_ (by first | omega | (simp; done) | (simp <;> omega)))))).mono ?_; rintro e w' ⟨rfl, x1, rfl⟩) | (go_at_call 51; with_reducible refine (G0.out _).mono ?_; rintro e w' ⟨rfl, rfl⟩))
  go_ret
  exact ⟨rfl, (by repeat (first | (with_reducible exact Gx.refl _) | (with_reducible assumption) | (with_reducible refine Gx.gx ?_) | (with_reducible refine Gx.alloc ?_) | (with_reducible refine Gx.drew ?_) | (with_reducible refine Gx.drewN ?_) | (with_reducible refine Gx.setRow ?_ (by first | omega | (simp; done) | (simp <;> omega))) | (with_reducible refine Gx.setCell ?_ (by first | omega | (simp; done) | (simp <;> omega)))))⟩
set_option maxHeartbeats 4000000 in
set_option maxRecDepth 100000 in
theorem shn_e (nm tr : ByteArray) (pl lo hi st : Int) (Z : Option Addr) (zn zc : Nat) (op nn : Int) (lt : Bool) (sz : Int) (n : Int) (w : World) (H : Hid (∀ W, (∃ x, W = gx w x) → Calls Tryz.prog 7 #[inV 2 nm tr pl lo hi st Z zn zc op nn lt sz] W fun e W' => e = .returned (.int .i64 0) ∧ ∃ x, W' = gx W x)) (hn : -1125899906842624 ≤ n ∧ n ≤ 1125899906842624) :
    Calls Tryz.prog 45 #[inV 2 nm tr pl lo hi st Z zn zc op nn lt sz, .int .i64 n] w fun e w' => e = .returned (.int .i64 0) ∧ ∃ x, w' = gx w x := by
  have G0 := Lib.hid (fun W => pNumber_any n true (.inl ⟨rfl, hn.1, hn.2⟩) W)
  clear hn
  go_enter Tryz.func45, Tryz.ntmps45
  go_wp2_with (first | go_skip | (go_at_call 7; refine (H.out _ (by repeat (first | (with_reducible exact Gx.refl _) | (with_reducible assumption) | (with_reducible refine Gx.gx ?_) | (with_reducible refine Gx.alloc ?_) | (with_reducible refine Gx.drew ?_) | (with_reducible refine Gx.drewN ?_) | (with_reducible refine Gx.setRow ?_ (by first | omega | (simp; done) | (simp <;> omega))) | (with_reducible refine Gx.setCell ?_ (by first | omega | (simp; done) | (simp <;> omega)))))).mono ?_; rintro e w' ⟨rfl, x1, rfl⟩) | (go_at_call 51; with_reducible refine (G0.out _).mono ?_; rintro e w' ⟨rfl, rfl⟩))
  go_ret
  exact ⟨rfl, (by repeat (first | (with_reducible exact Gx.refl _) | (with_reducible assumption) | (with_reducible refine Gx.gx ?_) | (with_reducible refine Gx.alloc ?_) | (with_reducible refine Gx.drew ?_) | (with_reducible refine Gx.drewN ?_) | (with_reducible refine Gx.setRow ?_ (by first | omega | (simp; done) | (simp <;> omega))) | (with_reducible refine Gx.setCell ?_ (by first | omega | (simp; done) | (simp <;> omega)))))⟩
theorem shn_any (kd : Int) (nm tr : ByteArray) (pl lo hi st : Int) (Z : Option Addr) (zn zc : Nat) (op nn : Int) (lt : Bool) (sz : Int) (n : Int) (w : World) (E : Int) (H : Hid (∀ W, (∃ x, W = gx w x) → Calls Tryz.prog 7 #[inV kd nm tr pl lo hi st Z zn zc op nn lt sz] W fun e W' => e = .returned (.int .i64 E) ∧ ∃ x, W' = gx W x)) :
    Calls Tryz.prog 45 #[inV kd nm tr pl lo hi st Z zn zc op nn lt sz, .int .i64 n] w fun e w' => e = .returned (.int .i64 (askE kd E n)) ∧ ∃ x, w' = gx w x := by
  by_cases h0 : E = 0
  · subst h0
    by_cases hk : kd = 2
    · subst hk
      by_cases h1 : n < -1125899906842624
      · rw [show askE 2 0 n = 9 by unfold askE; rw [if_neg (by decide), if_neg (by decide), if_pos (by omega)]]; exact shn_c nm tr pl lo hi st Z zn zc op nn lt sz n w H h1
      by_cases h2 : 1125899906842624 < n
      · rw [show askE 2 0 n = 9 by unfold askE; rw [if_neg (by decide), if_neg (by decide), if_pos (by omega)]]; exact shn_d nm tr pl lo hi st Z zn zc op nn lt sz n w H h2
      · rw [show askE 2 0 n = 0 by unfold askE; rw [if_neg (by decide), if_neg (by decide), if_neg (by omega)]]; exact shn_e nm tr pl lo hi st Z zn zc op nn lt sz n w H (by omega)
    · rw [show askE kd 0 n = 7 by unfold askE; rw [if_neg (by decide), if_pos hk]]; exact shn_b kd nm tr pl lo hi st Z zn zc op nn lt sz n w H hk
  · rw [show askE kd E n = E by unfold askE; rw [if_pos h0]]; exact shn_a kd nm tr pl lo hi st Z zn zc op nn lt sz n w E H h0
set_option maxHeartbeats 4000000 in
set_option maxRecDepth 100000 in
theorem dof_a (kd : Int) (nm tr : ByteArray) (pl lo hi st : Int) (Z : Option Addr) (zn zc : Nat) (op nn : Int) (lt : Bool) (sz : Int) (n : Int) (w : World) (E : Int) (H : Hid (∀ W, (∃ x, W = gx w x) → Calls Tryz.prog 8 #[inV kd nm tr pl lo hi st Z zn zc op nn lt sz] W fun e W' => e = .returned (.int .i64 E) ∧ ∃ x, W' = gx W x)) (h0 : E ≠ 0) :
    Calls Tryz.prog 47 #[inV kd nm tr pl lo hi st Z zn zc op nn lt sz, .int .i64 n] w fun e w' => e = .returned (.int .i64 E) ∧ ∃ x, w' = gx w x := by
  have k0 := beq0 h0
  have k1 := bne0 h0
  have k2 := ne0t h0
  clear h0
  go_enter Tryz.func47, Tryz.ntmps47
  go_wp2_with (first | go_skip | (go_at_call 8; refine (H.out _ (by repeat (first | (with_reducible exact Gx.refl _) | (with_reducible assumption) | (with_reducible refine Gx.gx ?_) | (with_reducible refine Gx.alloc ?_) | (with_reducible refine Gx.drew ?_) | (with_reducible refine Gx.drewN ?_) | (with_reducible refine Gx.setRow ?_ (by first | omega | (simp; done) | (simp <;> omega))) | (with_reducible refine Gx.setCell ?_ (by first | omega | (simp; done) | (simp <;> omega)))))).mono ?_; rintro e w' ⟨rfl, x1, rfl⟩))
  go_ret
  exact ⟨rfl, (by repeat (first | (with_reducible exact Gx.refl _) | (with_reducible assumption) | (with_reducible refine Gx.gx ?_) | (with_reducible refine Gx.alloc ?_) | (with_reducible refine Gx.drew ?_) | (with_reducible refine Gx.drewN ?_) | (with_reducible refine Gx.setRow ?_ (by first | omega | (simp; done) | (simp <;> omega))) | (with_reducible refine Gx.setCell ?_ (by first | omega | (simp; done) | (simp <;> omega)))))⟩
set_option maxHeartbeats 4000000 in
set_option maxRecDepth 100000 in
theorem dof_b (kd : Int) (nm tr : ByteArray) (pl lo hi st : Int) (Z : Option Addr) (zn zc : Nat) (op nn : Int) (lt : Bool) (sz : Int) (n : Int) (w : World) (H : Hid (∀ W, (∃ x, W = gx w x) → Calls Tryz.prog 8 #[inV kd nm tr pl lo hi st Z zn zc op nn lt sz] W fun e W' => e = .returned (.int .i64 0) ∧ ∃ x, W' = gx W x)) (hk : kd ≠ 2) :
    Calls Tryz.prog 47 #[inV kd nm tr pl lo hi st Z zn zc op nn lt sz, .int .i64 n] w fun e w' => e = .returned (.int .i64 7) ∧ ∃ x, w' = gx w x := by
  have k0 : (kd == 2) = false := beq_eq_false_iff_ne.2 hk
  have k1 : (kd != 2) = true := bne_iff_ne.2 hk
  clear hk
  go_enter Tryz.func47, Tryz.ntmps47
  go_wp2_with (first | go_skip | (go_at_call 8; refine (H.out _ (by repeat (first | (with_reducible exact Gx.refl _) | (with_reducible assumption) | (with_reducible refine Gx.gx ?_) | (with_reducible refine Gx.alloc ?_) | (with_reducible refine Gx.drew ?_) | (with_reducible refine Gx.drewN ?_) | (with_reducible refine Gx.setRow ?_ (by first | omega | (simp; done) | (simp <;> omega))) | (with_reducible refine Gx.setCell ?_ (by first | omega | (simp; done) | (simp <;> omega)))))).mono ?_; rintro e w' ⟨rfl, x1, rfl⟩))
  go_ret
  exact ⟨rfl, (by repeat (first | (with_reducible exact Gx.refl _) | (with_reducible assumption) | (with_reducible refine Gx.gx ?_) | (with_reducible refine Gx.alloc ?_) | (with_reducible refine Gx.drew ?_) | (with_reducible refine Gx.drewN ?_) | (with_reducible refine Gx.setRow ?_ (by first | omega | (simp; done) | (simp <;> omega))) | (with_reducible refine Gx.setCell ?_ (by first | omega | (simp; done) | (simp <;> omega)))))⟩
set_option maxHeartbeats 4000000 in
set_option maxRecDepth 100000 in
theorem dof_c (nm tr : ByteArray) (pl lo hi st : Int) (Z : Option Addr) (zn zc : Nat) (op nn : Int) (lt : Bool) (sz : Int) (n : Int) (w : World) (H : Hid (∀ W, (∃ x, W = gx w x) → Calls Tryz.prog 8 #[inV 2 nm tr pl lo hi st Z zn zc op nn lt sz] W fun e W' => e = .returned (.int .i64 0) ∧ ∃ x, W' = gx W x)) (hn : n < -1125899906842624) :
    Calls Tryz.prog 47 #[inV 2 nm tr pl lo hi st Z zn zc op nn lt sz, .int .i64 n] w fun e w' => e = .returned (.int .i64 9) ∧ ∃ x, w' = gx w x := by
  have G0 := Lib.hid (fun W => outsideP_any n (-1125899906842624) 1125899906842624 true (.inr (.inl ⟨rfl, hn⟩)) W)
  clear hn
  go_enter Tryz.func47, Tryz.ntmps47
  go_wp2_with (first | go_skip | (go_at_call 8; refine (H.out _ (by repeat (first | (with_reducible exact Gx.refl _) | (with_reducible assumption) | (with_reducible refine Gx.gx ?_) | (with_reducible refine Gx.alloc ?_) | (with_reducible refine Gx.drew ?_) | (with_reducible refine Gx.drewN ?_) | (with_reducible refine Gx.setRow ?_ (by first | omega | (simp; done) | (simp <;> omega))) | (with_reducible refine Gx.setCell ?_ (by first | omega | (simp; done) | (simp <;> omega)))))).mono ?_; rintro e w' ⟨rfl, x1, rfl⟩) | (go_at_call 30; with_reducible refine (G0.out _).mono ?_; rintro e w' ⟨rfl, rfl⟩))
  go_ret
  exact ⟨rfl, (by repeat (first | (with_reducible exact Gx.refl _) | (with_reducible assumption) | (with_reducible refine Gx.gx ?_) | (with_reducible refine Gx.alloc ?_) | (with_reducible refine Gx.drew ?_) | (with_reducible refine Gx.drewN ?_) | (with_reducible refine Gx.setRow ?_ (by first | omega | (simp; done) | (simp <;> omega))) | (with_reducible refine Gx.setCell ?_ (by first | omega | (simp; done) | (simp <;> omega)))))⟩
set_option maxHeartbeats 4000000 in
set_option maxRecDepth 100000 in
theorem dof_d (nm tr : ByteArray) (pl lo hi st : Int) (Z : Option Addr) (zn zc : Nat) (op nn : Int) (lt : Bool) (sz : Int) (n : Int) (w : World) (H : Hid (∀ W, (∃ x, W = gx w x) → Calls Tryz.prog 8 #[inV 2 nm tr pl lo hi st Z zn zc op nn lt sz] W fun e W' => e = .returned (.int .i64 0) ∧ ∃ x, W' = gx W x)) (hn : 1125899906842624 < n) :
    Calls Tryz.prog 47 #[inV 2 nm tr pl lo hi st Z zn zc op nn lt sz, .int .i64 n] w fun e w' => e = .returned (.int .i64 9) ∧ ∃ x, w' = gx w x := by
  have G0 := Lib.hid (fun W => outsideP_any n (-1125899906842624) 1125899906842624 true (.inr (.inr ⟨rfl, by omega, hn⟩)) W)
  clear hn
  go_enter Tryz.func47, Tryz.ntmps47
  go_wp2_with (first | go_skip | (go_at_call 8; refine (H.out _ (by repeat (first | (with_reducible exact Gx.refl _) | (with_reducible assumption) | (with_reducible refine Gx.gx ?_) | (with_reducible refine Gx.alloc ?_) | (with_reducible refine Gx.drew ?_) | (with_reducible refine Gx.drewN ?_) | (with_reducible refine Gx.setRow ?_ (by first | omega | (simp; done) | (simp <;> omega))) | (with_reducible refine Gx.setCell ?_ (by first | omega | (simp; done) | (simp <;> omega)))))).mono ?_; rintro e w' ⟨rfl, x1, rfl⟩) | (go_at_call 30; with_reducible refine (G0.out _).mono ?_; rintro e w' ⟨rfl, rfl⟩))
  go_ret
  exact ⟨rfl, (by repeat (first | (with_reducible exact Gx.refl _) | (with_reducible assumption) | (with_reducible refine Gx.gx ?_) | (with_reducible refine Gx.alloc ?_) | (with_reducible refine Gx.drew ?_) | (with_reducible refine Gx.drewN ?_) | (with_reducible refine Gx.setRow ?_ (by first | omega | (simp; done) | (simp <;> omega))) | (with_reducible refine Gx.setCell ?_ (by first | omega | (simp; done) | (simp <;> omega)))))⟩
set_option maxHeartbeats 4000000 in
set_option maxRecDepth 100000 in
theorem dof_e (nm tr : ByteArray) (pl lo hi st : Int) (Z : Option Addr) (zn zc : Nat) (op nn : Int) (lt : Bool) (sz : Int) (n : Int) (w : World) (H : Hid (∀ W, (∃ x, W = gx w x) → Calls Tryz.prog 8 #[inV 2 nm tr pl lo hi st Z zn zc op nn lt sz] W fun e W' => e = .returned (.int .i64 0) ∧ ∃ x, W' = gx W x)) (hn : -1125899906842624 ≤ n ∧ n ≤ 1125899906842624) :
    Calls Tryz.prog 47 #[inV 2 nm tr pl lo hi st Z zn zc op nn lt sz, .int .i64 n] w fun e w' => e = .returned (.int .i64 0) ∧ ∃ x, w' = gx w x := by
  have G0 := Lib.hid (fun W => outsideP_any n (-1125899906842624) 1125899906842624 false (.inl ⟨rfl, hn.1, hn.2⟩) W)
  clear hn
  go_enter Tryz.func47, Tryz.ntmps47
  go_wp2_with (first | go_skip | (go_at_call 8; refine (H.out _ (by repeat (first | (with_reducible exact Gx.refl _) | (with_reducible assumption) | (with_reducible refine Gx.gx ?_) | (with_reducible refine Gx.alloc ?_) | (with_reducible refine Gx.drew ?_) | (with_reducible refine Gx.drewN ?_) | (with_reducible refine Gx.setRow ?_ (by first | omega | (simp; done) | (simp <;> omega))) | (with_reducible refine Gx.setCell ?_ (by first | omega | (simp; done) | (simp <;> omega)))))).mono ?_; rintro e w' ⟨rfl, x1, rfl⟩) | (go_at_call 30; with_reducible refine (G0.out _).mono ?_; rintro e w' ⟨rfl, rfl⟩))
  go_ret
  exact ⟨rfl, (by repeat (first | (with_reducible exact Gx.refl _) | (with_reducible assumption) | (with_reducible refine Gx.gx ?_) | (with_reducible refine Gx.alloc ?_) | (with_reducible refine Gx.drew ?_) | (with_reducible refine Gx.drewN ?_) | (with_reducible refine Gx.setRow ?_ (by first | omega | (simp; done) | (simp <;> omega))) | (with_reducible refine Gx.setCell ?_ (by first | omega | (simp; done) | (simp <;> omega)))))⟩
theorem dof_any (kd : Int) (nm tr : ByteArray) (pl lo hi st : Int) (Z : Option Addr) (zn zc : Nat) (op nn : Int) (lt : Bool) (sz : Int) (n : Int) (w : World) (E : Int) (H : Hid (∀ W, (∃ x, W = gx w x) → Calls Tryz.prog 8 #[inV kd nm tr pl lo hi st Z zn zc op nn lt sz] W fun e W' => e = .returned (.int .i64 E) ∧ ∃ x, W' = gx W x)) :
    Calls Tryz.prog 47 #[inV kd nm tr pl lo hi st Z zn zc op nn lt sz, .int .i64 n] w fun e w' => e = .returned (.int .i64 (askE kd E n)) ∧ ∃ x, w' = gx w x := by
  by_cases h0 : E = 0
  · subst h0
    by_cases hk : kd = 2
    · subst hk
      by_cases h1 : n < -1125899906842624
      · rw [show askE 2 0 n = 9 by unfold askE; rw [if_neg (by decide), if_neg (by decide), if_pos (by omega)]]; exact dof_c nm tr pl lo hi st Z zn zc op nn lt sz n w H h1
      by_cases h2 : 1125899906842624 < n
      · rw [show askE 2 0 n = 9 by unfold askE; rw [if_neg (by decide), if_neg (by decide), if_pos (by omega)]]; exact dof_d nm tr pl lo hi st Z zn zc op nn lt sz n w H h2
      · rw [show askE 2 0 n = 0 by unfold askE; rw [if_neg (by decide), if_neg (by decide), if_neg (by omega)]]; exact dof_e nm tr pl lo hi st Z zn zc op nn lt sz n w H (by omega)
    · rw [show askE kd 0 n = 7 by unfold askE; rw [if_neg (by decide), if_pos hk]]; exact dof_b kd nm tr pl lo hi st Z zn zc op nn lt sz n w H hk
  · rw [show askE kd E n = E by unfold askE; rw [if_pos h0]]; exact dof_a kd nm tr pl lo hi st Z zn zc op nn lt sz n w E H h0
set_option maxHeartbeats 4000000 in
set_option maxRecDepth 100000 in
theorem pNeedle_a (kd : Int) (nm tr : ByteArray) (pl lo hi st : Int) (Z : Option Addr) (zn zc : Nat) (op nn : Int) (lt : Bool) (sz : Int) (n : Int) (w : World) (E : Int) (H : Hid (∀ W, (∃ x, W = gx w x) → Calls Tryz.prog 45 #[inV kd nm tr pl lo hi st Z zn zc op nn lt sz, .int .i64 n] W fun e W' => e = .returned (.int .i64 E) ∧ ∃ x, W' = gx W x)) (h0 : E ≠ 0) :
    Calls Tryz.prog 17 #[inV kd nm tr pl lo hi st Z zn zc op nn lt sz, .int .i64 n] w fun e w' => e = .returned (.tuple #[.int .i64 0, .int .i64 E]) ∧ ∃ x, w' = gx w x := by
  have k0 := beq0 h0
  have k1 := bne0 h0
  have k2 := ne0t h0
  clear h0
  go_enter Tryz.func17, Tryz.ntmps17
  go_wp2_with (first | go_skip | (go_at_call 45; refine (H.out _ (by repeat (first | (with_reducible exact Gx.refl _) | (with_reducible assumption) | (with_reducible refine Gx.gx ?_) | (with_reducible refine Gx.alloc ?_) | (with_reducible refine Gx.drew ?_) | (with_reducible refine Gx.drewN ?_) | (with_reducible refine Gx.setRow ?_ (by first | omega | (simp; done) | (simp <;> omega))) | (with_reducible refine Gx.setCell ?_ (by first | omega | (simp; done) | (simp <;> omega)))))).mono ?_; rintro e w' ⟨rfl, x1, rfl⟩))
  exact bodyPost_ret (v := .tuple #[.int .i64 0, .int .i64 E]) (by simp [results, Tryz.results17, go_sem]) rfl ⟨rfl, (by repeat (first | (with_reducible exact Gx.refl _) | (with_reducible assumption) | (with_reducible refine Gx.gx ?_) | (with_reducible refine Gx.alloc ?_) | (with_reducible refine Gx.drew ?_) | (with_reducible refine Gx.drewN ?_) | (with_reducible refine Gx.setRow ?_ (by first | omega | (simp; done) | (simp <;> omega))) | (with_reducible refine Gx.setCell ?_ (by first | omega | (simp; done) | (simp <;> omega)))))⟩
set_option maxHeartbeats 4000000 in
set_option maxRecDepth 100000 in
theorem pNeedle_b (kd : Int) (nm tr : ByteArray) (pl lo hi st : Int) (Z : Option Addr) (zn zc : Nat) (op nn : Int) (lt : Bool) (sz : Int) (n : Int) (w : World) (H : Hid (∀ W, (∃ x, W = gx w x) → Calls Tryz.prog 45 #[inV kd nm tr pl lo hi st Z zn zc op nn lt sz, .int .i64 n] W fun e W' => e = .returned (.int .i64 0) ∧ ∃ x, W' = gx W x)) (R : Int) (HI : Hid (∀ W, (∃ x, W = gx w x) → Calls Tryz.prog 46 #[inV kd nm tr pl lo hi st Z zn zc op nn lt sz, .int .i64 n] W fun e W' => e = .returned (.int .i64 R) ∧ ∃ x, W' = gx W x)) :
    Calls Tryz.prog 17 #[inV kd nm tr pl lo hi st Z zn zc op nn lt sz, .int .i64 n] w fun e w' => e = .returned (.tuple #[.int .i64 R, .int .i64 0]) ∧ ∃ x, w' = gx w x := by
  go_enter Tryz.func17, Tryz.ntmps17
  go_wp2_with (first | go_skip | (go_at_call 45; refine (H.out _ (by repeat (first | (with_reducible exact Gx.refl _) | (with_reducible assumption) | (with_reducible refine Gx.gx ?_) | (with_reducible refine Gx.alloc ?_) | (with_reducible refine Gx.drew ?_) | (with_reducible refine Gx.drewN ?_) | (with_reducible refine Gx.setRow ?_ (by first | omega | (simp; done) | (simp <;> omega))) | (with_reducible refine Gx.setCell ?_ (by first | omega | (simp; done) | (simp <;> omega)))))).mono ?_; rintro e w' ⟨rfl, x1, rfl⟩) | (go_at_call 46; refine (HI.out _ (by repeat (first | (with_reducible exact Gx.refl _) | (with_reducible assumption) | (with_reducible refine Gx.gx ?_) | (with_reducible refine Gx.alloc ?_) | (with_reducible refine Gx.drew ?_) | (with_reducible refine Gx.drewN ?_) | (with_reducible refine Gx.setRow ?_ (by first | omega | (simp; done) | (simp <;> omega))) | (with_reducible refine Gx.setCell ?_ (by first | omega | (simp; done) | (simp <;> omega)))))).mono ?_; rintro e w' ⟨rfl, x2, rfl⟩))
  exact bodyPost_ret (v := .tuple #[.int .i64 R, .int .i64 0]) (by simp [results, Tryz.results17, go_sem]) rfl ⟨rfl, (by repeat (first | (with_reducible exact Gx.refl _) | (with_reducible assumption) | (with_reducible refine Gx.gx ?_) | (with_reducible refine Gx.alloc ?_) | (with_reducible refine Gx.drew ?_) | (with_reducible refine Gx.drewN ?_) | (with_reducible refine Gx.setRow ?_ (by first | omega | (simp; done) | (simp <;> omega))) | (with_reducible refine Gx.setCell ?_ (by first | omega | (simp; done) | (simp <;> omega)))))⟩
set_option maxHeartbeats 4000000 in
set_option maxRecDepth 100000 in
theorem pZoneOf_a (kd : Int) (nm tr : ByteArray) (pl lo hi st : Int) (Z : Option Addr) (zn zc : Nat) (op nn : Int) (lt : Bool) (sz : Int) (n : Int) (w : World) (E : Int) (H : Hid (∀ W, (∃ x, W = gx w x) → Calls Tryz.prog 45 #[inV kd nm tr pl lo hi st Z zn zc op nn lt sz, .int .i64 n] W fun e W' => e = .returned (.int .i64 E) ∧ ∃ x, W' = gx W x)) (h0 : E ≠ 0) :
    Calls Tryz.prog 19 #[inV kd nm tr pl lo hi st Z zn zc op nn lt sz, .int .i64 n] w fun e w' => e = .returned (.tuple #[.string ⟨#[]⟩, .int .i64 E]) ∧ ∃ x, w' = gx w x := by
  have k0 := beq0 h0
  have k1 := bne0 h0
  have k2 := ne0t h0
  clear h0
  go_enter Tryz.func19, Tryz.ntmps19
  go_wp2_with (first | go_skip | (go_at_call 45; refine (H.out _ (by repeat (first | (with_reducible exact Gx.refl _) | (with_reducible assumption) | (with_reducible refine Gx.gx ?_) | (with_reducible refine Gx.alloc ?_) | (with_reducible refine Gx.drew ?_) | (with_reducible refine Gx.drewN ?_) | (with_reducible refine Gx.setRow ?_ (by first | omega | (simp; done) | (simp <;> omega))) | (with_reducible refine Gx.setCell ?_ (by first | omega | (simp; done) | (simp <;> omega)))))).mono ?_; rintro e w' ⟨rfl, x1, rfl⟩))
  exact bodyPost_ret (v := .tuple #[.string ⟨#[]⟩, .int .i64 E]) (by simp [results, Tryz.results19, go_sem]) rfl ⟨rfl, (by repeat (first | (with_reducible exact Gx.refl _) | (with_reducible assumption) | (with_reducible refine Gx.gx ?_) | (with_reducible refine Gx.alloc ?_) | (with_reducible refine Gx.drew ?_) | (with_reducible refine Gx.drewN ?_) | (with_reducible refine Gx.setRow ?_ (by first | omega | (simp; done) | (simp <;> omega))) | (with_reducible refine Gx.setCell ?_ (by first | omega | (simp; done) | (simp <;> omega)))))⟩
set_option maxHeartbeats 4000000 in
set_option maxRecDepth 100000 in
theorem pZoneOf_b (kd : Int) (nm tr : ByteArray) (pl lo hi st : Int) (Z : Option Addr) (zn zc : Nat) (op nn : Int) (lt : Bool) (sz : Int) (n : Int) (w : World) (H : Hid (∀ W, (∃ x, W = gx w x) → Calls Tryz.prog 45 #[inV kd nm tr pl lo hi st Z zn zc op nn lt sz, .int .i64 n] W fun e W' => e = .returned (.int .i64 0) ∧ ∃ x, W' = gx W x)) (S : ByteArray) (HI : Hid (∀ W, (∃ x, W = gx w x) → Calls Tryz.prog 49 #[inV kd nm tr pl lo hi st Z zn zc op nn lt sz, .int .i64 n] W fun e W' => e = .returned (.string S) ∧ ∃ x, W' = gx W x)) :
    Calls Tryz.prog 19 #[inV kd nm tr pl lo hi st Z zn zc op nn lt sz, .int .i64 n] w fun e w' => e = .returned (.tuple #[.string S, .int .i64 0]) ∧ ∃ x, w' = gx w x := by
  go_enter Tryz.func19, Tryz.ntmps19
  go_wp2_with (first | go_skip | (go_at_call 45; refine (H.out _ (by repeat (first | (with_reducible exact Gx.refl _) | (with_reducible assumption) | (with_reducible refine Gx.gx ?_) | (with_reducible refine Gx.alloc ?_) | (with_reducible refine Gx.drew ?_) | (with_reducible refine Gx.drewN ?_) | (with_reducible refine Gx.setRow ?_ (by first | omega | (simp; done) | (simp <;> omega))) | (with_reducible refine Gx.setCell ?_ (by first | omega | (simp; done) | (simp <;> omega)))))).mono ?_; rintro e w' ⟨rfl, x1, rfl⟩) | (go_at_call 49; refine (HI.out _ (by repeat (first | (with_reducible exact Gx.refl _) | (with_reducible assumption) | (with_reducible refine Gx.gx ?_) | (with_reducible refine Gx.alloc ?_) | (with_reducible refine Gx.drew ?_) | (with_reducible refine Gx.drewN ?_) | (with_reducible refine Gx.setRow ?_ (by first | omega | (simp; done) | (simp <;> omega))) | (with_reducible refine Gx.setCell ?_ (by first | omega | (simp; done) | (simp <;> omega)))))).mono ?_; rintro e w' ⟨rfl, x2, rfl⟩))
  exact bodyPost_ret (v := .tuple #[.string S, .int .i64 0]) (by simp [results, Tryz.results19, go_sem]) rfl ⟨rfl, (by repeat (first | (with_reducible exact Gx.refl _) | (with_reducible assumption) | (with_reducible refine Gx.gx ?_) | (with_reducible refine Gx.alloc ?_) | (with_reducible refine Gx.drew ?_) | (with_reducible refine Gx.drewN ?_) | (with_reducible refine Gx.setRow ?_ (by first | omega | (simp; done) | (simp <;> omega))) | (with_reducible refine Gx.setCell ?_ (by first | omega | (simp; done) | (simp <;> omega)))))⟩
set_option maxHeartbeats 4000000 in
set_option maxRecDepth 100000 in
theorem rNeedle_a (kd : Int) (nm tr : ByteArray) (pl lo hi st : Int) (Z : Option Addr) (zn zc : Nat) (op nn : Int) (lt : Bool) (sz : Int) (n : Int) (w : World) (E : Int) (H : Hid (∀ W, (∃ x, W = gx w x) → Calls Tryz.prog 47 #[inV kd nm tr pl lo hi st Z zn zc op nn lt sz, .int .i64 n] W fun e W' => e = .returned (.int .i64 E) ∧ ∃ x, W' = gx W x)) (h0 : E ≠ 0) :
    Calls Tryz.prog 18 #[inV kd nm tr pl lo hi st Z zn zc op nn lt sz, .int .i64 n] w fun e w' => e = .returned (.tuple #[.int .i64 0, .int .i64 E]) ∧ ∃ x, w' = gx w x := by
  have k0 := beq0 h0
  have k1 := bne0 h0
  have k2 := ne0t h0
  clear h0
  go_enter Tryz.func18, Tryz.ntmps18
  go_wp2_with (first | go_skip | (go_at_call 47; refine (H.out _ (by repeat (first | (with_reducible exact Gx.refl _) | (with_reducible assumption) | (with_reducible refine Gx.gx ?_) | (with_reducible refine Gx.alloc ?_) | (with_reducible refine Gx.drew ?_) | (with_reducible refine Gx.drewN ?_) | (with_reducible refine Gx.setRow ?_ (by first | omega | (simp; done) | (simp <;> omega))) | (with_reducible refine Gx.setCell ?_ (by first | omega | (simp; done) | (simp <;> omega)))))).mono ?_; rintro e w' ⟨rfl, x1, rfl⟩))
  exact bodyPost_ret (v := .tuple #[.int .i64 0, .int .i64 E]) (by simp [results, Tryz.results18, go_sem]) rfl ⟨rfl, (by repeat (first | (with_reducible exact Gx.refl _) | (with_reducible assumption) | (with_reducible refine Gx.gx ?_) | (with_reducible refine Gx.alloc ?_) | (with_reducible refine Gx.drew ?_) | (with_reducible refine Gx.drewN ?_) | (with_reducible refine Gx.setRow ?_ (by first | omega | (simp; done) | (simp <;> omega))) | (with_reducible refine Gx.setCell ?_ (by first | omega | (simp; done) | (simp <;> omega)))))⟩
set_option maxHeartbeats 4000000 in
set_option maxRecDepth 100000 in
theorem rNeedle_b (kd : Int) (nm tr : ByteArray) (pl lo hi st : Int) (Z : Option Addr) (zn zc : Nat) (op nn : Int) (lt : Bool) (sz : Int) (n : Int) (w : World) (H : Hid (∀ W, (∃ x, W = gx w x) → Calls Tryz.prog 47 #[inV kd nm tr pl lo hi st Z zn zc op nn lt sz, .int .i64 n] W fun e W' => e = .returned (.int .i64 0) ∧ ∃ x, W' = gx W x)) (R : Int) (HI : Hid (∀ W, (∃ x, W = gx w x) → Calls Tryz.prog 48 #[inV kd nm tr pl lo hi st Z zn zc op nn lt sz, .int .i64 n] W fun e W' => e = .returned (.int .i64 R) ∧ ∃ x, W' = gx W x)) :
    Calls Tryz.prog 18 #[inV kd nm tr pl lo hi st Z zn zc op nn lt sz, .int .i64 n] w fun e w' => e = .returned (.tuple #[.int .i64 R, .int .i64 0]) ∧ ∃ x, w' = gx w x := by
  go_enter Tryz.func18, Tryz.ntmps18
  go_wp2_with (first | go_skip | (go_at_call 47; refine (H.out _ (by repeat (first | (with_reducible exact Gx.refl _) | (with_reducible assumption) | (with_reducible refine Gx.gx ?_) | (with_reducible refine Gx.alloc ?_) | (with_reducible refine Gx.drew ?_) | (with_reducible refine Gx.drewN ?_) | (with_reducible refine Gx.setRow ?_ (by first | omega | (simp; done) | (simp <;> omega))) | (with_reducible refine Gx.setCell ?_ (by first | omega | (simp; done) | (simp <;> omega)))))).mono ?_; rintro e w' ⟨rfl, x1, rfl⟩) | (go_at_call 48; refine (HI.out _ (by repeat (first | (with_reducible exact Gx.refl _) | (with_reducible assumption) | (with_reducible refine Gx.gx ?_) | (with_reducible refine Gx.alloc ?_) | (with_reducible refine Gx.drew ?_) | (with_reducible refine Gx.drewN ?_) | (with_reducible refine Gx.setRow ?_ (by first | omega | (simp; done) | (simp <;> omega))) | (with_reducible refine Gx.setCell ?_ (by first | omega | (simp; done) | (simp <;> omega)))))).mono ?_; rintro e w' ⟨rfl, x2, rfl⟩))
  exact bodyPost_ret (v := .tuple #[.int .i64 R, .int .i64 0]) (by simp [results, Tryz.results18, go_sem]) rfl ⟨rfl, (by repeat (first | (with_reducible exact Gx.refl _) | (with_reducible assumption) | (with_reducible refine Gx.gx ?_) | (with_reducible refine Gx.alloc ?_) | (with_reducible refine Gx.drew ?_) | (with_reducible refine Gx.drewN ?_) | (with_reducible refine Gx.setRow ?_ (by first | omega | (simp; done) | (simp <;> omega))) | (with_reducible refine Gx.setCell ?_ (by first | omega | (simp; done) | (simp <;> omega)))))⟩
set_option maxHeartbeats 4000000 in
set_option maxRecDepth 100000 in
theorem rZoneOf_a (kd : Int) (nm tr : ByteArray) (pl lo hi st : Int) (Z : Option Addr) (zn zc : Nat) (op nn : Int) (lt : Bool) (sz : Int) (n : Int) (w : World) (E : Int) (H : Hid (∀ W, (∃ x, W = gx w x) → Calls Tryz.prog 47 #[inV kd nm tr pl lo hi st Z zn zc op nn lt sz, .int .i64 n] W fun e W' => e = .returned (.int .i64 E) ∧ ∃ x, W' = gx W x)) (h0 : E ≠ 0) :
    Calls Tryz.prog 20 #[inV kd nm tr pl lo hi st Z zn zc op nn lt sz, .int .i64 n] w fun e w' => e = .returned (.tuple #[.string ⟨#[]⟩, .int .i64 E]) ∧ ∃ x, w' = gx w x := by
  have k0 := beq0 h0
  have k1 := bne0 h0
  have k2 := ne0t h0
  clear h0
  go_enter Tryz.func20, Tryz.ntmps20
  go_wp2_with (first | go_skip | (go_at_call 47; refine (H.out _ (by repeat (first | (with_reducible exact Gx.refl _) | (with_reducible assumption) | (with_reducible refine Gx.gx ?_) | (with_reducible refine Gx.alloc ?_) | (with_reducible refine Gx.drew ?_) | (with_reducible refine Gx.drewN ?_) | (with_reducible refine Gx.setRow ?_ (by first | omega | (simp; done) | (simp <;> omega))) | (with_reducible refine Gx.setCell ?_ (by first | omega | (simp; done) | (simp <;> omega)))))).mono ?_; rintro e w' ⟨rfl, x1, rfl⟩))
  exact bodyPost_ret (v := .tuple #[.string ⟨#[]⟩, .int .i64 E]) (by simp [results, Tryz.results20, go_sem]) rfl ⟨rfl, (by repeat (first | (with_reducible exact Gx.refl _) | (with_reducible assumption) | (with_reducible refine Gx.gx ?_) | (with_reducible refine Gx.alloc ?_) | (with_reducible refine Gx.drew ?_) | (with_reducible refine Gx.drewN ?_) | (with_reducible refine Gx.setRow ?_ (by first | omega | (simp; done) | (simp <;> omega))) | (with_reducible refine Gx.setCell ?_ (by first | omega | (simp; done) | (simp <;> omega)))))⟩
set_option maxHeartbeats 4000000 in
set_option maxRecDepth 100000 in
theorem rZoneOf_b (kd : Int) (nm tr : ByteArray) (pl lo hi st : Int) (Z : Option Addr) (zn zc : Nat) (op nn : Int) (lt : Bool) (sz : Int) (n : Int) (w : World) (H : Hid (∀ W, (∃ x, W = gx w x) → Calls Tryz.prog 47 #[inV kd nm tr pl lo hi st Z zn zc op nn lt sz, .int .i64 n] W fun e W' => e = .returned (.int .i64 0) ∧ ∃ x, W' = gx W x)) (S : ByteArray) (HI : Hid (∀ W, (∃ x, W = gx w x) → Calls Tryz.prog 50 #[inV kd nm tr pl lo hi st Z zn zc op nn lt sz, .int .i64 n] W fun e W' => e = .returned (.string S) ∧ ∃ x, W' = gx W x)) :
    Calls Tryz.prog 20 #[inV kd nm tr pl lo hi st Z zn zc op nn lt sz, .int .i64 n] w fun e w' => e = .returned (.tuple #[.string S, .int .i64 0]) ∧ ∃ x, w' = gx w x := by
  go_enter Tryz.func20, Tryz.ntmps20
  go_wp2_with (first | go_skip | (go_at_call 47; refine (H.out _ (by repeat (first | (with_reducible exact Gx.refl _) | (with_reducible assumption) | (with_reducible refine Gx.gx ?_) | (with_reducible refine Gx.alloc ?_) | (with_reducible refine Gx.drew ?_) | (with_reducible refine Gx.drewN ?_) | (with_reducible refine Gx.setRow ?_ (by first | omega | (simp; done) | (simp <;> omega))) | (with_reducible refine Gx.setCell ?_ (by first | omega | (simp; done) | (simp <;> omega)))))).mono ?_; rintro e w' ⟨rfl, x1, rfl⟩) | (go_at_call 50; refine (HI.out _ (by repeat (first | (with_reducible exact Gx.refl _) | (with_reducible assumption) | (with_reducible refine Gx.gx ?_) | (with_reducible refine Gx.alloc ?_) | (with_reducible refine Gx.drew ?_) | (with_reducible refine Gx.drewN ?_) | (with_reducible refine Gx.setRow ?_ (by first | omega | (simp; done) | (simp <;> omega))) | (with_reducible refine Gx.setCell ?_ (by first | omega | (simp; done) | (simp <;> omega)))))).mono ?_; rintro e w' ⟨rfl, x2, rfl⟩))
  exact bodyPost_ret (v := .tuple #[.string S, .int .i64 0]) (by simp [results, Tryz.results20, go_sem]) rfl ⟨rfl, (by repeat (first | (with_reducible exact Gx.refl _) | (with_reducible assumption) | (with_reducible refine Gx.gx ?_) | (with_reducible refine Gx.alloc ?_) | (with_reducible refine Gx.drew ?_) | (with_reducible refine Gx.drewN ?_) | (with_reducible refine Gx.setRow ?_ (by first | omega | (simp; done) | (simp <;> omega))) | (with_reducible refine Gx.setCell ?_ (by first | omega | (simp; done) | (simp <;> omega)))))⟩
/-- Needle and ZoneOf of both sides: one answer. -/
theorem Dial_both (J : InR) (hJ : J.fits) : ∃ E : Int, (E = 0 → J.kd = 2 → J.lo < J.hi ∧ 0 ≤ J.st) ∧ ∀ n : Int, ∃ (R : Int) (S : ByteArray), (askE J.kd E n = 0 → R = needN J.lo J.hi J.st n) ∧ (∀ W, ZnAt W J.z J.zn J.Z → Calls Tryz.prog 17 #[J.v, .int .i64 n] W fun e W' => e = .returned (.tuple #[.int .i64 R, .int .i64 (askE J.kd E n)]) ∧ ∃ x, W' = gx W x) ∧ (∀ W, ZnAt W J.z J.zn J.Z → Calls Tryz.prog 18 #[J.v, .int .i64 n] W fun e W' => e = .returned (.tuple #[.int .i64 R, .int .i64 (askE J.kd E n)]) ∧ ∃ x, W' = gx W x) ∧ (∀ W, ZnAt W J.z J.zn J.Z → Calls Tryz.prog 19 #[J.v, .int .i64 n] W fun e W' => e = .returned (.tuple #[.string S, .int .i64 (askE J.kd E n)]) ∧ ∃ x, W' = gx W x) ∧ (∀ W, ZnAt W J.z J.zn J.Z → Calls Tryz.prog 20 #[J.v, .int .i64 n] W fun e W' => e = .returned (.tuple #[.string S, .int .i64 (askE J.kd E n)]) ∧ ∃ x, W' = gx W x) := by
  obtain ⟨E, C1, C2, hE⟩ := Ins_both J hJ
  obtain ⟨kd, nm, tr, pl, lo, hi, st, Z, zn, zc, op, nn, lt, sz, z⟩ := J
  dsimp only at *
  refine ⟨E, fun h0 hk => ⟨(hE h0 hk).1, by have := hE h0 hk; omega⟩, fun n => ?_⟩
  have S1 := fun W (hW : ZnAt W z zn Z) => shn_any kd nm tr pl lo hi st Z zn zc op nn lt sz n W E (Lib.hid fun W' hW' => C1 W' (by obtain ⟨x, rfl⟩ := hW'; exact hW.gx))
  have S2 := fun W (hW : ZnAt W z zn Z) => dof_any kd nm tr pl lo hi st Z zn zc op nn lt sz n W E (Lib.hid fun W' hW' => C2 W' (by obtain ⟨x, rfl⟩ := hW'; exact hW.gx))
  clear C1 C2
  by_cases h0 : askE kd E n = 0
  · obtain ⟨he, hk⟩ := askE_0 h0
    have hg := hE he hk
    rw [h0] at S1 S2 ⊢
    have hg' : lo < hi ∧ -1125899906842624 ≤ lo ∧ hi ≤ 1125899906842624 ∧ 1 ≤ st ∧ st ≤ 1000 := by omega
    obtain ⟨K, S, hK, HN, HS⟩ : ∃ (K : Nat) (S : ByteArray), K ≤ zn ∧ (∀ j, j < K → ¬ ((z j).fr ≤ n ∧ n ≤ (z j).to)) ∧ ((K = zn ∧ S = ⟨#[]⟩) ∨ (K < zn ∧ (z K).fr ≤ n ∧ n ≤ (z K).to ∧ S = (z K).nm)) := by
      rcases first_of (fun k => (z k).fr ≤ n ∧ n ≤ (z k).to) zn with ⟨k, hk, hp, hn⟩ | hn
      · exact ⟨k, _, by omega, hn, .inr ⟨hk, hp.1, hp.2, rfl⟩⟩
      · exact ⟨zn, _, by omega, hn, .inl ⟨rfl, rfl⟩⟩
    refine ⟨needN lo hi st n, S, fun _ => rfl, fun W hW => ?_, fun W hW => ?_, fun W hW => ?_, fun W hW => ?_⟩
    · exact pNeedle_b kd nm tr pl lo hi st Z zn zc op nn lt sz n W (Lib.hid fun W' hW' => S1 W' (by obtain ⟨x, rfl⟩ := hW'; exact hW.gx)) _ (Lib.hid fun W' _ => needle_any kd nm tr pl lo hi st Z zn zc op nn lt sz n W' hg')
    · exact rNeedle_b kd nm tr pl lo hi st Z zn zc op nn lt sz n W (Lib.hid fun W' hW' => S2 W' (by obtain ⟨x, rfl⟩ := hW'; exact hW.gx)) _ (Lib.hid fun W' _ => Rneedle_any kd nm tr pl lo hi st Z zn zc op nn lt sz n W' hg')
    · exact pZoneOf_b kd nm tr pl lo hi st Z zn zc op nn lt sz n W (Lib.hid fun W' hW' => S1 W' (by obtain ⟨x, rfl⟩ := hW'; exact hW.gx)) _ (Lib.hid fun W' hW' => zone_any kd nm tr pl lo hi st Z zn zc op nn lt sz z n W' (by obtain ⟨x, rfl⟩ := hW'; exact hW.gx) (by omega) K hK (Lib.hid HN) S (Lib.hid HS))
    · exact rZoneOf_b kd nm tr pl lo hi st Z zn zc op nn lt sz n W (Lib.hid fun W' hW' => S2 W' (by obtain ⟨x, rfl⟩ := hW'; exact hW.gx)) _ (Lib.hid fun W' hW' => Rzone_any kd nm tr pl lo hi st Z zn zc op nn lt sz z n W' (by obtain ⟨x, rfl⟩ := hW'; exact hW.gx) (by omega) K hK (Lib.hid HN) S (Lib.hid HS))
  · refine ⟨0, ⟨#[]⟩, fun h => absurd h h0, fun W hW => ?_, fun W hW => ?_, fun W hW => ?_, fun W hW => ?_⟩
    · exact pNeedle_a kd nm tr pl lo hi st Z zn zc op nn lt sz n W _ (Lib.hid fun W' hW' => S1 W' (by obtain ⟨x, rfl⟩ := hW'; exact hW.gx)) h0
    · exact rNeedle_a kd nm tr pl lo hi st Z zn zc op nn lt sz n W _ (Lib.hid fun W' hW' => S2 W' (by obtain ⟨x, rfl⟩ := hW'; exact hW.gx)) h0
    · exact pZoneOf_a kd nm tr pl lo hi st Z zn zc op nn lt sz n W _ (Lib.hid fun W' hW' => S1 W' (by obtain ⟨x, rfl⟩ := hW'; exact hW.gx)) h0
    · exact rZoneOf_a kd nm tr pl lo hi st Z zn zc op nn lt sz n W _ (Lib.hid fun W' hW' => S2 W' (by obtain ⟨x, rfl⟩ := hW'; exact hW.gx)) h0
end Go.Proofs.YtocaphcnnmcnjaaGreatDoor
