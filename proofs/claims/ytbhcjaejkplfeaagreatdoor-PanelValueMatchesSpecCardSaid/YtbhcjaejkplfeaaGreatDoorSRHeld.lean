/-
  What is held at a time, the reference's: contracts.
-/
import Derived.Test.YtbhcjaejkplfeaaGreatDoorSHold
import Derived.Test.YtbhcjaejkplfeaaGreatDoorSRSer
namespace Go.Proofs.YtbhcjaejkplfeaaGreatDoor
open Go.RowKit
-- AT2

theorem Rsolid_any (m : Int) (w : World) : Calls Tryz.prog 128 #[.int .i64 m] w fun e w' => e = .returned (.bool (decide (3 ≤ m))) ∧ w = w' := by
  go_enter Tryz.func128, Tryz.ntmps128
  go_wp2
  go_ret
  exact ⟨rfl, rfl⟩
set_option maxHeartbeats 4000000 in
set_option maxRecDepth 100000 in
theorem Held_any (den : Int) (g : Nat → Sm) (n c : Nat) (A : Option Addr) (a l : Int) (w : World) (hL : SmAt w g n A) (hn : n ≤ 20000) (hG : GoodS g n) (ha1 : 0 ≤ a) (ha2 : a ≤ 1099511627776) :
    Calls Tryz.prog 107 #[serV den A n c, .int .i64 a, .int .i64 l] w fun e w' => e = .returned (.tuple #[smV (heldV g (aheadN g (a + 1) n) a l).t (heldV g (aheadN g (a + 1) n) a l).n (heldV g (aheadN g (a + 1) n) a l).m, .bool (heldB g (aheadN g (a + 1) n) a l)]) ∧ ∃ x, w' = gx w x := by
  go_enter Tryz.func107, Tryz.ntmps107
  go_wp2
  go_quiet (fail)
  go_wp2
  go_loopw [8, 9] (fun i j wr => ∃ lo hi : Nat, lo ≤ hi ∧ hi ≤ n ∧ i = .int .i64 lo ∧ j = .int .i64 hi ∧ Hid (∀ k, k < lo → (g k).t < a + 1) ∧ Hid (∀ k, hi ≤ k → k < n → a + 1 ≤ (g k).t) ∧ ∃ x, wr = gx ((w.alloc (.cells #[.int .i64 den, .slice A n c] 41)).alloc (.cells #[.int .i64 0, .int .i64 0, .int .i64 0] 45)) x) (fun i j _ => (intOf j - intOf i).toNat)
  case atStart => exact ⟨0, n, Nat.zero_le _, Nat.le_refl _, rfl, rfl, fun k hk => by omega, fun k h1 h2 => by omega, (by repeat (first | (with_reducible exact Gx.refl _) | (with_reducible assumption) | (with_reducible refine Gx.gx ?_) | (with_reducible refine Gx.alloc ?_) | (with_reducible refine Gx.drew ?_) | (with_reducible refine Gx.drewN ?_) | (with_reducible refine Gx.setRow ?_ (by simp)) | (with_reducible refine Gx.setCell ?_ (by simp))))⟩
  case round =>
    obtain ⟨lo, hi, h1, h2, rfl, rfl, H1, H2, y, rfl⟩ := hrel
    by_cases hlt : lo < hi
    · have hz : (lo : Int) < (hi : Int) := by omega
      obtain ⟨m, em⟩ : ∃ m : Nat, ((lo : Int) + (hi : Int)) / 2 = (m : Int) := ⟨(lo + hi) / 2, by omega⟩
      have m1 : lo ≤ m := by omega
      have m2 : m < hi := by omega
      have hmn : m < n := by omega
      obtain ⟨b, o, rfl, hbw, HC⟩ := hL.get (by omega)
      obtain ⟨c1, c2, c3⟩ := HC.out m hmn
      by_cases hr : (g m).t ≤ a
      · have dr : decide ((g m).t ≤ a) = true := decide_eq_true hr
        have N1 : Hid (∀ k, k < m + 1 → (g k).t < a + 1) := fun k hk => by have := hG.le (show k ≤ m by omega) hmn; omega
        clear hr
        go_wp2
        go_roundw
        case rel => exact ⟨m + 1, hi, by omega, by omega, by go_num, rfl, N1, H2, (by repeat (first | (with_reducible exact Gx.refl _) | (with_reducible assumption) | (with_reducible refine Gx.gx ?_) | (with_reducible refine Gx.alloc ?_) | (with_reducible refine Gx.drew ?_) | (with_reducible refine Gx.drewN ?_) | (with_reducible refine Gx.setRow ?_ (by simp)) | (with_reducible refine Gx.setCell ?_ (by simp))))⟩
        case measure => simp [intOf]; omega
      · have dr : decide ((g m).t ≤ a) = false := decide_eq_false hr
        have N2 : Hid (∀ k, m ≤ k → k < n → a + 1 ≤ (g k).t) := fun k h3 h4 => by have := hG.le h3 h4; omega
        clear hr
        go_wp2
        go_roundw
        case rel => exact ⟨lo, m, by omega, by omega, rfl, by go_num, H1, N2, (by repeat (first | (with_reducible exact Gx.refl _) | (with_reducible assumption) | (with_reducible refine Gx.gx ?_) | (with_reducible refine Gx.alloc ?_) | (with_reducible refine Gx.drew ?_) | (with_reducible refine Gx.drewN ?_) | (with_reducible refine Gx.setRow ?_ (by simp)) | (with_reducible refine Gx.setCell ?_ (by simp))))⟩
        case measure => simp [intOf]; omega
    · obtain rfl : lo = hi := by omega
      have hc := aheadN_uniq hG h2 H1.out H2.out
      have Hc := Lib.hid hc
      clear H1 H2 hlt hc h1
      rcases Nat.eq_zero_or_pos lo with h0 | h0
      · have hb : heldB g lo a l = false := heldB_no.2 (fun h => by omega)
        have Hb := Lib.hid hb
        subst h0
        clear hb
        go_wp2
        exact bodyPost_ret (v := .tuple #[smV 0 0 0, .bool false]) (by simp [results, Tryz.results107, go_sem]) rfl ⟨by rw [Hc.out, heldV_no Hb.out, Hb.out], (by repeat (first | (with_reducible exact Gx.refl _) | (with_reducible assumption) | (with_reducible refine Gx.gx ?_) | (with_reducible refine Gx.alloc ?_) | (with_reducible refine Gx.drew ?_) | (with_reducible refine Gx.drewN ?_) | (with_reducible refine Gx.setRow ?_ (by simp)) | (with_reducible refine Gx.setCell ?_ (by simp))))⟩
      · obtain ⟨j, rfl⟩ : ∃ j, lo = j + 1 := ⟨lo - 1, by omega⟩
        obtain ⟨b, o, rfl, hbw, HC⟩ := hL.get (by omega)
        obtain ⟨c1, c2, c3⟩ := HC.out j (by omega)
        have hok := hG.ok j (by omega)
        unfold smOk at hok
        obtain ⟨o1, o2, o3, o4, o5, o6⟩ := hok
        have hjn : j < n := by omega
        have ej : j + 1 - 1 = j := by omega
        by_cases h3 : 3 ≤ (g j).m
        · have d3 : decide (3 ≤ (g j).m) = true := decide_eq_true h3
          by_cases h4 : a - (g j).t ≤ l
          · have hb : heldB g (j + 1) a l = true := heldB_iff.2 ⟨h0, by rw [ej]; exact h3, by rw [ej]; exact h4⟩
            have Hb := Lib.hid hb
            have Ej := Lib.hid ej
            have d4 : decide (l < a - (g j).t) = false := decide_eq_false (by omega)
            clear hb h3 h4 ej hL
            go_wp2_with (go_at_call 128; refine (Rsolid_any _ _).mono ?_; rw [d3]; rintro e w' ⟨rfl, rfl⟩)
            exact bodyPost_ret (v := .tuple #[smV (g j).t (g j).n (g j).m, .bool true]) (by simp [results, Tryz.results107, go_sem]) rfl ⟨by rw [Hc.out, heldV_yes Hb.out, Hb.out, Ej.out], (by repeat (first | (with_reducible exact Gx.refl _) | (with_reducible assumption) | (with_reducible refine Gx.gx ?_) | (with_reducible refine Gx.alloc ?_) | (with_reducible refine Gx.drew ?_) | (with_reducible refine Gx.drewN ?_) | (with_reducible refine Gx.setRow ?_ (by simp)) | (with_reducible refine Gx.setCell ?_ (by simp))))⟩
          · have hb : heldB g (j + 1) a l = false := heldB_no.2 (fun h => h4 (by have := h.2.2; rw [ej] at this; exact this))
            have Hb := Lib.hid hb
            have d4 : decide (l < a - (g j).t) = true := decide_eq_true (by omega)
            clear hb h3 h4 ej hL
            go_wp2_with (go_at_call 128; refine (Rsolid_any _ _).mono ?_; rw [d3]; rintro e w' ⟨rfl, rfl⟩)
            exact bodyPost_ret (v := .tuple #[smV 0 0 0, .bool false]) (by simp [results, Tryz.results107, go_sem]) rfl ⟨by rw [Hc.out, heldV_no Hb.out, Hb.out], (by repeat (first | (with_reducible exact Gx.refl _) | (with_reducible assumption) | (with_reducible refine Gx.gx ?_) | (with_reducible refine Gx.alloc ?_) | (with_reducible refine Gx.drew ?_) | (with_reducible refine Gx.drewN ?_) | (with_reducible refine Gx.setRow ?_ (by simp)) | (with_reducible refine Gx.setCell ?_ (by simp))))⟩
        · have d3 : decide (3 ≤ (g j).m) = false := decide_eq_false h3
          have hb : heldB g (j + 1) a l = false := heldB_no.2 (fun h => h3 (by have := h.2.1; rw [ej] at this; exact this))
          have Hb := Lib.hid hb
          clear hb h3 ej hL
          go_wp2_with (go_at_call 128; refine (Rsolid_any _ _).mono ?_; rw [d3]; rintro e w' ⟨rfl, rfl⟩)
          exact bodyPost_ret (v := .tuple #[smV 0 0 0, .bool false]) (by simp [results, Tryz.results107, go_sem]) rfl ⟨by rw [Hc.out, heldV_no Hb.out, Hb.out], (by repeat (first | (with_reducible exact Gx.refl _) | (with_reducible assumption) | (with_reducible refine Gx.gx ?_) | (with_reducible refine Gx.alloc ?_) | (with_reducible refine Gx.drew ?_) | (with_reducible refine Gx.drewN ?_) | (with_reducible refine Gx.setRow ?_ (by simp)) | (with_reducible refine Gx.setCell ?_ (by simp))))⟩
end Go.Proofs.YtbhcjaejkplfeaaGreatDoor
