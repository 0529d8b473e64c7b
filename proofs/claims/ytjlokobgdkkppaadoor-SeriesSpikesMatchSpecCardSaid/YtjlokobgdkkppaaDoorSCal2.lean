/-
  CheckCalibration of any calibration, the program's and the reference's: contracts.
-/
import Derived.Test.YtjlokobgdkkppaaDoorSCal
namespace Go.Proofs.YtjlokobgdkkppaaDoor
open Go.RowKit
-- AT2

/-- A calibration's value. -/
abbrev calV (den : Int) (A : Option Addr) (n c : Nat) (lo hi : Int) : Value := .agg #[.int .i64 den, .slice A n c, .int .i64 lo, .int .i64 hi]
theorem calE_den {den : Int} {g : Nat → Ln} {n : Nat} {lo hi : Int} (h : inB 1 1000000 den = false) : calE den g n lo hi = 9 := by unfold calE; rw [if_pos (inB_no.1 h)]
theorem calE_n0 {den : Int} {g : Nat → Ln} {n : Nat} {lo hi : Int} (h : inB 1 1000000 den = true) (h0 : n = 0) : calE den g n lo hi = 13 := by unfold calE; rw [if_neg (fun h2 => h2 (inB_iff.1 h)), if_pos h0]
theorem calE_big {den : Int} {g : Nat → Ln} {n : Nat} {lo hi : Int} (h : inB 1 1000000 den = true) (h0 : 50 < n) : calE den g n lo hi = 3 := by unfold calE; rw [if_neg (fun h2 => h2 (inB_iff.1 h)), if_neg (by omega), if_pos h0]
theorem calE_lns {den : Int} {g : Nat → Ln} {n : Nat} {lo hi : Int} (h : inB 1 1000000 den = true) (h0 : 0 < n) (h1 : n ≤ 50) {e : Int} (h2 : lnsE g n = e) (he : e ≠ 0) : calE den g n lo hi = e := by
  unfold calE; rw [if_neg (fun h2 => h2 (inB_iff.1 h)), if_neg (by omega), if_neg (by omega), h2, if_pos he]
theorem calE_last {den : Int} {g : Nat → Ln} {n : Nat} {lo hi : Int} (h : inB 1 1000000 den = true) (h0 : 0 < n) (h1 : n ≤ 50) (h2 : lnsE g n = 0) : calE den g n lo hi = if ¬ (isN lo ∧ isN hi ∧ lo ≤ hi) then 9 else 0 := by
  unfold calE; rw [if_neg (fun h2 => h2 (inB_iff.1 h)), if_neg (by omega), if_neg (by omega), h2, if_neg (fun h => h rfl)]
theorem calE_ok {den : Int} {g : Nat → Ln} {n : Nat} {lo hi : Int} (h : calE den g n lo hi = 0) : 0 < n ∧ n ≤ 50 ∧ Good g n ∧ isN lo ∧ isN hi ∧ lo ≤ hi := by
  unfold calE at h
  split at h
  · omega
  · split at h
    · omega
    · split at h
      · omega
      · split at h
        · rename_i h2; exact absurd h h2
        · split at h
          · omega
          · rename_i h1 h2 h3 h4
            have h4' := Classical.byContradiction h4
            exact ⟨by omega, by omega, good_of (Classical.byContradiction h3), h4'⟩

set_option maxHeartbeats 4000000 in
set_option maxRecDepth 100000 in
theorem CheckCal_any (den : Int) (g : Nat → Ln) (n c : Nat) (A : Option Addr) (lo hi : Int) (w : World) (hL : LnAt w g n A) :
    Calls Tryd.prog 47 #[calV den A n c lo hi] w fun e w' => e = .returned (.int .i64 (calE den g n lo hi)) ∧ ∃ x, w' = gx w x := by
  cases hd : inB 1 1000000 den with
  | false =>
    have HE := Lib.hid (calE_den (g := g) (n := n) (lo := lo) (hi := hi) hd)
    go_enter Tryd.func47, Tryd.ntmps47
    go_wp2_with (go_at_call 76; refine (isDen_any _ _).mono ?_; rw [hd]; rintro e w' ⟨rfl, rfl⟩)
    go_ret
    exact ⟨by rw [HE.out]; first | done | rfl, (by repeat (first | (with_reducible exact Gx.refl _) | (with_reducible assumption) | (with_reducible refine Gx.gx ?_) | (with_reducible refine Gx.alloc ?_) | (with_reducible refine Gx.drew ?_) | (with_reducible refine Gx.drewN ?_) | (with_reducible refine Gx.setRow ?_ (by simp)) | (with_reducible refine Gx.setCell ?_ (by simp))))⟩
  | true =>
    rcases Nat.eq_zero_or_pos n with h0 | h0
    · have HE := Lib.hid (calE_n0 (g := g) (lo := lo) (hi := hi) hd h0)
      subst h0
      go_enter Tryd.func47, Tryd.ntmps47
      go_wp2_with (go_at_call 76; refine (isDen_any _ _).mono ?_; rw [hd]; rintro e w' ⟨rfl, rfl⟩)
      go_ret
      exact ⟨by rw [HE.out]; first | done | rfl, (by repeat (first | (with_reducible exact Gx.refl _) | (with_reducible assumption) | (with_reducible refine Gx.gx ?_) | (with_reducible refine Gx.alloc ?_) | (with_reducible refine Gx.drew ?_) | (with_reducible refine Gx.drewN ?_) | (with_reducible refine Gx.setRow ?_ (by simp)) | (with_reducible refine Gx.setCell ?_ (by simp))))⟩
    · have hn0 : ((n : Int) == 0) = false := by simpa using (by omega : n ≠ 0)
      by_cases h1 : 50 < n
      · have HE := Lib.hid (calE_big (g := g) (lo := lo) (hi := hi) hd h1)
        go_enter Tryd.func47, Tryd.ntmps47
        go_wp2_with (go_at_call 76; refine (isDen_any _ _).mono ?_; rw [hd]; rintro e w' ⟨rfl, rfl⟩)
        go_ret
        exact ⟨by rw [HE.out]; first | done | rfl, (by repeat (first | (with_reducible exact Gx.refl _) | (with_reducible assumption) | (with_reducible refine Gx.gx ?_) | (with_reducible refine Gx.alloc ?_) | (with_reducible refine Gx.drew ?_) | (with_reducible refine Gx.drewN ?_) | (with_reducible refine Gx.setRow ?_ (by simp)) | (with_reducible refine Gx.setCell ?_ (by simp))))⟩
      · have h1' : n ≤ 50 := by omega
        have hlw : LnAt (w.alloc (.cells #[.int .i64 den, .slice A n c, .int .i64 lo, .int .i64 hi] 39)) g n A := by rw [alloc_is]; exact hL.gx
        by_cases he : lnsE g n = 0
        · have HE := Lib.hid (calE_last (lo := lo) (hi := hi) hd h0 h1' he)
          have key : (if ¬ (isN lo ∧ isN hi ∧ lo ≤ hi) then (9 : Int) else 0) = if (nB lo && nB hi && decide (lo ≤ hi)) = true then 0 else 9 := by
            by_cases a : isN lo <;> by_cases b : isN hi <;> by_cases d : lo ≤ hi <;> simp [nB, a, b, d]
          have HK := Lib.hid key
          have HL := Lib.hid he
          clear he key
          by_cases hlo : lo ≤ hi
          all_goals go_enter Tryd.func47, Tryd.ntmps47
          all_goals go_wp2_with first
            | (go_at_call 76; refine (isDen_any _ _).mono ?_; rw [hd]; rintro e w' ⟨rfl, rfl⟩)
            | (go_at_call 83; refine (checkLines_any g n c A _ h1' hlw).mono ?_; rw [HL.out]; rintro e w' ⟨rfl, x, rfl⟩)
            | (go_at_call 69; refine (isNumber_any _ _).mono ?_; rintro e w' ⟨rfl, rfl⟩)
          all_goals go_ret
          all_goals exact ⟨by rw [HE.out, HK.out]; refine ret_i ?_; simp [*], (by repeat (first | (with_reducible exact Gx.refl _) | (with_reducible assumption) | (with_reducible refine Gx.gx ?_) | (with_reducible refine Gx.alloc ?_) | (with_reducible refine Gx.drew ?_) | (with_reducible refine Gx.drewN ?_) | (with_reducible refine Gx.setRow ?_ (by simp)) | (with_reducible refine Gx.setCell ?_ (by simp))))⟩
        · have HE := Lib.hid (calE_lns (lo := lo) (hi := hi) hd h0 h1' rfl he)
          have hne : ((lnsE g n) != 0) = true := by simpa using he
          have hne' : ((lnsE g n) == 0) = false := by simpa using he
          clear he
          go_enter Tryd.func47, Tryd.ntmps47
          go_wp2_with first
            | (go_at_call 76; refine (isDen_any _ _).mono ?_; rw [hd]; rintro e w' ⟨rfl, rfl⟩)
            | (go_at_call 83; refine (checkLines_any g n c A _ h1' hlw).mono ?_; rintro e w' ⟨rfl, x, rfl⟩)
          go_ret
          exact ⟨by rw [HE.out]; first | done | rfl, (by repeat (first | (with_reducible exact Gx.refl _) | (with_reducible assumption) | (with_reducible refine Gx.gx ?_) | (with_reducible refine Gx.alloc ?_) | (with_reducible refine Gx.drew ?_) | (with_reducible refine Gx.drewN ?_) | (with_reducible refine Gx.setRow ?_ (by simp)) | (with_reducible refine Gx.setCell ?_ (by simp))))⟩

/-- The four tests of a line, as the reference makes them. -/
theorem lB_in {l : Ln} : lB l = (inB (-1099511627776) 1099511627776 l.f && inB (-1099511627776) 1099511627776 l.t && decide (l.f ≤ l.t) && inB (-1048576) 1048576 l.a && inB (-1125899906842624) 1125899906842624 l.b) := by
  rw [Bool.eq_iff_iff, lB_iff]
  simp only [Bool.and_eq_true, inB_iff, decide_eq_true_eq]
  unfold lnOk
  constructor
  · rintro ⟨h1, h2, h3, h4, h5, h6, h7, h8, h9⟩
    exact ⟨⟨⟨⟨⟨h1, h2⟩, h3, h4⟩, h5⟩, h6, h7⟩, h8, h9⟩
  · rintro ⟨⟨⟨⟨⟨h1, h2⟩, h3, h4⟩, h5⟩, h6, h7⟩, h8, h9⟩
    exact ⟨h1, h2, h3, h4, h5, h6, h7, h8, h9⟩
theorem nB_in {n : Int} : nB n = inB (-1125899906842624) 1125899906842624 n := by
  rw [Bool.eq_iff_iff, nB_iff, inB_iff]; unfold isN; exact Iff.rfl
set_option maxHeartbeats 8000000 in
set_option maxRecDepth 100000 in
theorem RCheckCal_any (den : Int) (g : Nat → Ln) (n c : Nat) (A : Option Addr) (lo hi : Int) (w : World) (hL : LnAt w g n A) :
    Calls Tryd.prog 49 #[calV den A n c lo hi] w fun e w' => e = .returned (.int .i64 (calE den g n lo hi)) ∧ ∃ x, w' = gx w x := by
  cases hd : inB 1 1000000 den with
  | false =>
    have HE := Lib.hid (calE_den (g := g) (n := n) (lo := lo) (hi := hi) hd)
    go_enter Tryd.func49, Tryd.ntmps49
    go_wp2_with (go_at_call 57; refine (outside_any _ _ _ _).mono ?_; rw [hd]; rintro e w' ⟨rfl, rfl⟩)
    go_ret
    exact ⟨by rw [HE.out]; first | done | rfl, (by repeat (first | (with_reducible exact Gx.refl _) | (with_reducible assumption) | (with_reducible refine Gx.gx ?_) | (with_reducible refine Gx.alloc ?_) | (with_reducible refine Gx.drew ?_) | (with_reducible refine Gx.drewN ?_) | (with_reducible refine Gx.setRow ?_ (by simp)) | (with_reducible refine Gx.setCell ?_ (by simp))))⟩
  | true =>
    rcases Nat.eq_zero_or_pos n with h0 | h0
    · have HE := Lib.hid (calE_n0 (g := g) (lo := lo) (hi := hi) hd h0)
      subst h0
      go_enter Tryd.func49, Tryd.ntmps49
      go_wp2_with (go_at_call 57; refine (outside_any _ _ _ _).mono ?_; rw [hd]; rintro e w' ⟨rfl, rfl⟩)
      go_ret
      exact ⟨by rw [HE.out]; first | done | rfl, (by repeat (first | (with_reducible exact Gx.refl _) | (with_reducible assumption) | (with_reducible refine Gx.gx ?_) | (with_reducible refine Gx.alloc ?_) | (with_reducible refine Gx.drew ?_) | (with_reducible refine Gx.drewN ?_) | (with_reducible refine Gx.setRow ?_ (by simp)) | (with_reducible refine Gx.setCell ?_ (by simp))))⟩
    · have hn0 : ((n : Int) == 0) = false := by simpa using (by omega : n ≠ 0)
      by_cases h1 : 50 < n
      · have HE := Lib.hid (calE_big (g := g) (lo := lo) (hi := hi) hd h1)
        go_enter Tryd.func49, Tryd.ntmps49
        go_wp2_with (go_at_call 57; refine (outside_any _ _ _ _).mono ?_; rw [hd]; rintro e w' ⟨rfl, rfl⟩)
        go_ret
        exact ⟨by rw [HE.out]; first | done | rfl, (by repeat (first | (with_reducible exact Gx.refl _) | (with_reducible assumption) | (with_reducible refine Gx.gx ?_) | (with_reducible refine Gx.alloc ?_) | (with_reducible refine Gx.drew ?_) | (with_reducible refine Gx.drewN ?_) | (with_reducible refine Gx.setRow ?_ (by simp)) | (with_reducible refine Gx.setCell ?_ (by simp))))⟩
      · have h1' : n ≤ 50 := by omega
        obtain ⟨b, o, rfl, hbw, HC⟩ := hL.get h0
        clear hL
        go_enter Tryd.func49, Tryd.ntmps49
        go_wp2_with (go_at_call 57; refine (outside_any _ _ _ _).mono ?_; rw [hd]; rintro e w' ⟨rfl, rfl⟩)
        go_loopw [3] (fun i wr => ∃ k : Nat, k ≤ n ∧ i = .int .i64 k ∧ firstOf (bad1 g) k = 0 ∧ ∃ x, wr = gx (w.alloc (.cells #[.int .i64 den, .slice (some ⟨b, o, none⟩) n c, .int .i64 lo, .int .i64 hi] 39)) x) (fun i _ => n - (intOf i).toNat)
        case atStart => exact ⟨0, Nat.zero_le _, rfl, firstOf_0 _, Gx.refl _⟩
        case round =>
          obtain ⟨k, hk, rfl, hck, y, rfl⟩ := hrel
          have HCK := Lib.hid hck
          clear hck
          by_cases hlt : k < n
          · obtain ⟨c1, c2, c3, c4⟩ := HC.out k hlt
            by_cases hok : lnOk (g k)
            · have hb : lB (g k) = true := lB_iff.2 hok
              rw [lB_in] at hb
              simp only [Bool.and_eq_true, decide_eq_true_eq] at hb
              obtain ⟨⟨⟨⟨b1, b2⟩, b3⟩, b4⟩, b5⟩ := hb
              have d3 : decide ((g k).t < (g k).f) = false := decide_eq_false (by omega)
              rcases Nat.eq_zero_or_pos k with h00 | h00
              · have HE := Lib.hid ((firstOf_succ HCK.out).trans (bad1_ok hok (fun h => by omega)))
                have dk : decide (0 < k) = false := decide_eq_false (by omega)
                clear hok h00
                go_wp2_with (go_at_call 57; refine (outside_any _ _ _ _).mono ?_; (first | rw [b1] | rw [b2] | rw [b4] | rw [b5]); rintro e w' ⟨rfl, rfl⟩)
                go_quiet (fail)
                go_wp2
                go_roundw
                case rel => exact ⟨k + 1, by omega, by go_num, HE.out, (by repeat (first | (with_reducible exact Gx.refl _) | (with_reducible assumption) | (with_reducible refine Gx.gx ?_) | (with_reducible refine Gx.alloc ?_) | (with_reducible refine Gx.drew ?_) | (with_reducible refine Gx.drewN ?_) | (with_reducible refine Gx.setRow ?_ (by simp)) | (with_reducible refine Gx.setCell ?_ (by simp))))⟩
                case measure => simp [intOf]; omega
              · obtain ⟨j, hj⟩ : ∃ j, k = j + 1 := ⟨k - 1, by omega⟩
                obtain ⟨d1, d2, d3, d4⟩ := HC.out j (by omega)
                have hjn : j < n := by omega
                have hb1 : b < w.heap.size + 1 + y.n := by omega
                have hb2 : b < w.heap.size + 1 + y.n + 1 := by omega
                have hs1 : w.heap.size < w.heap.size + 1 + y.n := by omega
                have hs2 : w.heap.size < w.heap.size + 1 + y.n + 1 := by omega
                have dk : decide (0 < k) = true := decide_eq_true (by omega)
                have ej : k - 1 = j := by omega
                by_cases hr : (g k).f ≤ (g j).t
                · have HB := Lib.hid (calE_lns (lo := lo) (hi := hi) hd h0 h1' (lnsE_1 (firstOf_bad HCK.out hlt (bad1_order hok (by omega) (by rw [ej]; exact hr)) (by decide)) (by decide)) (by decide))
                  have hd : decide ((g k).f ≤ (g j).t) = true := decide_eq_true hr
                  have e1 : IntKind.i64.wrap ((k : Int) - 1) = (j : Int) := by rw [IntWalk.i64_in _ (by omega)]; omega
                  clear hok hr ej hj
                  go_wp2_with (go_at_call 57; refine (outside_any _ _ _ _).mono ?_; (first | rw [b1] | rw [b2] | rw [b4] | rw [b5]); rintro e w' ⟨rfl, rfl⟩)
                  go_quiet (fail)
                  go_wp2
                  go_ret
                  exact ⟨by rw [HB.out]; first | done | rfl, (by repeat (first | (with_reducible exact Gx.refl _) | (with_reducible assumption) | (with_reducible refine Gx.gx ?_) | (with_reducible refine Gx.alloc ?_) | (with_reducible refine Gx.drew ?_) | (with_reducible refine Gx.drewN ?_) | (with_reducible refine Gx.setRow ?_ (by simp)) | (with_reducible refine Gx.setCell ?_ (by simp))))⟩
                · have HE := Lib.hid ((firstOf_succ HCK.out).trans (bad1_ok hok (fun h => hr (by rw [← ej]; exact h.2))))
                  have hd : decide ((g k).f ≤ (g j).t) = false := decide_eq_false hr
                  have e1 : IntKind.i64.wrap ((k : Int) - 1) = (j : Int) := by rw [IntWalk.i64_in _ (by omega)]; omega
                  clear hok hr ej hj
                  go_wp2_with (go_at_call 57; refine (outside_any _ _ _ _).mono ?_; (first | rw [b1] | rw [b2] | rw [b4] | rw [b5]); rintro e w' ⟨rfl, rfl⟩)
                  go_quiet (fail)
                  go_wp2
                  go_roundw
                  case rel => exact ⟨k + 1, by omega, by go_num, HE.out, (by repeat (first | (with_reducible exact Gx.refl _) | (with_reducible assumption) | (with_reducible refine Gx.gx ?_) | (with_reducible refine Gx.alloc ?_) | (with_reducible refine Gx.drew ?_) | (with_reducible refine Gx.drewN ?_) | (with_reducible refine Gx.setRow ?_ (by simp)) | (with_reducible refine Gx.setCell ?_ (by simp))))⟩
                  case measure => simp [intOf]; omega
            · have hb : lB (g k) = false := lB_no.2 hok
              have HB := Lib.hid (calE_lns (lo := lo) (hi := hi) hd h0 h1' (lnsE_1 (firstOf_bad HCK.out hlt (bad1_line hok) (by decide)) (by decide)) (by decide))
              clear hok
              rw [lB_in] at hb
              have HN := Lib.hid hb
              clear hb
              go_wp2_with (go_at_call 57; refine (outside_any _ _ _ _).mono ?_; rintro e w' ⟨rfl, rfl⟩)
              all_goals first
                | (go_ret; exact ⟨by rw [HB.out]; first | done | rfl, (by repeat (first | (with_reducible exact Gx.refl _) | (with_reducible assumption) | (with_reducible refine Gx.gx ?_) | (with_reducible refine Gx.alloc ?_) | (with_reducible refine Gx.drew ?_) | (with_reducible refine Gx.drewN ?_) | (with_reducible refine Gx.setRow ?_ (by simp)) | (with_reducible refine Gx.setCell ?_ (by simp))))⟩)
                | (exfalso; have := HN.out; first | (simp_all; done) | (simp_all; omega))
          · obtain rfl : k = n := by omega
            have HA := Lib.hid (firstOf_all HCK.out)
            have HLE := Lib.hid (lnsE_2 HCK.out)
            clear HCK hlt
            go_wp2
            go_loopw [5] (fun i wr => ∃ j : Nat, j ≤ k ∧ i = .int .i64 j ∧ firstOf (bad2 g) j = 0 ∧ ∃ x, wr = gx (w.alloc (.cells #[.int .i64 den, .slice (some ⟨b, o, none⟩) k c, .int .i64 lo, .int .i64 hi] 39)) x) (fun i _ => k - (intOf i).toNat)
            case atStart => exact ⟨0, Nat.zero_le _, rfl, firstOf_0 _, _, rfl⟩
            case round =>
              obtain ⟨j, hj, rfl, hcj, z, rfl⟩ := hrel
              have HCK := Lib.hid hcj
              clear hcj
              by_cases hlt : j < k
              · obtain ⟨c1, c2, c3, c4⟩ := HC.out j hlt
                have hok : lnOk (g j) := by
                  have := HA.out j hlt
                  unfold bad1 at this
                  by_cases h : lnOk (g j)
                  · exact h
                  · rw [if_pos h] at this; omega
                unfold lnOk at hok
                obtain ⟨o1, o2, o3, o4, o5, o6, o7, o8, o9⟩ := hok
                have m1 := mul_small o6 o7 o1 o2
                have m2 := mul_small o6 o7 o3 o4
                have HP1 := Lib.hid (nB_in (n := (g j).a * (g j).f + (g j).b))
                have HP2 := Lib.hid (nB_in (n := (g j).a * (g j).t + (g j).b))
                have hcase : (isN ((g j).a * (g j).f + (g j).b) ∧ isN ((g j).a * (g j).t + (g j).b)) ∨ ¬ (isN ((g j).a * (g j).f + (g j).b) ∧ isN ((g j).a * (g j).t + (g j).b)) := Classical.em _
                obtain ⟨p, hp⟩ : ∃ p, p = (g j).a * (g j).f := ⟨_, rfl⟩
                obtain ⟨q, hq⟩ : ∃ q, q = (g j).a * (g j).t := ⟨_, rfl⟩
                have HB2 : Hid (bad2 g j = if isN (p + (g j).b) ∧ isN (q + (g j).b) then 0 else 9) := by
                  rw [hp, hq]; unfold bad2; exact rfl
                rw [← hp] at m1 HP1 hcase
                rw [← hq] at m2 HP2 hcase
                have w1 : IntKind.i64.wrap ((g j).a * (g j).f) = p := by rw [← hp]; exact IntWalk.i64_in _ (by omega)
                have w2 : IntKind.i64.wrap ((g j).a * (g j).t) = q := by rw [← hq]; exact IntWalk.i64_in _ (by omega)
                clear hp hq
                rcases hcase with hcase | hcase
                · have b1 : inB (-1125899906842624) 1125899906842624 (p + (g j).b) = true := HP1.out ▸ nB_iff.2 hcase.1
                  have b2 : inB (-1125899906842624) 1125899906842624 (q + (g j).b) = true := HP2.out ▸ nB_iff.2 hcase.2
                  have HE := Lib.hid ((firstOf_succ HCK.out).trans (HB2.out.trans (if_pos hcase)))
                  clear hcase
                  go_wp2_with (go_at_call 57; refine (outside_any _ _ _ _).mono ?_; (first | rw [b1] | rw [b2]); rintro e w' ⟨rfl, rfl⟩)
                  go_roundw
                  case rel => exact ⟨j + 1, by omega, by go_num, HE.out, (by repeat (first | (with_reducible exact Gx.refl _) | (with_reducible assumption) | (with_reducible refine Gx.gx ?_) | (with_reducible refine Gx.alloc ?_) | (with_reducible refine Gx.drew ?_) | (with_reducible refine Gx.drewN ?_) | (with_reducible refine Gx.setRow ?_ (by simp)) | (with_reducible refine Gx.setCell ?_ (by simp))))⟩
                  case measure => simp [intOf]; omega
                · have HE := Lib.hid (calE_lns (lo := lo) (hi := hi) hd h0 h1' (HLE.out.trans (firstOf_bad HCK.out hlt (HB2.out.trans (if_neg hcase)) (by decide))) (by decide))
                  have HN := Lib.hid hcase
                  clear hcase
                  go_wp2_with (go_at_call 57; refine (outside_any _ _ _ _).mono ?_; rintro e w' ⟨rfl, rfl⟩)
                  all_goals first
                    | (go_ret; exact ⟨by rw [HE.out]; first | done | rfl, (by repeat (first | (with_reducible exact Gx.refl _) | (with_reducible assumption) | (with_reducible refine Gx.gx ?_) | (with_reducible refine Gx.alloc ?_) | (with_reducible refine Gx.drew ?_) | (with_reducible refine Gx.drewN ?_) | (with_reducible refine Gx.setRow ?_ (by simp)) | (with_reducible refine Gx.setCell ?_ (by simp))))⟩)
                    | (exfalso; refine HN.out ⟨nB_iff.1 (HP1.out.trans ?_), nB_iff.1 (HP2.out.trans ?_)⟩ <;> simp_all)
              · obtain rfl : j = k := by omega
                have HE := Lib.hid (calE_last (lo := lo) (hi := hi) hd h0 h1' (HLE.out.trans HCK.out))
                have key : (if ¬ (isN lo ∧ isN hi ∧ lo ≤ hi) then (9 : Int) else 0) = if (inB (-1125899906842624) 1125899906842624 lo && inB (-1125899906842624) 1125899906842624 hi && decide (lo ≤ hi)) = true then 0 else 9 := by
                  rw [← nB_in, ← nB_in]
                  by_cases a : isN lo <;> by_cases b : isN hi <;> by_cases d : lo ≤ hi <;> simp [nB, a, b, d]
                have HK := Lib.hid key
                clear key hlt HCK
                have hs1 : w.heap.size < w.heap.size + 1 + z.n := by omega
                by_cases hlo : lo ≤ hi
                all_goals go_wp2_with (go_at_call 57; refine (outside_any _ _ _ _).mono ?_; rintro e w' ⟨rfl, rfl⟩)
                all_goals go_ret
                all_goals exact ⟨by rw [HE.out, HK.out]; refine ret_i ?_; simp [*], (by repeat (first | (with_reducible exact Gx.refl _) | (with_reducible assumption) | (with_reducible refine Gx.gx ?_) | (with_reducible refine Gx.alloc ?_) | (with_reducible refine Gx.drew ?_) | (with_reducible refine Gx.drewN ?_) | (with_reducible refine Gx.setRow ?_ (by simp)) | (with_reducible refine Gx.setCell ?_ (by simp))))⟩
end Go.Proofs.YtjlokobgdkkppaaDoor
