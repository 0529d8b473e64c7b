/-
  CheckCalibration, the program's and the reference's: contracts.
-/
import Derived.Test.YtjlokobgdkkppaaDoorSLeaf
namespace Go.Proofs.YtjlokobgdkkppaaDoor
open Go.RowKit
-- AT2

/-- The lines g 0 .. g (n - 1) lie at A. -/
@[irreducible] def LnAt (w : World) (g : Nat → Ln) (n : Nat) (A : Option Addr) : Prop := 0 < n → ∃ b o, A = some ⟨b, o, none⟩ ∧ ∀ k, k < n → w.cell? ⟨b, o + k * 4, none⟩ = some (.int .i64 (g k).f) ∧ w.cell? ⟨b, o + k * 4 + 1, none⟩ = some (.int .i64 (g k).t) ∧ w.cell? ⟨b, o + k * 4 + 2, none⟩ = some (.int .i64 (g k).a) ∧ w.cell? ⟨b, o + k * 4 + 3, none⟩ = some (.int .i64 (g k).b)
theorem LnAt.get {w : World} {g : Nat → Ln} {n : Nat} {A : Option Addr} (h : LnAt w g n A) (h0 : 0 < n) : ∃ b o, A = some ⟨b, o, none⟩ ∧ b < w.heap.size ∧ Hid (∀ k, k < n → w.cell? ⟨b, o + k * 4, none⟩ = some (.int .i64 (g k).f) ∧ w.cell? ⟨b, o + k * 4 + 1, none⟩ = some (.int .i64 (g k).t) ∧ w.cell? ⟨b, o + k * 4 + 2, none⟩ = some (.int .i64 (g k).a) ∧ w.cell? ⟨b, o + k * 4 + 3, none⟩ = some (.int .i64 (g k).b)) := by
  unfold LnAt at h
  obtain ⟨b, o, e, hc⟩ := h h0
  exact ⟨b, o, e, World.block_lt_of_cell? w _ (hc 0 h0).1, Lib.hid hc⟩
theorem LnAt.gx {w : World} {g : Nat → Ln} {n : Nat} {A : Option Addr} {x : Ext} (h : LnAt w g n A) : LnAt (gx w x) g n A := by
  unfold LnAt at *
  intro h0
  obtain ⟨b, o, e, hc⟩ := h h0
  refine ⟨b, o, e, fun k hk => ?_⟩
  obtain ⟨c1, c2, c3, c4⟩ := hc k hk
  exact ⟨cell_keep_gx c1, cell_keep_gx c2, cell_keep_gx c3, cell_keep_gx c4⟩

theorem bad1_line {g : Nat → Ln} {i : Nat} (h : ¬ lnOk (g i)) : bad1 g i = 9 := by unfold bad1; rw [if_pos h]
theorem bad1_order {g : Nat → Ln} {i : Nat} (h : lnOk (g i)) (h0 : 0 < i) (h' : (g i).f ≤ (g (i - 1)).t) : bad1 g i = 10 := by unfold bad1; rw [if_neg (fun h2 => h2 h), if_pos ⟨h0, h'⟩]
theorem bad1_ok {g : Nat → Ln} {i : Nat} (h : lnOk (g i)) (h' : ¬ (0 < i ∧ (g i).f ≤ (g (i - 1)).t)) : bad1 g i = 0 := by unfold bad1; rw [if_neg (fun h2 => h2 h), if_neg h']
theorem bad2_ok {g : Nat → Ln} {i : Nat} (h : isN ((g i).a * (g i).f + (g i).b) ∧ isN ((g i).a * (g i).t + (g i).b)) : bad2 g i = 0 := by unfold bad2; rw [if_pos h]
theorem bad2_no {g : Nat → Ln} {i : Nat} (h : ¬ (isN ((g i).a * (g i).f + (g i).b) ∧ isN ((g i).a * (g i).t + (g i).b))) : bad2 g i = 9 := by unfold bad2; rw [if_neg h]
theorem lnsE_1 {g : Nat → Ln} {n : Nat} {e : Int} (h : firstOf (bad1 g) n = e) (h0 : e ≠ 0) : lnsE g n = e := by unfold lnsE; rw [if_neg (by omega)]; exact h
theorem lnsE_2 {g : Nat → Ln} {n : Nat} (h : firstOf (bad1 g) n = 0) : lnsE g n = firstOf (bad2 g) n := by unfold lnsE; rw [if_pos h]

set_option maxHeartbeats 4000000 in
set_option maxRecDepth 100000 in
theorem checkLines_any (g : Nat → Ln) (n c : Nat) (A : Option Addr) (w : World) (hn : n ≤ 50) (hL : LnAt w g n A) :
    Calls Tryd.prog 83 #[.slice A n c] w fun e w' => e = .returned (.int .i64 (lnsE g n)) ∧ ∃ x, w' = gx w x := by
  go_enter Tryd.func83, Tryd.ntmps83
  go_wp2
  go_loopw [9] (fun i wr => ∃ k : Nat, k ≤ n ∧ i = .int .i64 k ∧ firstOf (bad1 g) k = 0 ∧ ∃ x, wr = gx w x) (fun i _ => n - (intOf i).toNat)
  case atStart => exact ⟨0, Nat.zero_le _, rfl, firstOf_0 _, Gx.refl _⟩
  case round =>
    obtain ⟨k, hk, rfl, hck, y, rfl⟩ := hrel
    have HCK := Lib.hid hck
    clear hck
    by_cases hlt : k < n
    · obtain ⟨b, o, rfl, hbw, HC⟩ := hL.get (by omega)
      obtain ⟨c1, c2, c3, c4⟩ := HC.out k hlt
      by_cases hok : lnOk (g k)
      · have hb : lB (g k) = true := lB_iff.2 hok
        rcases Nat.eq_zero_or_pos k with h0 | h0
        · have HE := Lib.hid ((firstOf_succ HCK.out).trans (bad1_ok hok (fun h => by omega)))
          have dk : decide (0 < k) = false := decide_eq_false (by omega)
          clear hok h0
          go_wp2_with (go_at_call 99; go_loud (refine (isLine_any (g k) _).mono ?_; rw [hb]; rintro e w' ⟨rfl, x, rfl⟩))
          go_quiet (fail)
          go_wp2
          go_roundw
          case rel => exact ⟨k + 1, by omega, by go_num, HE.out, (by repeat (first | (with_reducible exact Gx.refl _) | (with_reducible assumption) | (with_reducible refine Gx.gx ?_) | (with_reducible refine Gx.alloc ?_) | (with_reducible refine Gx.drew ?_) | (with_reducible refine Gx.drewN ?_) | (with_reducible refine Gx.setRow ?_ (by simp)) | (with_reducible refine Gx.setCell ?_ (by simp))))⟩
          case measure => simp [intOf]; omega
        · obtain ⟨j, hj⟩ : ∃ j, k = j + 1 := ⟨k - 1, by omega⟩
          obtain ⟨d1, d2, d3, d4⟩ := HC.out j (by omega)
          have hjn : j < n := by omega
          have hb1 : b < w.heap.size + y.n := by omega
          have hb2 : b < w.heap.size + y.n + 1 := by omega
          have dk : decide (0 < k) = true := decide_eq_true (by omega)
          have ej : k - 1 = j := by omega
          by_cases hr : (g k).f ≤ (g j).t
          · have HB := Lib.hid (lnsE_1 (firstOf_bad HCK.out hlt (bad1_order hok (by omega) (by rw [ej]; exact hr)) (by decide)) (by decide))
            have hd : decide ((g k).f ≤ (g j).t) = true := decide_eq_true hr
            have e1 : IntKind.i64.wrap ((k : Int) - 1) = (j : Int) := by rw [IntWalk.i64_in _ (by omega)]; omega
            clear hok hr ej hj
            go_wp2_with (go_at_call 99; go_loud (refine (isLine_any (g k) _).mono ?_; rw [hb]; rintro e w' ⟨rfl, x, rfl⟩))
            go_quiet (fail)
            go_wp2
            go_ret
            exact ⟨by rw [HB.out]; first | done | rfl, (by repeat (first | (with_reducible exact Gx.refl _) | (with_reducible assumption) | (with_reducible refine Gx.gx ?_) | (with_reducible refine Gx.alloc ?_) | (with_reducible refine Gx.drew ?_) | (with_reducible refine Gx.drewN ?_) | (with_reducible refine Gx.setRow ?_ (by simp)) | (with_reducible refine Gx.setCell ?_ (by simp))))⟩
          · have HE := Lib.hid ((firstOf_succ HCK.out).trans (bad1_ok hok (fun h => hr (by rw [← ej]; exact h.2))))
            have hd : decide ((g k).f ≤ (g j).t) = false := decide_eq_false hr
            have e1 : IntKind.i64.wrap ((k : Int) - 1) = (j : Int) := by rw [IntWalk.i64_in _ (by omega)]; omega
            clear hok hr ej hj
            go_wp2_with (go_at_call 99; go_loud (refine (isLine_any (g k) _).mono ?_; rw [hb]; rintro e w' ⟨rfl, x, rfl⟩))
            go_quiet (fail)
            go_wp2
            go_roundw
            case rel => exact ⟨k + 1, by omega, by go_num, HE.out, (by repeat (first | (with_reducible exact Gx.refl _) | (with_reducible assumption) | (with_reducible refine Gx.gx ?_) | (with_reducible refine Gx.alloc ?_) | (with_reducible refine Gx.drew ?_) | (with_reducible refine Gx.drewN ?_) | (with_reducible refine Gx.setRow ?_ (by simp)) | (with_reducible refine Gx.setCell ?_ (by simp))))⟩
            case measure => simp [intOf]; omega
      · have hb : lB (g k) = false := lB_no.2 hok
        have HB := Lib.hid (lnsE_1 (firstOf_bad HCK.out hlt (bad1_line hok) (by decide)) (by decide))
        clear hok
        go_wp2_with (go_at_call 99; go_loud (refine (isLine_any (g k) _).mono ?_; rw [hb]; rintro e w' ⟨rfl, x, rfl⟩))
        go_ret
        exact ⟨by rw [HB.out]; first | done | rfl, (by repeat (first | (with_reducible exact Gx.refl _) | (with_reducible assumption) | (with_reducible refine Gx.gx ?_) | (with_reducible refine Gx.alloc ?_) | (with_reducible refine Gx.drew ?_) | (with_reducible refine Gx.drewN ?_) | (with_reducible refine Gx.setRow ?_ (by simp)) | (with_reducible refine Gx.setCell ?_ (by simp))))⟩
    · obtain rfl : k = n := by omega
      have HA := Lib.hid (firstOf_all HCK.out)
      have HLE := Lib.hid (lnsE_2 HCK.out)
      clear HCK hlt
      go_wp2
      go_loopw [33] (fun i wr => ∃ j : Nat, j ≤ k ∧ i = .int .i64 j ∧ firstOf (bad2 g) j = 0 ∧ ∃ x, wr = gx w x) (fun i _ => k - (intOf i).toNat)
      case atStart => exact ⟨0, Nat.zero_le _, rfl, firstOf_0 _, _, rfl⟩
      case round =>
        obtain ⟨j, hj, rfl, hcj, z, rfl⟩ := hrel
        have HCK := Lib.hid hcj
        clear hcj
        by_cases hlt : j < k
        · obtain ⟨b, o, rfl, hbw, HC⟩ := hL.get (by omega)
          obtain ⟨c1, c2, c3, c4⟩ := HC.out j hlt
          have hok : lnOk (g j) := by
            have := HA.out j hlt
            unfold bad1 at this
            by_cases h : lnOk (g j)
            · exact h
            · rw [if_pos h] at this; omega
          unfold lnOk at hok
          obtain ⟨o1, o2, o3, o4, o5, o6, o7, o8, o9⟩ := hok
          have m1 := mul_small o6 o7 o1 o2
          have m2 := mul_small o6 o7 o3 o4
          by_cases hp : isN ((g j).a * (g j).f + (g j).b)
          · have b1 : nB ((g j).a * (g j).f + (g j).b) = true := nB_iff.2 hp
            by_cases hq : isN ((g j).a * (g j).t + (g j).b)
            · have b2 : nB ((g j).a * (g j).t + (g j).b) = true := nB_iff.2 hq
              have HE := Lib.hid ((firstOf_succ HCK.out).trans (bad2_ok ⟨hp, hq⟩))
              clear hp hq
              go_wp2_with first
                | (go_at_call 100; refine (numberOf_any _ _ _ _ _ _ (by first | exact m1 | exact m2) o8 o9).mono ?_; rintro e w' ⟨rfl, x, rfl⟩)
                | (go_at_call 69; refine (isNumber_any _ _).mono ?_; (first | rw [b1] | rw [b2]); rintro e w' ⟨rfl, rfl⟩)
              go_roundw
              case rel => exact ⟨j + 1, by omega, by go_num, HE.out, (by repeat (first | (with_reducible exact Gx.refl _) | (with_reducible assumption) | (with_reducible refine Gx.gx ?_) | (with_reducible refine Gx.alloc ?_) | (with_reducible refine Gx.drew ?_) | (with_reducible refine Gx.drewN ?_) | (with_reducible refine Gx.setRow ?_ (by simp)) | (with_reducible refine Gx.setCell ?_ (by simp))))⟩
              case measure => simp [intOf]; omega
            · have b2 : nB ((g j).a * (g j).t + (g j).b) = false := nB_no.2 hq
              have HE := Lib.hid (HLE.out.trans (firstOf_bad HCK.out hlt (bad2_no (fun h => hq h.2)) (by decide)))
              clear hp hq
              go_wp2_with first
                | (go_at_call 100; refine (numberOf_any _ _ _ _ _ _ (by first | exact m1 | exact m2) o8 o9).mono ?_; rintro e w' ⟨rfl, x, rfl⟩)
                | (go_at_call 69; refine (isNumber_any _ _).mono ?_; (first | rw [b1] | rw [b2]); rintro e w' ⟨rfl, rfl⟩)
              go_ret
              exact ⟨by rw [HE.out]; first | done | rfl, (by repeat (first | (with_reducible exact Gx.refl _) | (with_reducible assumption) | (with_reducible refine Gx.gx ?_) | (with_reducible refine Gx.alloc ?_) | (with_reducible refine Gx.drew ?_) | (with_reducible refine Gx.drewN ?_) | (with_reducible refine Gx.setRow ?_ (by simp)) | (with_reducible refine Gx.setCell ?_ (by simp))))⟩
          · have b1 : nB ((g j).a * (g j).f + (g j).b) = false := nB_no.2 hp
            have HE := Lib.hid (HLE.out.trans (firstOf_bad HCK.out hlt (bad2_no (fun h => hp h.1)) (by decide)))
            clear hp
            go_wp2_with first
              | (go_at_call 100; refine (numberOf_any _ _ _ _ _ _ m1 o8 o9).mono ?_; rintro e w' ⟨rfl, x, rfl⟩)
              | (go_at_call 69; refine (isNumber_any _ _).mono ?_; rw [b1]; rintro e w' ⟨rfl, rfl⟩)
            go_ret
            exact ⟨by rw [HE.out]; first | done | rfl, (by repeat (first | (with_reducible exact Gx.refl _) | (with_reducible assumption) | (with_reducible refine Gx.gx ?_) | (with_reducible refine Gx.alloc ?_) | (with_reducible refine Gx.drew ?_) | (with_reducible refine Gx.drewN ?_) | (with_reducible refine Gx.setRow ?_ (by simp)) | (with_reducible refine Gx.setCell ?_ (by simp))))⟩
        · obtain rfl : j = k := by omega
          have HE := Lib.hid (HLE.out.trans HCK.out)
          go_wp2
          go_ret
          exact ⟨by rw [HE.out]; first | done | rfl, (by repeat (first | (with_reducible exact Gx.refl _) | (with_reducible assumption) | (with_reducible refine Gx.gx ?_) | (with_reducible refine Gx.alloc ?_) | (with_reducible refine Gx.drew ?_) | (with_reducible refine Gx.drewN ?_) | (with_reducible refine Gx.setRow ?_ (by simp)) | (with_reducible refine Gx.setCell ?_ (by simp))))⟩
end Go.Proofs.YtjlokobgdkkppaaDoor
