/-
  Nearest of the program: contract.
-/
import Derived.Test.YtkfolbhdjppgaaaSNear3
namespace Go.Proofs.Ytkfolbhdjppgaaa
open Go.RowKit
-- AT2

set_option maxHeartbeats 4000000 in
set_option maxRecDepth 100000 in
theorem Nearest_any (den : Int) (g : Nat → Ln) (n c : Nat) (A : Option Addr) (lo hi x : Int) (w : World) (hL : LnAt w g n A) :
    Calls Try.prog 12 #[calV den A n c lo hi, .int .i64 x] w (NearPost den g n lo hi x w) := by
  have hlw : LnAt (w.alloc (.cells #[.int .i64 den, .slice A n c, .int .i64 lo, .int .i64 hi] 24)) g n A := by rw [alloc_is]; exact hL.gx
  have HC := Lib.hid (fun W h => CheckCal_any den g n c A lo hi W h)
  by_cases h : calE den g n lo hi = 0
  · obtain ⟨g1, g2, g3, g4, g5, g6⟩ := calE_ok h
    rw [h] at HC
    have HE := Lib.hid h
    clear h
    by_cases hx : isN x
    · have b1 : nB x = true := nB_iff.2 hx
      obtain ⟨b, o, rfl, hbw, HL⟩ := hL.get g1
      clear hL
      go_enter Try.func12, Try.ntmps12
      go_wp2_with first
        | (go_at_call 10; refine (HC.out _ hlw).mono ?_; rintro e w' ⟨rfl, z, rfl⟩)
        | (go_at_call 28; refine (isNumber_any _ _).mono ?_; rw [b1]; rintro e w' ⟨rfl, rfl⟩)
      go_loopw [7, 8, 9, 27] (fun v d s i wr => ∃ (k : Nat) (v' d' : Int) (s' : Bool), k ≤ n ∧ i = .int .i64 k ∧ v = .int .i64 v' ∧ d = .int .i64 d' ∧ s = .bool s' ∧ Best g k lo hi x v' d' s' ∧ ∃ x, wr = gx (w.alloc (.cells #[.int .i64 den, .slice (some ⟨b, o, none⟩) n c, .int .i64 lo, .int .i64 hi] 24)) x) (fun _ _ _ i _ => n - (intOf i).toNat)
      case atStart => exact ⟨0, 0, 0, false, Nat.zero_le _, rfl, rfl, rfl, rfl, Best.none, _, rfl⟩
      case round =>
        obtain ⟨k, v, d, s, hk, rfl, rfl, rfl, rfl, hb, y, rfl⟩ := hrel
        have HB := Lib.hid hb
        clear hb
        by_cases hlt : k < n
        · obtain ⟨c1, c2, c3, c4⟩ := HL.out k hlt
          have hok := g3.ok k hlt
          have he := g3.ends k hlt
          have hs1 : w.heap.size < w.heap.size + 1 + y.n := by omega
          have hs2 : w.heap.size < w.heap.size + 1 + y.n + 1 := by omega
          have HP := fun W => possible_any (g k) lo hi W hok g4 g5
          by_cases hlh : loV (g k) lo hi ≤ hiV (g k) lo hi
          · have d1 : decide (hiV (g k) lo hi < loV (g k) lo hi) = false := decide_eq_false (by omega)
            have hnb := nearV_best (l := g k) (lo := lo) (hi := hi) (x := x) hlh
            have q1 := (possible_iff (g k) lo hi _).1 ⟨Int.le_refl _, hlh⟩
            have q2 := (possible_iff (g k) lo hi _).1 ⟨hlh, Int.le_refl _⟩
            have HN := fun W => nearestFrom_any (g k) (loV (g k) lo hi) (hiV (g k) lo hi) x W hok hx he hlh q1.1 q2.2.1
            have nu := num_in he hnb.1 hnb.2.1
            have HNB := Lib.hid hnb
            have u1 := hnb.1
            have u2 := hnb.2.1
            unfold lnOk at hok
            obtain ⟨o1, o2, o3, o4, o5, o6, o7, o8, o9⟩ := hok
            clear hnb q1 q2 he
            generalize nearV (g k) (loV (g k) lo hi) (hiV (g k) lo hi) x = u at *
            have mu := mul_small o6 o7 (v := u) (by omega) (by omega)
            have HNu := fun W => numberOf_any (g k).f (g k).t (g k).a (g k).b u W mu o8 o9
            generalize loV (g k) lo hi = f at *
            generalize hiV (g k) lo hi = t at *
            obtain ⟨m, hm⟩ : ∃ m, m = (g k).a * u + (g k).b := ⟨_, rfl⟩
            rw [← hm] at nu HNu
            have HM := Lib.hid hm
            clear hm mu
            have hx' := hx
            unfold isN at nu hx'
            have w1 : IntKind.i64.wrap (m - x) = m - x := IntWalk.i64_in _ (by omega)
            have HS := fun W => size_any (m - x) W (by omega) (by omega)
            have HT : Hid ((s = true → sz (m - x) < d) → Best g (k + 1) lo hi x u (sz (m - x)) true) := fun hd => by
              rw [HM.out] at hd ⊢; exact HB.out.take HNB.out hd
            have HST : Hid (s = true → d ≤ sz (m - x) → Best g (k + 1) lo hi x v d true) := fun hs hd => by
              have := HB.out; rw [hs] at this; rw [HM.out] at hd; exact this.stay g3 hlt HNB.out hd
            clear HM HNB
            generalize sz (m - x) = dd at *
            cases s with
            | false =>
              have HR := Lib.hid (HT.out (fun h => by cases h))
              go_wp2_with first
                | (go_at_call 30; refine (HP _).mono ?_; rintro e w' ⟨rfl, z, rfl⟩)
                | (go_at_call 31; refine (HN _).mono ?_; rintro e w' ⟨rfl, z, rfl⟩)
                | (go_at_call 33; refine (HNu _).mono ?_; rintro e w' ⟨rfl, z, rfl⟩)
                | (go_at_call 32; refine (HS _).mono ?_; rintro e w' ⟨rfl, rfl⟩)
              go_roundw
              case rel => exact ⟨k + 1, _, _, _, by omega, by go_num, rfl, rfl, rfl, HR.out, (by repeat (first | (with_reducible exact Gx.refl _) | (with_reducible assumption) | (with_reducible refine Gx.gx ?_) | (with_reducible refine Gx.alloc ?_) | (with_reducible refine Gx.drew ?_) | (with_reducible refine Gx.drewN ?_) | (with_reducible refine Gx.setRow ?_ (by simp)) | (with_reducible refine Gx.setCell ?_ (by simp))))⟩
              case measure => simp [intOf]; omega
            | true =>
              by_cases hdd : dd < d
              · have HR := Lib.hid (HT.out (fun _ => hdd))
                have d2 : decide (dd < d) = true := decide_eq_true hdd
                clear hdd
                go_wp2_with first
                  | (go_at_call 30; refine (HP _).mono ?_; rintro e w' ⟨rfl, z, rfl⟩)
                  | (go_at_call 31; refine (HN _).mono ?_; rintro e w' ⟨rfl, z, rfl⟩)
                  | (go_at_call 33; refine (HNu _).mono ?_; rintro e w' ⟨rfl, z, rfl⟩)
                  | (go_at_call 32; refine (HS _).mono ?_; rintro e w' ⟨rfl, rfl⟩)
                go_roundw
                case rel => exact ⟨k + 1, _, _, _, by omega, by go_num, rfl, rfl, rfl, HR.out, (by repeat (first | (with_reducible exact Gx.refl _) | (with_reducible assumption) | (with_reducible refine Gx.gx ?_) | (with_reducible refine Gx.alloc ?_) | (with_reducible refine Gx.drew ?_) | (with_reducible refine Gx.drewN ?_) | (with_reducible refine Gx.setRow ?_ (by simp)) | (with_reducible refine Gx.setCell ?_ (by simp))))⟩
                case measure => simp [intOf]; omega
              · have HR := Lib.hid (HST.out rfl (by omega))
                have d2 : decide (dd < d) = false := decide_eq_false hdd
                clear hdd
                go_wp2_with first
                  | (go_at_call 30; refine (HP _).mono ?_; rintro e w' ⟨rfl, z, rfl⟩)
                  | (go_at_call 31; refine (HN _).mono ?_; rintro e w' ⟨rfl, z, rfl⟩)
                  | (go_at_call 33; refine (HNu _).mono ?_; rintro e w' ⟨rfl, z, rfl⟩)
                  | (go_at_call 32; refine (HS _).mono ?_; rintro e w' ⟨rfl, rfl⟩)
                go_roundw
                case rel => exact ⟨k + 1, _, _, _, by omega, by go_num, rfl, rfl, rfl, HR.out, (by repeat (first | (with_reducible exact Gx.refl _) | (with_reducible assumption) | (with_reducible refine Gx.gx ?_) | (with_reducible refine Gx.alloc ?_) | (with_reducible refine Gx.drew ?_) | (with_reducible refine Gx.drewN ?_) | (with_reducible refine Gx.setRow ?_ (by simp)) | (with_reducible refine Gx.setCell ?_ (by simp))))⟩
                case measure => simp [intOf]; omega
          · have d1 : decide (hiV (g k) lo hi < loV (g k) lo hi) = true := decide_eq_true (by omega)
            have HR := Lib.hid (HB.out.skip (none_of (l := g k) (by omega)))
            clear hlh
            generalize loV (g k) lo hi = f at *
            generalize hiV (g k) lo hi = t at *
            go_wp2_with (go_at_call 30; refine (HP _).mono ?_; rintro e w' ⟨rfl, z, rfl⟩)
            go_roundw
            case rel => exact ⟨k + 1, _, _, _, by omega, by go_num, rfl, rfl, rfl, HR.out, (by repeat (first | (with_reducible exact Gx.refl _) | (with_reducible assumption) | (with_reducible refine Gx.gx ?_) | (with_reducible refine Gx.alloc ?_) | (with_reducible refine Gx.drew ?_) | (with_reducible refine Gx.drewN ?_) | (with_reducible refine Gx.setRow ?_ (by simp)) | (with_reducible refine Gx.setCell ?_ (by simp))))⟩
            case measure => simp [intOf]; omega
        · obtain rfl : k = n := by omega
          cases s with
          | false =>
            have HR := Lib.hid HB.out.done
            go_wp2
            go_ret2
            have hv : v = 0 := by
              rcases HB.out with ⟨h, _⟩ | ⟨_, h, _⟩
              · cases h
              · exact h
            exact ⟨_, _, rfl, .inr (.inr ⟨HE.out, hx, by have := HR.out; rw [hv] at this; exact this⟩), (by repeat (first | (with_reducible exact Gx.refl _) | (with_reducible assumption) | (with_reducible refine Gx.gx ?_) | (with_reducible refine Gx.alloc ?_) | (with_reducible refine Gx.drew ?_) | (with_reducible refine Gx.drewN ?_) | (with_reducible refine Gx.setRow ?_ (by simp)) | (with_reducible refine Gx.setCell ?_ (by simp))))⟩
          | true =>
            have HR := Lib.hid HB.out.done
            go_wp2
            go_ret2
            exact ⟨_, _, rfl, .inr (.inr ⟨HE.out, hx, HR.out⟩), (by repeat (first | (with_reducible exact Gx.refl _) | (with_reducible assumption) | (with_reducible refine Gx.gx ?_) | (with_reducible refine Gx.alloc ?_) | (with_reducible refine Gx.drew ?_) | (with_reducible refine Gx.drewN ?_) | (with_reducible refine Gx.setRow ?_ (by simp)) | (with_reducible refine Gx.setCell ?_ (by simp))))⟩
    · have b1 : nB x = false := nB_no.2 hx
      have HX := Lib.hid hx
      clear hx
      go_enter Try.func12, Try.ntmps12
      go_wp2_with first
        | (go_at_call 10; refine (HC.out _ hlw).mono ?_; rintro e w' ⟨rfl, z, rfl⟩)
        | (go_at_call 28; refine (isNumber_any _ _).mono ?_; rw [b1]; rintro e w' ⟨rfl, rfl⟩)
      go_ret2
      exact ⟨_, _, rfl, .inr (.inl ⟨HE.out, HX.out, rfl, rfl⟩), (by repeat (first | (with_reducible exact Gx.refl _) | (with_reducible assumption) | (with_reducible refine Gx.gx ?_) | (with_reducible refine Gx.alloc ?_) | (with_reducible refine Gx.drew ?_) | (with_reducible refine Gx.drewN ?_) | (with_reducible refine Gx.setRow ?_ (by simp)) | (with_reducible refine Gx.setCell ?_ (by simp))))⟩
  · have HE := Lib.hid h
    have n1 := ne0 h
    have n2 := ne0' h
    clear h
    go_enter Try.func12, Try.ntmps12
    go_wp2_with (go_at_call 10; refine (HC.out _ hlw).mono ?_; rintro e w' ⟨rfl, z, rfl⟩)
    go_ret2
    exact ⟨_, _, rfl, .inl ⟨HE.out, rfl, rfl⟩, (by repeat (first | (with_reducible exact Gx.refl _) | (with_reducible assumption) | (with_reducible refine Gx.gx ?_) | (with_reducible refine Gx.alloc ?_) | (with_reducible refine Gx.drew ?_) | (with_reducible refine Gx.drewN ?_) | (with_reducible refine Gx.setRow ?_ (by simp)) | (with_reducible refine Gx.setCell ?_ (by simp))))⟩
end Go.Proofs.Ytkfolbhdjppgaaa
