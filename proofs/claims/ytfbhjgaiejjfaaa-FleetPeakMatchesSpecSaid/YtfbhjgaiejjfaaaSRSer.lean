/-
  Check of any series, the reference's: contracts.
-/
import Derived.Test.YtfbhjgaiejjfaaaSSer
namespace Go.Proofs.Ytfbhjgaiejjfaaa
open Go.RowKit
-- AT2

def smE (x : Sm) : Int := if ¬ smOk x then 9 else if x.n ≠ 0 ∧ x.m < 2 then 2 else 0
theorem smE_9 {x : Sm} (h : ¬ smOk x) : smE x = 9 := by unfold smE; rw [if_pos h]
theorem smE_2 {x : Sm} (h : smOk x) (h2 : x.n ≠ 0 ∧ x.m < 2) : smE x = 2 := by unfold smE; rw [if_neg (fun k => k h), if_pos h2]
theorem smE_0 {x : Sm} (h : smOk x) (h2 : ¬ (x.n ≠ 0 ∧ x.m < 2)) : smE x = 0 := by unfold smE; rw [if_neg (fun k => k h), if_neg h2]
theorem badS_smE {g : Nat → Sm} {i : Nat} (h : smE (g i) ≠ 0) : badS g i = smE (g i) := by
  by_cases h1 : smOk (g i)
  · by_cases h2 : (g i).n ≠ 0 ∧ (g i).m < 2
    · rw [badS_2 h1 h2, smE_2 h1 h2]
    · exact absurd (smE_0 h1 h2) h
  · rw [badS_9 h1, smE_9 h1]
theorem smE_ok {x : Sm} (h : smE x = 0) : smOk x ∧ ¬ (x.n ≠ 0 ∧ x.m < 2) := by
  by_cases h1 : smOk x
  · by_cases h2 : x.n ≠ 0 ∧ x.m < 2
    · rw [smE_2 h1 h2] at h; omega
    · exact ⟨h1, h2⟩
  · rw [smE_9 h1] at h; omega
attribute [irreducible] smE
theorem smOk_inR {x : Sm} : smOk x ↔ (inB 0 1099511627776 x.t = true ∧ inB (-1125899906842624) 1125899906842624 x.n = true ∧ inB 0 4 x.m = true) := by
  rw [inB_iff, inB_iff, inB_iff]; unfold smOk; constructor
  · rintro ⟨h1, h2, h3, h4, h5, h6⟩; exact ⟨⟨h1, h2⟩, ⟨h3, h4⟩, h5, h6⟩
  · rintro ⟨⟨h1, h2⟩, ⟨h3, h4⟩, h5, h6⟩; exact ⟨h1, h2, h3, h4, h5, h6⟩
theorem numbered_any (m : Int) (w : World) : Calls Try.prog 67 #[.int .i64 m] w fun e w' => e = .returned (.bool (decide (2 ≤ m))) ∧ w = w' := by
  go_enter Try.func67, Try.ntmps67
  go_wp2
  go_ret
  exact ⟨rfl, rfl⟩
set_option maxHeartbeats 2000000 in
theorem sampleFault_any (x : Sm) (w : World) : Calls Try.prog 63 #[smV x.t x.n x.m] w fun e w' => e = .returned (.int .i64 (smE x)) ∧ ∃ y, w' = gx w y := by
  by_cases hok : smOk x
  · have hok2 := smOk_inR.1 hok
    obtain ⟨b1, b2, b3⟩ := hok2
    by_cases h2 : x.n ≠ 0 ∧ x.m < 2
    · rw [smE_2 hok h2]
      have n1 := ne0 h2.1
      have n2 := ne0' h2.1
      have d5 : decide (2 ≤ x.m) = false := decide_eq_false (by omega)
      clear hok h2
      go_enter Try.func63, Try.ntmps63
      go_wp2_with first
        | (go_at_call 62; refine (outside_any _ _ _ _).mono ?_; (first | rw [b1] | rw [b2] | rw [b3]); rintro e w' ⟨rfl, rfl⟩)
        | (go_at_call 67; refine (numbered_any _ _).mono ?_; rw [d5]; rintro e w' ⟨rfl, rfl⟩)
      go_ret
      exact ⟨rfl, (by repeat (first | (with_reducible exact Gx.refl _) | (with_reducible assumption) | (with_reducible refine Gx.gx ?_) | (with_reducible refine Gx.alloc ?_) | (with_reducible refine Gx.drew ?_) | (with_reducible refine Gx.drewN ?_) | (with_reducible refine Gx.setRow ?_ (by simp)) | (with_reducible refine Gx.setCell ?_ (by simp))))⟩
    · rw [smE_0 hok h2]
      by_cases h3 : x.n = 0
      · have n1 : (x.n != 0) = false := by simpa using h3
        have n2 : (x.n == 0) = true := by simpa using h3
        clear hok h2 h3
        go_enter Try.func63, Try.ntmps63
        go_wp2_with (go_at_call 62; refine (outside_any _ _ _ _).mono ?_; (first | rw [b1] | rw [b2] | rw [b3]); rintro e w' ⟨rfl, rfl⟩)
        go_ret
        exact ⟨rfl, (by repeat (first | (with_reducible exact Gx.refl _) | (with_reducible assumption) | (with_reducible refine Gx.gx ?_) | (with_reducible refine Gx.alloc ?_) | (with_reducible refine Gx.drew ?_) | (with_reducible refine Gx.drewN ?_) | (with_reducible refine Gx.setRow ?_ (by simp)) | (with_reducible refine Gx.setCell ?_ (by simp))))⟩
      · have n1 := ne0 h3
        have n2 := ne0' h3
        have d5 : decide (2 ≤ x.m) = true := decide_eq_true (by omega)
        clear hok h2 h3
        go_enter Try.func63, Try.ntmps63
        go_wp2_with first
          | (go_at_call 62; refine (outside_any _ _ _ _).mono ?_; (first | rw [b1] | rw [b2] | rw [b3]); rintro e w' ⟨rfl, rfl⟩)
          | (go_at_call 67; refine (numbered_any _ _).mono ?_; rw [d5]; rintro e w' ⟨rfl, rfl⟩)
        go_ret
        exact ⟨rfl, (by repeat (first | (with_reducible exact Gx.refl _) | (with_reducible assumption) | (with_reducible refine Gx.gx ?_) | (with_reducible refine Gx.alloc ?_) | (with_reducible refine Gx.drew ?_) | (with_reducible refine Gx.drewN ?_) | (with_reducible refine Gx.setRow ?_ (by simp)) | (with_reducible refine Gx.setCell ?_ (by simp))))⟩
  · rw [smE_9 hok]
    have HN := Lib.hid (fun h => hok (smOk_inR.2 h))
    clear hok
    go_enter Try.func63, Try.ntmps63
    go_wp2_with (go_at_call 62; refine (outside_any _ _ _ _).mono ?_; rintro e w' ⟨rfl, rfl⟩)
    all_goals first
      | (go_ret; exact ⟨rfl, (by repeat (first | (with_reducible exact Gx.refl _) | (with_reducible assumption) | (with_reducible refine Gx.gx ?_) | (with_reducible refine Gx.alloc ?_) | (with_reducible refine Gx.drew ?_) | (with_reducible refine Gx.drewN ?_) | (with_reducible refine Gx.setRow ?_ (by simp)) | (with_reducible refine Gx.setCell ?_ (by simp))))⟩)
      | (exfalso; have := HN.out; first | (simp_all; done) | (simp_all; omega))
set_option maxHeartbeats 8000000 in
set_option maxRecDepth 100000 in
theorem fault_any (den : Int) (g : Nat → Sm) (n c : Nat) (A : Option Addr) (w : World) (hL : SmAt w g n A) :
    Calls Try.prog 53 #[serV den A n c] w fun e w' => e = .returned (.tuple #[.int .i64 (serI den g n), .int .i64 (serE den g n)]) ∧ ∃ x, w' = gx w x := by
  cases hd : inB 1 1000000 den with
  | false =>
    obtain ⟨E1, E2⟩ := serE_den (g := g) (n := n) hd
    rw [E1, E2]
    clear E1 E2
    go_enter Try.func53, Try.ntmps53
    go_wp2_with (go_at_call 62; refine (outside_any _ _ _ _).mono ?_; rw [hd]; rintro e w' ⟨rfl, rfl⟩)
    go_ret2
    exact ⟨rfl, (by repeat (first | (with_reducible exact Gx.refl _) | (with_reducible assumption) | (with_reducible refine Gx.gx ?_) | (with_reducible refine Gx.alloc ?_) | (with_reducible refine Gx.drew ?_) | (with_reducible refine Gx.drewN ?_) | (with_reducible refine Gx.setRow ?_ (by simp)) | (with_reducible refine Gx.setCell ?_ (by simp))))⟩
  | true =>
    by_cases h1 : 20000 < n
    · obtain ⟨E1, E2⟩ := serE_big (g := g) (n := n) hd h1
      rw [E1, E2]
      clear E1 E2
      go_enter Try.func53, Try.ntmps53
      go_wp2_with (go_at_call 62; refine (outside_any _ _ _ _).mono ?_; rw [hd]; rintro e w' ⟨rfl, rfl⟩)
      go_ret2
      exact ⟨rfl, (by repeat (first | (with_reducible exact Gx.refl _) | (with_reducible assumption) | (with_reducible refine Gx.gx ?_) | (with_reducible refine Gx.alloc ?_) | (with_reducible refine Gx.drew ?_) | (with_reducible refine Gx.drewN ?_) | (with_reducible refine Gx.setRow ?_ (by simp)) | (with_reducible refine Gx.setCell ?_ (by simp))))⟩
    · have h1' : n ≤ 20000 := by omega
      go_enter Try.func53, Try.ntmps53
      go_wp2_with (go_at_call 62; refine (outside_any _ _ _ _).mono ?_; rw [hd]; rintro e w' ⟨rfl, rfl⟩)
      go_loopw [4] (fun i wr => ∃ k : Nat, k ≤ n ∧ i = .int .i64 k ∧ firstOf (badS g) k = 0 ∧ ∃ x, wr = gx (w.alloc (.cells #[.int .i64 den, .slice A n c] 60)) x) (fun i _ => n - (intOf i).toNat)
      case atStart => exact ⟨0, Nat.zero_le _, rfl, firstOf_0 _, Gx.refl _⟩
      case round =>
        obtain ⟨k, hk, rfl, hck, y, rfl⟩ := hrel
        have HCK := Lib.hid hck
        clear hck
        by_cases hlt : k < n
        · obtain ⟨b, o, rfl, hbw, HC⟩ := hL.get (by omega)
          obtain ⟨c1, c2, c3⟩ := HC.out k hlt
          by_cases hz : smE (g k) = 0
          · have hok := smE_ok hz
            rcases Nat.eq_zero_or_pos k with h00 | h00
            · have HE := Lib.hid ((firstOf_succ HCK.out).trans (badS_0 hok.1 hok.2 (fun h => by omega)))
              have dk : decide (0 < k) = false := decide_eq_false (by omega)
              clear hok h00
              go_wp2_with (go_at_call 63; refine (sampleFault_any (g k) _).mono ?_; rw [hz]; rintro e w' ⟨rfl, z, rfl⟩)
              go_quiet (fail)
              go_wp2
              go_roundw
              case rel => exact ⟨k + 1, by omega, by go_num, HE.out, (by repeat (first | (with_reducible exact Gx.refl _) | (with_reducible assumption) | (with_reducible refine Gx.gx ?_) | (with_reducible refine Gx.alloc ?_) | (with_reducible refine Gx.drew ?_) | (with_reducible refine Gx.drewN ?_) | (with_reducible refine Gx.setRow ?_ (by simp)) | (with_reducible refine Gx.setCell ?_ (by simp))))⟩
              case measure => simp [intOf]; omega
            · obtain ⟨j, hj⟩ : ∃ j, k = j + 1 := ⟨k - 1, by omega⟩
              obtain ⟨a1, a2, a3⟩ := HC.out j (by omega)
              have hjn : j < n := by omega
              have ej : k - 1 = j := by omega
              by_cases hr : (g k).t ≤ (g j).t
              · have dk : decide (0 < k) = true := decide_eq_true (by omega)
                have HE := Lib.hid (serE_bad hd h1' HCK.out hlt (badS_10 hok.1 hok.2 ⟨h00, by rw [ej]; exact hr⟩) (by decide))
                have dr : decide ((g k).t ≤ (g j).t) = true := decide_eq_true hr
                have e1 : IntKind.i64.wrap ((k : Int) - 1) = (j : Int) := by rw [IntWalk.i64_in _ (by omega)]; omega
                clear hok hr ej hj h00
                go_wp2_with (go_at_call 63; refine (sampleFault_any (g k) _).mono ?_; rw [hz]; rintro e w' ⟨rfl, z, rfl⟩)
                go_quiet (fail)
                go_wp2
                go_ret2
                exact ⟨by rw [HE.out.1, HE.out.2]; first | done | rfl, (by repeat (first | (with_reducible exact Gx.refl _) | (with_reducible assumption) | (with_reducible refine Gx.gx ?_) | (with_reducible refine Gx.alloc ?_) | (with_reducible refine Gx.drew ?_) | (with_reducible refine Gx.drewN ?_) | (with_reducible refine Gx.setRow ?_ (by simp)) | (with_reducible refine Gx.setCell ?_ (by simp))))⟩
              · have dk : decide (0 < k) = true := decide_eq_true (by omega)
                have HE := Lib.hid ((firstOf_succ HCK.out).trans (badS_0 hok.1 hok.2 (fun h => hr (by rw [← ej]; exact h.2))))
                have dr : decide ((g k).t ≤ (g j).t) = false := decide_eq_false hr
                have e1 : IntKind.i64.wrap ((k : Int) - 1) = (j : Int) := by rw [IntWalk.i64_in _ (by omega)]; omega
                clear hok hr ej hj h00
                go_wp2_with (go_at_call 63; refine (sampleFault_any (g k) _).mono ?_; rw [hz]; rintro e w' ⟨rfl, z, rfl⟩)
                go_quiet (fail)
                go_wp2
                go_roundw
                case rel => exact ⟨k + 1, by omega, by go_num, HE.out, (by repeat (first | (with_reducible exact Gx.refl _) | (with_reducible assumption) | (with_reducible refine Gx.gx ?_) | (with_reducible refine Gx.alloc ?_) | (with_reducible refine Gx.drew ?_) | (with_reducible refine Gx.drewN ?_) | (with_reducible refine Gx.setRow ?_ (by simp)) | (with_reducible refine Gx.setCell ?_ (by simp))))⟩
                case measure => simp [intOf]; omega
          · have HE := Lib.hid (serE_bad hd h1' HCK.out hlt (badS_smE hz) hz)
            have n1 := ne0 hz
            have n2 := ne0' hz
            have HF := Lib.hid (sampleFault_any (g k))
            clear hz
            generalize smE (g k) = q at *
            go_wp2_with (go_at_call 63; refine (HF.out _).mono ?_; rintro e w' ⟨rfl, z, rfl⟩)
            go_ret2
            exact ⟨by rw [HE.out.1, HE.out.2]; first | done | rfl, (by repeat (first | (with_reducible exact Gx.refl _) | (with_reducible assumption) | (with_reducible refine Gx.gx ?_) | (with_reducible refine Gx.alloc ?_) | (with_reducible refine Gx.drew ?_) | (with_reducible refine Gx.drewN ?_) | (with_reducible refine Gx.setRow ?_ (by simp)) | (with_reducible refine Gx.setCell ?_ (by simp))))⟩
        · obtain rfl : k = n := by omega
          have HE := Lib.hid (serE_ok hd h1' HCK.out)
          go_wp2
          go_ret2
          exact ⟨by rw [HE.out.1, HE.out.2]; first | done | rfl, (by repeat (first | (with_reducible exact Gx.refl _) | (with_reducible assumption) | (with_reducible refine Gx.gx ?_) | (with_reducible refine Gx.alloc ?_) | (with_reducible refine Gx.drew ?_) | (with_reducible refine Gx.drewN ?_) | (with_reducible refine Gx.setRow ?_ (by simp)) | (with_reducible refine Gx.setCell ?_ (by simp))))⟩
theorem RCheck_any (den : Int) (g : Nat → Sm) (n c : Nat) (A : Option Addr) (w : World) (hL : SmAt w g n A) :
    Calls Try.prog 42 #[serV den A n c] w fun e w' => e = .returned (.int .i64 (serE den g n)) ∧ ∃ x, w' = gx w x := by
  have hlw : SmAt (w.alloc (.cells #[.int .i64 den, .slice A n c] 60)) g n A := hL.alloc
  have HC := fun W h => fault_any den g n c A W h
  go_enter Try.func42, Try.ntmps42
  go_wp2_with (go_at_call 53; refine (HC _ hlw).mono ?_; rintro e w' ⟨rfl, x, rfl⟩)
  go_ret
  exact ⟨rfl, (by repeat (first | (with_reducible exact Gx.refl _) | (with_reducible assumption) | (with_reducible refine Gx.gx ?_) | (with_reducible refine Gx.alloc ?_) | (with_reducible refine Gx.drew ?_) | (with_reducible refine Gx.drewN ?_) | (with_reducible refine Gx.setRow ?_ (by simp)) | (with_reducible refine Gx.setCell ?_ (by simp))))⟩
end Go.Proofs.Ytfbhjgaiejjfaaa
