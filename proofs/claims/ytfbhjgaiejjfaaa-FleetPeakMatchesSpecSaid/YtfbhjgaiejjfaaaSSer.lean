/-
  Check of any series, the program's: contracts; samples in memory.
-/
import Derived.Test.YtfbhjgaiejjfaaaSLeaf
import Derived.Test.YtfbhjgaiejjfaaaSPureS
namespace Go.Proofs.Ytfbhjgaiejjfaaa
open Go.RowKit
-- AT2

/-- The samples g 0 .. g (n - 1) lie at A. -/
@[irreducible] def SmAt (w : World) (g : Nat → Sm) (n : Nat) (A : Option Addr) : Prop := 0 < n → ∃ b o, A = some ⟨b, o, none⟩ ∧ ∀ k, k < n → w.cell? ⟨b, o + k * 3, none⟩ = some (.int .i64 (g k).t) ∧ w.cell? ⟨b, o + k * 3 + 1, none⟩ = some (.int .i64 (g k).n) ∧ w.cell? ⟨b, o + k * 3 + 2, none⟩ = some (.int .i64 (g k).m)
theorem SmAt.get {w : World} {g : Nat → Sm} {n : Nat} {A : Option Addr} (h : SmAt w g n A) (h0 : 0 < n) : ∃ b o, A = some ⟨b, o, none⟩ ∧ b < w.heap.size ∧ Hid (∀ k, k < n → w.cell? ⟨b, o + k * 3, none⟩ = some (.int .i64 (g k).t) ∧ w.cell? ⟨b, o + k * 3 + 1, none⟩ = some (.int .i64 (g k).n) ∧ w.cell? ⟨b, o + k * 3 + 2, none⟩ = some (.int .i64 (g k).m)) := by
  unfold SmAt at h
  obtain ⟨b, o, e, hc⟩ := h h0
  exact ⟨b, o, e, World.block_lt_of_cell? w _ (hc 0 h0).1, Lib.hid hc⟩
theorem SmAt.mk {w : World} {g : Nat → Sm} {n : Nat} {A : Option Addr} (h : 0 < n → ∃ b o, A = some ⟨b, o, none⟩ ∧ ∀ k, k < n → w.cell? ⟨b, o + k * 3, none⟩ = some (.int .i64 (g k).t) ∧ w.cell? ⟨b, o + k * 3 + 1, none⟩ = some (.int .i64 (g k).n) ∧ w.cell? ⟨b, o + k * 3 + 2, none⟩ = some (.int .i64 (g k).m)) : SmAt w g n A := by
  unfold SmAt; exact h
theorem SmAt.gx {w : World} {g : Nat → Sm} {n : Nat} {A : Option Addr} {x : Ext} (h : SmAt w g n A) : SmAt (gx w x) g n A := by
  unfold SmAt at *
  intro h0
  obtain ⟨b, o, e, hc⟩ := h h0
  refine ⟨b, o, e, fun k hk => ?_⟩
  obtain ⟨c1, c2, c3⟩ := hc k hk
  exact ⟨cell_keep_gx c1, cell_keep_gx c2, cell_keep_gx c3⟩
theorem SmAt.alloc {w : World} {g : Nat → Sm} {n : Nat} {A : Option Addr} {o : Obj} (h : SmAt w g n A) : SmAt (w.alloc o) g n A := by rw [alloc_is]; exact h.gx
/-- A sample's value; a series' value. -/
abbrev smV (t n m : Int) : Value := .agg #[.int .i64 t, .int .i64 n, .int .i64 m]
abbrev serV (den : Int) (A : Option Addr) (n c : Nat) : Value := .agg #[.int .i64 den, .slice A n c]

theorem isSolid_any (t n m : Int) (w : World) : Calls Try.prog 52 #[smV t n m] w fun e w' => e = .returned (.bool (decide (3 ≤ m))) ∧ ∃ x, w' = gx w x := by
  go_enter Try.func52, Try.ntmps52
  go_wp2
  go_ret
  exact ⟨rfl, (by repeat (first | (with_reducible exact Gx.refl _) | (with_reducible assumption) | (with_reducible refine Gx.gx ?_) | (with_reducible refine Gx.alloc ?_) | (with_reducible refine Gx.drew ?_) | (with_reducible refine Gx.drewN ?_) | (with_reducible refine Gx.setRow ?_ (by simp)) | (with_reducible refine Gx.setCell ?_ (by simp))))⟩
theorem hasNumber_any (t n m : Int) (w : World) : Calls Try.prog 61 #[smV t n m] w fun e w' => e = .returned (.bool (decide (2 ≤ m))) ∧ ∃ x, w' = gx w x := by
  go_enter Try.func61, Try.ntmps61
  go_wp2
  go_ret
  exact ⟨rfl, (by repeat (first | (with_reducible exact Gx.refl _) | (with_reducible assumption) | (with_reducible refine Gx.gx ?_) | (with_reducible refine Gx.alloc ?_) | (with_reducible refine Gx.drew ?_) | (with_reducible refine Gx.drewN ?_) | (with_reducible refine Gx.setRow ?_ (by simp)) | (with_reducible refine Gx.setCell ?_ (by simp))))⟩
theorem serE_den {den : Int} {g : Nat → Sm} {n : Nat} (h : inB 1 1000000 den = false) : serE den g n = 9 ∧ serI den g n = -1 := by unfold serE serI; rw [if_pos (inB_no.1 h), if_pos (inB_no.1 h)]; exact ⟨rfl, rfl⟩
theorem serE_big {den : Int} {g : Nat → Sm} {n : Nat} (h : inB 1 1000000 den = true) (h0 : 20000 < n) : serE den g n = 3 ∧ serI den g n = -1 := by
  unfold serE serI; rw [if_neg (fun h2 => h2 (inB_iff.1 h)), if_pos h0, if_neg (fun h2 => h2 (inB_iff.1 h)), if_pos h0]; exact ⟨rfl, rfl⟩
theorem serE_bad {den : Int} {g : Nat → Sm} {k n : Nat} (h : inB 1 1000000 den = true) (h0 : n ≤ 20000) (h1 : firstOf (badS g) k = 0) (hk : k < n) {e : Int} (hb : badS g k = e) (he : e ≠ 0) : serE den g n = e ∧ serI den g n = k := by
  unfold serE serI; rw [if_neg (fun h2 => h2 (inB_iff.1 h)), if_neg (by omega), if_neg (fun h2 => h2 (inB_iff.1 h)), if_neg (by omega)]
  exact ⟨firstOf_bad h1 hk hb he, placeOf_at h1 hk (by rw [hb]; exact he)⟩
theorem serE_ok {den : Int} {g : Nat → Sm} {n : Nat} (h : inB 1 1000000 den = true) (h0 : n ≤ 20000) (h1 : firstOf (badS g) n = 0) : serE den g n = 0 ∧ serI den g n = -1 := by
  unfold serE serI; rw [if_neg (fun h2 => h2 (inB_iff.1 h)), if_neg (by omega), if_neg (fun h2 => h2 (inB_iff.1 h)), if_neg (by omega)]
  exact ⟨h1, placeOf_no h1⟩
/-- The tests of a sample. -/
theorem smOk_in {x : Sm} : smOk x ↔ (inB 0 1099511627776 x.t = true ∧ nB x.n = true ∧ 0 ≤ x.m ∧ x.m ≤ 4) := by
  rw [inB_iff, nB_iff]; unfold smOk isN; constructor
  · rintro ⟨h1, h2, h3, h4, h5, h6⟩; exact ⟨⟨h1, h2⟩, ⟨h3, h4⟩, h5, h6⟩
  · rintro ⟨⟨h1, h2⟩, ⟨h3, h4⟩, h5, h6⟩; exact ⟨h1, h2, h3, h4, h5, h6⟩

set_option maxHeartbeats 8000000 in
set_option maxRecDepth 100000 in
theorem check_any (den : Int) (g : Nat → Sm) (n c : Nat) (A : Option Addr) (w : World) (hL : SmAt w g n A) :
    Calls Try.prog 49 #[serV den A n c] w fun e w' => e = .returned (.tuple #[.int .i64 (serI den g n), .int .i64 (serE den g n)]) ∧ ∃ x, w' = gx w x := by
  cases hd : inB 1 1000000 den with
  | false =>
    obtain ⟨E1, E2⟩ := serE_den (g := g) (n := n) hd
    rw [E1, E2]
    clear E1 E2
    go_enter Try.func49, Try.ntmps49
    go_wp2_with (go_at_call 58; refine (isDen_any _ _).mono ?_; rw [hd]; rintro e w' ⟨rfl, rfl⟩)
    go_ret2
    exact ⟨rfl, (by repeat (first | (with_reducible exact Gx.refl _) | (with_reducible assumption) | (with_reducible refine Gx.gx ?_) | (with_reducible refine Gx.alloc ?_) | (with_reducible refine Gx.drew ?_) | (with_reducible refine Gx.drewN ?_) | (with_reducible refine Gx.setRow ?_ (by simp)) | (with_reducible refine Gx.setCell ?_ (by simp))))⟩
  | true =>
    by_cases h1 : 20000 < n
    · obtain ⟨E1, E2⟩ := serE_big (g := g) (n := n) hd h1
      rw [E1, E2]
      clear E1 E2
      go_enter Try.func49, Try.ntmps49
      go_wp2_with (go_at_call 58; refine (isDen_any _ _).mono ?_; rw [hd]; rintro e w' ⟨rfl, rfl⟩)
      go_ret2
      exact ⟨rfl, (by repeat (first | (with_reducible exact Gx.refl _) | (with_reducible assumption) | (with_reducible refine Gx.gx ?_) | (with_reducible refine Gx.alloc ?_) | (with_reducible refine Gx.drew ?_) | (with_reducible refine Gx.drewN ?_) | (with_reducible refine Gx.setRow ?_ (by simp)) | (with_reducible refine Gx.setCell ?_ (by simp))))⟩
    · have h1' : n ≤ 20000 := by omega
      go_enter Try.func49, Try.ntmps49
      go_wp2_with (go_at_call 58; refine (isDen_any _ _).mono ?_; rw [hd]; rintro e w' ⟨rfl, rfl⟩)
      go_loopw [17] (fun i wr => ∃ k : Nat, k ≤ n ∧ i = .int .i64 k ∧ firstOf (badS g) k = 0 ∧ ∃ x, wr = gx (w.alloc (.cells #[.int .i64 den, .slice A n c] 60)) x) (fun i _ => n - (intOf i).toNat)
      case atStart => exact ⟨0, Nat.zero_le _, rfl, firstOf_0 _, Gx.refl _⟩
      case round =>
        obtain ⟨k, hk, rfl, hck, y, rfl⟩ := hrel
        have HCK := Lib.hid hck
        clear hck
        by_cases hlt : k < n
        · obtain ⟨b, o, rfl, hbw, HC⟩ := hL.get (by omega)
          obtain ⟨c1, c2, c3⟩ := HC.out k hlt
          by_cases hok : smOk (g k)
          · have hok2 := smOk_in.1 hok
            obtain ⟨b1, b2, b3, b4⟩ := hok2
            have d3 : decide ((g k).m < 0) = false := decide_eq_false (by omega)
            have d4 : decide (4 < (g k).m) = false := decide_eq_false (by omega)
            by_cases h2 : (g k).n ≠ 0 ∧ (g k).m < 2
            · have HE := Lib.hid (serE_bad hd h1' HCK.out hlt (badS_2 hok h2) (by decide))
              have n1 := ne0 h2.1
              have n2 := ne0' h2.1
              have d5 : decide (2 ≤ (g k).m) = false := decide_eq_false (by omega)
              clear hok h2
              go_wp2_with first
                | (go_at_call 59; refine (isTime_any _ _).mono ?_; rw [b1]; rintro e w' ⟨rfl, rfl⟩)
                | (go_at_call 60; refine (isNumber_any _ _).mono ?_; rw [b2]; rintro e w' ⟨rfl, rfl⟩)
                | (go_at_call 61; refine (hasNumber_any _ _ _ _).mono ?_; rw [d5]; rintro e w' ⟨rfl, z, rfl⟩)
              go_ret2
              exact ⟨by rw [HE.out.1, HE.out.2]; first | done | rfl, (by repeat (first | (with_reducible exact Gx.refl _) | (with_reducible assumption) | (with_reducible refine Gx.gx ?_) | (with_reducible refine Gx.alloc ?_) | (with_reducible refine Gx.drew ?_) | (with_reducible refine Gx.drewN ?_) | (with_reducible refine Gx.setRow ?_ (by simp)) | (with_reducible refine Gx.setCell ?_ (by simp))))⟩
            · by_cases hn0 : (g k).n = 0
              · have n1 : ((g k).n != 0) = false := by simpa using hn0
                have n2 : ((g k).n == 0) = true := by simpa using hn0
                clear hn0
                rcases Nat.eq_zero_or_pos k with h00 | h00
                · have HE := Lib.hid ((firstOf_succ HCK.out).trans (badS_0 hok h2 (fun h => by omega)))
                  have dk : decide (0 < k) = false := decide_eq_false (by omega)
                  clear hok h2 h00
                  go_wp2_with first
                    | (go_at_call 59; refine (isTime_any _ _).mono ?_; rw [b1]; rintro e w' ⟨rfl, rfl⟩)
                    | (go_at_call 60; refine (isNumber_any _ _).mono ?_; rw [b2]; rintro e w' ⟨rfl, rfl⟩)
                  go_quiet (fail)
                  go_wp2
                  go_roundw
                  case rel => exact ⟨k + 1, by omega, by go_num, HE.out, (by repeat (first | (with_reducible exact Gx.refl _) | (with_reducible assumption) | (with_reducible refine Gx.gx ?_) | (with_reducible refine Gx.alloc ?_) | (with_reducible refine Gx.drew ?_) | (with_reducible refine Gx.drewN ?_) | (with_reducible refine Gx.setRow ?_ (by simp)) | (with_reducible refine Gx.setCell ?_ (by simp))))⟩
                  case measure => simp [intOf]; omega
                · obtain ⟨j, hj⟩ : ∃ j, k = j + 1 := ⟨k - 1, by omega⟩
                  obtain ⟨a1, a2, a3⟩ := HC.out j (by omega)
                  have hjn : j < n := by omega
                  have ej : k - 1 = j := by omega
                  by_cases hr : (g k).t ≤ (g j).t
                  · have hs1 : w.heap.size < w.heap.size + 1 + y.n := by omega
                    have hs2 : w.heap.size < w.heap.size + 1 + y.n + 1 := by omega
                    have hb1 : b < w.heap.size + 1 + y.n := by omega
                    have hb2 : b < w.heap.size + 1 + y.n + 1 := by omega
                    have dk : decide (0 < k) = true := decide_eq_true (by omega)
                    have HE := Lib.hid (serE_bad hd h1' HCK.out hlt (badS_10 hok h2 ⟨h00, by rw [ej]; exact hr⟩) (by decide))
                    have dr : decide ((g k).t ≤ (g j).t) = true := decide_eq_true hr
                    have e1 : IntKind.i64.wrap ((k : Int) - 1) = (j : Int) := by rw [IntWalk.i64_in _ (by omega)]; omega
                    clear hok h2 hr ej hj h00
                    go_wp2_with first
                      | (go_at_call 59; refine (isTime_any _ _).mono ?_; rw [b1]; rintro e w' ⟨rfl, rfl⟩)
                      | (go_at_call 60; refine (isNumber_any _ _).mono ?_; rw [b2]; rintro e w' ⟨rfl, rfl⟩)
                    go_quiet (fail)
                    go_wp2
                    go_ret2
                    exact ⟨by rw [HE.out.1, HE.out.2]; first | done | rfl, (by repeat (first | (with_reducible exact Gx.refl _) | (with_reducible assumption) | (with_reducible refine Gx.gx ?_) | (with_reducible refine Gx.alloc ?_) | (with_reducible refine Gx.drew ?_) | (with_reducible refine Gx.drewN ?_) | (with_reducible refine Gx.setRow ?_ (by simp)) | (with_reducible refine Gx.setCell ?_ (by simp))))⟩
                  · have hs1 : w.heap.size < w.heap.size + 1 + y.n := by omega
                    have hs2 : w.heap.size < w.heap.size + 1 + y.n + 1 := by omega
                    have hb1 : b < w.heap.size + 1 + y.n := by omega
                    have hb2 : b < w.heap.size + 1 + y.n + 1 := by omega
                    have dk : decide (0 < k) = true := decide_eq_true (by omega)
                    have HE := Lib.hid ((firstOf_succ HCK.out).trans (badS_0 hok h2 (fun h => hr (by rw [← ej]; exact h.2))))
                    have dr : decide ((g k).t ≤ (g j).t) = false := decide_eq_false hr
                    have e1 : IntKind.i64.wrap ((k : Int) - 1) = (j : Int) := by rw [IntWalk.i64_in _ (by omega)]; omega
                    clear hok h2 hr ej hj h00
                    go_wp2_with first
                      | (go_at_call 59; refine (isTime_any _ _).mono ?_; rw [b1]; rintro e w' ⟨rfl, rfl⟩)
                      | (go_at_call 60; refine (isNumber_any _ _).mono ?_; rw [b2]; rintro e w' ⟨rfl, rfl⟩)
                    go_quiet (fail)
                    go_wp2
                    go_roundw
                    case rel => exact ⟨k + 1, by omega, by go_num, HE.out, (by repeat (first | (with_reducible exact Gx.refl _) | (with_reducible assumption) | (with_reducible refine Gx.gx ?_) | (with_reducible refine Gx.alloc ?_) | (with_reducible refine Gx.drew ?_) | (with_reducible refine Gx.drewN ?_) | (with_reducible refine Gx.setRow ?_ (by simp)) | (with_reducible refine Gx.setCell ?_ (by simp))))⟩
                    case measure => simp [intOf]; omega
              · have n1 := ne0 hn0
                have n2 := ne0' hn0
                have d5 : decide (2 ≤ (g k).m) = true := decide_eq_true (by omega)
                clear hn0
                rcases Nat.eq_zero_or_pos k with h00 | h00
                · have HE := Lib.hid ((firstOf_succ HCK.out).trans (badS_0 hok h2 (fun h => by omega)))
                  have dk : decide (0 < k) = false := decide_eq_false (by omega)
                  clear hok h2 h00
                  go_wp2_with first
                    | (go_at_call 59; refine (isTime_any _ _).mono ?_; rw [b1]; rintro e w' ⟨rfl, rfl⟩)
                    | (go_at_call 60; refine (isNumber_any _ _).mono ?_; rw [b2]; rintro e w' ⟨rfl, rfl⟩)
                    | (go_at_call 61; refine (hasNumber_any _ _ _ _).mono ?_; rw [d5]; rintro e w' ⟨rfl, z, rfl⟩)
                  go_quiet (fail)
                  go_wp2
                  go_roundw
                  case rel => exact ⟨k + 1, by omega, by go_num, HE.out, (by repeat (first | (with_reducible exact Gx.refl _) | (with_reducible assumption) | (with_reducible refine Gx.gx ?_) | (with_reducible refine Gx.alloc ?_) | (with_reducible refine Gx.drew ?_) | (with_reducible refine Gx.drewN ?_) | (with_reducible refine Gx.setRow ?_ (by simp)) | (with_reducible refine Gx.setCell ?_ (by simp))))⟩
                  case measure => simp [intOf]; omega
                · obtain ⟨j, hj⟩ : ∃ j, k = j + 1 := ⟨k - 1, by omega⟩
                  obtain ⟨a1, a2, a3⟩ := HC.out j (by omega)
                  have hjn : j < n := by omega
                  have ej : k - 1 = j := by omega
                  by_cases hr : (g k).t ≤ (g j).t
                  · have hs1 : w.heap.size < w.heap.size + 1 + y.n := by omega
                    have hs2 : w.heap.size < w.heap.size + 1 + y.n + 1 := by omega
                    have hb1 : b < w.heap.size + 1 + y.n := by omega
                    have hb2 : b < w.heap.size + 1 + y.n + 1 := by omega
                    have dk : decide (0 < k) = true := decide_eq_true (by omega)
                    have HE := Lib.hid (serE_bad hd h1' HCK.out hlt (badS_10 hok h2 ⟨h00, by rw [ej]; exact hr⟩) (by decide))
                    have dr : decide ((g k).t ≤ (g j).t) = true := decide_eq_true hr
                    have e1 : IntKind.i64.wrap ((k : Int) - 1) = (j : Int) := by rw [IntWalk.i64_in _ (by omega)]; omega
                    clear hok h2 hr ej hj h00
                    go_wp2_with first
                      | (go_at_call 59; refine (isTime_any _ _).mono ?_; rw [b1]; rintro e w' ⟨rfl, rfl⟩)
                      | (go_at_call 60; refine (isNumber_any _ _).mono ?_; rw [b2]; rintro e w' ⟨rfl, rfl⟩)
                      | (go_at_call 61; refine (hasNumber_any _ _ _ _).mono ?_; rw [d5]; rintro e w' ⟨rfl, z, rfl⟩)
                    go_quiet (fail)
                    go_wp2
                    go_ret2
                    exact ⟨by rw [HE.out.1, HE.out.2]; first | done | rfl, (by repeat (first | (with_reducible exact Gx.refl _) | (with_reducible assumption) | (with_reducible refine Gx.gx ?_) | (with_reducible refine Gx.alloc ?_) | (with_reducible refine Gx.drew ?_) | (with_reducible refine Gx.drewN ?_) | (with_reducible refine Gx.setRow ?_ (by simp)) | (with_reducible refine Gx.setCell ?_ (by simp))))⟩
                  · have hs1 : w.heap.size < w.heap.size + 1 + y.n := by omega
                    have hs2 : w.heap.size < w.heap.size + 1 + y.n + 1 := by omega
                    have hb1 : b < w.heap.size + 1 + y.n := by omega
                    have hb2 : b < w.heap.size + 1 + y.n + 1 := by omega
                    have dk : decide (0 < k) = true := decide_eq_true (by omega)
                    have HE := Lib.hid ((firstOf_succ HCK.out).trans (badS_0 hok h2 (fun h => hr (by rw [← ej]; exact h.2))))
                    have dr : decide ((g k).t ≤ (g j).t) = false := decide_eq_false hr
                    have e1 : IntKind.i64.wrap ((k : Int) - 1) = (j : Int) := by rw [IntWalk.i64_in _ (by omega)]; omega
                    clear hok h2 hr ej hj h00
                    go_wp2_with first
                      | (go_at_call 59; refine (isTime_any _ _).mono ?_; rw [b1]; rintro e w' ⟨rfl, rfl⟩)
                      | (go_at_call 60; refine (isNumber_any _ _).mono ?_; rw [b2]; rintro e w' ⟨rfl, rfl⟩)
                      | (go_at_call 61; refine (hasNumber_any _ _ _ _).mono ?_; rw [d5]; rintro e w' ⟨rfl, z, rfl⟩)
                    go_quiet (fail)
                    go_wp2
                    go_roundw
                    case rel => exact ⟨k + 1, by omega, by go_num, HE.out, (by repeat (first | (with_reducible exact Gx.refl _) | (with_reducible assumption) | (with_reducible refine Gx.gx ?_) | (with_reducible refine Gx.alloc ?_) | (with_reducible refine Gx.drew ?_) | (with_reducible refine Gx.drewN ?_) | (with_reducible refine Gx.setRow ?_ (by simp)) | (with_reducible refine Gx.setCell ?_ (by simp))))⟩
                    case measure => simp [intOf]; omega
          · have HE := Lib.hid (serE_bad hd h1' HCK.out hlt (badS_9 hok) (by decide))
            have HN : Hid (¬ (inB 0 1099511627776 (g k).t = true ∧ nB (g k).n = true ∧ 0 ≤ (g k).m ∧ (g k).m ≤ 4)) := fun h => hok (smOk_in.2 h)
            clear hok
            go_wp2_with first
              | (go_at_call 59; refine (isTime_any _ _).mono ?_; rintro e w' ⟨rfl, rfl⟩)
              | (go_at_call 60; refine (isNumber_any _ _).mono ?_; rintro e w' ⟨rfl, rfl⟩)
            all_goals first
              | (go_ret2; exact ⟨by rw [HE.out.1, HE.out.2]; first | done | rfl, (by repeat (first | (with_reducible exact Gx.refl _) | (with_reducible assumption) | (with_reducible refine Gx.gx ?_) | (with_reducible refine Gx.alloc ?_) | (with_reducible refine Gx.drew ?_) | (with_reducible refine Gx.drewN ?_) | (with_reducible refine Gx.setRow ?_ (by simp)) | (with_reducible refine Gx.setCell ?_ (by simp))))⟩)
              | (exfalso; have := HN.out; first | (simp_all; done) | (simp_all; omega))
        · obtain rfl : k = n := by omega
          have HE := Lib.hid (serE_ok hd h1' HCK.out)
          go_wp2
          go_ret2
          exact ⟨by rw [HE.out.1, HE.out.2]; first | done | rfl, (by repeat (first | (with_reducible exact Gx.refl _) | (with_reducible assumption) | (with_reducible refine Gx.gx ?_) | (with_reducible refine Gx.alloc ?_) | (with_reducible refine Gx.drew ?_) | (with_reducible refine Gx.drewN ?_) | (with_reducible refine Gx.setRow ?_ (by simp)) | (with_reducible refine Gx.setCell ?_ (by simp))))⟩
end Go.Proofs.Ytfbhjgaiejjfaaa
