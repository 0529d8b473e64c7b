/-
  Texts that this claim leans on, merged: SSer, SSearch, SHold, SRSer, SRHeld, PTr, PTk, PFld, PMis, PFo.
-/
import Derived.Shelf.SlSorted.Search
import Derived.Deep.RegionHeld3
import Derived.Test.YtocaphcnnmcnjaaGreatDoorM1

/-
  Check of any series, the program's: contracts; samples in memory.
-/
namespace Go.Proofs.YtocaphcnnmcnjaaGreatDoor
open Go.RowKit
-- AT2

/-- The samples g 0 .. g (n - 1) lie at A. -/
@[irreducible] def SmAt (w : World) (g : Nat → Sm) (n : Nat) (A : Option Addr) : Prop := 0 < n → ∃ b o, A = some ⟨b, o, none⟩ ∧ ∀ k, k < n → w.cell? ⟨b, o + k * 3, none⟩ = some (.int .i64 (g k).t) ∧ w.cell? ⟨b, o + k * 3 + 1, none⟩ = some (.int .i64 (g k).n) ∧ w.cell? ⟨b, o + k * 3 + 2, none⟩ = some (.int .i64 (g k).m)
theorem SmAt.get {w : World} {g : Nat → Sm} {n : Nat} {A : Option Addr} (h : SmAt w g n A) (h0 : 0 < n) : ∃ b o, A = some ⟨b, o, none⟩ ∧ b < w.heap.size ∧ Hid (∀ k, k < n → w.cell? ⟨b, o + k * 3, none⟩ = some (.int .i64 (g k).t) ∧ w.cell? ⟨b, o + k * 3 + 1, none⟩ = some (.int .i64 (g k).n) ∧ w.cell? ⟨b, o + k * 3 + 2, none⟩ = some (.int .i64 (g k).m)) := by
  unfold SmAt at h
  obtain ⟨b, o, e, hc⟩ := h h0
  exact ⟨b, o, e, World.block_lt_of_cell? w _ (hc 0 h0).1, Lib.hid hc⟩
theorem SmAt.mk {w : World} {g : Nat → Sm} {n : Nat} {A : Option Addr} (h : 0 < n → ∃ b o, A = some ⟨b, o, none⟩ ∧ ∀ k, k < n → w.cell? ⟨b, o + k * 3, none⟩ = some (.int .i64 (g k).t) ∧ w.cell? ⟨b, o + k * 3 + 1, none⟩ = some (.int .i64 (g k).n) ∧ w.cell? ⟨b, o + k * 3 + 2, none⟩ = some (.int .i64 (g k).m)) : SmAt w g n A := by
  unfold SmAt; exact h
theorem SmAt.gx {w : World} {g : Nat → Sm} {n : Nat} {A : Option Addr} {x : Ext} (h : SmAt w g n A) : SmAt (gx w x) g n A := by
  unfold SmAt at *
  intro h0
  obtain ⟨b, o, e, hc⟩ := h h0
  refine ⟨b, o, e, fun k hk => ?_⟩
  obtain ⟨c1, c2, c3⟩ := hc k hk
  exact ⟨cell_keep_gx c1, cell_keep_gx c2, cell_keep_gx c3⟩
theorem SmAt.alloc {w : World} {g : Nat → Sm} {n : Nat} {A : Option Addr} {o : Obj} (h : SmAt w g n A) : SmAt (w.alloc o) g n A := by rw [alloc_is]; exact h.gx
/-- A sample's value; a series' value. -/
abbrev smV (t n m : Int) : Value := .agg #[.int .i64 t, .int .i64 n, .int .i64 m]
abbrev serV (den : Int) (A : Option Addr) (n c : Nat) : Value := .agg #[.int .i64 den, .slice A n c]

theorem isSolid_any (t n m : Int) (w : World) : Calls Tryz.prog 103 #[smV t n m] w fun e w' => e = .returned (.bool (decide (3 ≤ m))) ∧ ∃ x, w' = gx w x := by
  go_enter Tryz.func103, Tryz.ntmps103
  go_wp2
  go_ret
  exact ⟨rfl, (by repeat (first | (with_reducible exact Gx.refl _) | (with_reducible assumption) | (with_reducible refine Gx.gx ?_) | (with_reducible refine Gx.alloc ?_) | (with_reducible refine Gx.drew ?_) | (with_reducible refine Gx.drewN ?_) | (with_reducible refine Gx.setRow ?_ (by simp)) | (with_reducible refine Gx.setCell ?_ (by simp))))⟩
theorem hasNumber_any (t n m : Int) (w : World) : Calls Tryz.prog 124 #[smV t n m] w fun e w' => e = .returned (.bool (decide (2 ≤ m))) ∧ ∃ x, w' = gx w x := by
  go_enter Tryz.func124, Tryz.ntmps124
  go_wp2
  go_ret
  exact ⟨rfl, (by repeat (first | (with_reducible exact Gx.refl _) | (with_reducible assumption) | (with_reducible refine Gx.gx ?_) | (with_reducible refine Gx.alloc ?_) | (with_reducible refine Gx.drew ?_) | (with_reducible refine Gx.drewN ?_) | (with_reducible refine Gx.setRow ?_ (by simp)) | (with_reducible refine Gx.setCell ?_ (by simp))))⟩
theorem serE_den {den : Int} {g : Nat → Sm} {n : Nat} (h : inB 1 1000000 den = false) : serE den g n = 9 ∧ serI den g n = -1 := by unfold serE serI; rw [if_pos (inB_no.1 h), if_pos (inB_no.1 h)]; exact ⟨rfl, rfl⟩
theorem serE_big {den : Int} {g : Nat → Sm} {n : Nat} (h : inB 1 1000000 den = true) (h0 : 20000 < n) : serE den g n = 3 ∧ serI den g n = -1 := by
  unfold serE serI; rw [if_neg (fun h2 => h2 (inB_iff.1 h)), if_pos h0, if_neg (fun h2 => h2 (inB_iff.1 h)), if_pos h0]; exact ⟨rfl, rfl⟩
theorem serE_bad {den : Int} {g : Nat → Sm} {k n : Nat} (h : inB 1 1000000 den = true) (h0 : n ≤ 20000) (h1 : firstOf (badS g) k = 0) (hk : k < n) {e : Int} (hb : badS g k = e) (he : e ≠ 0) : serE den g n = e ∧ serI den g n = k := by
  unfold serE serI; rw [if_neg (fun h2 => h2 (inB_iff.1 h)), if_neg (by omega), if_neg (fun h2 => h2 (inB_iff.1 h)), if_neg (by omega)]
  exact ⟨firstOf_bad h1 hk hb he, placeOf_at h1 hk (by rw [hb]; exact he)⟩
theorem serE_ok {den : Int} {g : Nat → Sm} {n : Nat} (h : inB 1 1000000 den = true) (h0 : n ≤ 20000) (h1 : firstOf (badS g) n = 0) : serE den g n = 0 ∧ serI den g n = -1 := by
  unfold serE serI; rw [if_neg (fun h2 => h2 (inB_iff.1 h)), if_neg (by omega), if_neg (fun h2 => h2 (inB_iff.1 h)), if_neg (by omega)]
  exact ⟨h1, placeOf_no h1⟩
/-- The tests of a sample. -/
theorem smOk_in {x : Sm} : smOk x ↔ (inB 0 1099511627776 x.t = true ∧ nB x.n = true ∧ 0 ≤ x.m ∧ x.m ≤ 4) := by
  rw [inB_iff, nB_iff]; unfold smOk isN; constructor
  · rintro ⟨h1, h2, h3, h4, h5, h6⟩; exact ⟨⟨h1, h2⟩, ⟨h3, h4⟩, h5, h6⟩
  · rintro ⟨⟨h1, h2⟩, ⟨h3, h4⟩, h5, h6⟩; exact ⟨h1, h2, h3, h4, h5, h6⟩

set_option maxHeartbeats 8000000 in
set_option maxRecDepth 100000 in
theorem check_any (den : Int) (g : Nat → Sm) (n c : Nat) (A : Option Addr) (w : World) (hL : SmAt w g n A) :
    Calls Tryz.prog 101 #[serV den A n c] w fun e w' => e = .returned (.tuple #[.int .i64 (serI den g n), .int .i64 (serE den g n)]) ∧ ∃ x, w' = gx w x := by
  cases hd : inB 1 1000000 den with
  | false =>
    obtain ⟨E1, E2⟩ := serE_den (g := g) (n := n) hd
    rw [E1, E2]
    clear E1 E2
    go_enter Tryz.func101, Tryz.ntmps101
    go_wp2_with (go_at_call 121; refine (isDen_any _ _).mono ?_; rw [hd]; rintro e w' ⟨rfl, rfl⟩)
    go_ret2
    exact ⟨rfl, (by repeat (first | (with_reducible exact Gx.refl _) | (with_reducible assumption) | (with_reducible refine Gx.gx ?_) | (with_reducible refine Gx.alloc ?_) | (with_reducible refine Gx.drew ?_) | (with_reducible refine Gx.drewN ?_) | (with_reducible refine Gx.setRow ?_ (by simp)) | (with_reducible refine Gx.setCell ?_ (by simp))))⟩
  | true =>
    by_cases h1 : 20000 < n
    · obtain ⟨E1, E2⟩ := serE_big (g := g) (n := n) hd h1
      rw [E1, E2]
      clear E1 E2
      go_enter Tryz.func101, Tryz.ntmps101
      go_wp2_with (go_at_call 121; refine (isDen_any _ _).mono ?_; rw [hd]; rintro e w' ⟨rfl, rfl⟩)
      go_ret2
      exact ⟨rfl, (by repeat (first | (with_reducible exact Gx.refl _) | (with_reducible assumption) | (with_reducible refine Gx.gx ?_) | (with_reducible refine Gx.alloc ?_) | (with_reducible refine Gx.drew ?_) | (with_reducible refine Gx.drewN ?_) | (with_reducible refine Gx.setRow ?_ (by simp)) | (with_reducible refine Gx.setCell ?_ (by simp))))⟩
    · have h1' : n ≤ 20000 := by omega
      go_enter Tryz.func101, Tryz.ntmps101
      go_wp2_with (go_at_call 121; refine (isDen_any _ _).mono ?_; rw [hd]; rintro e w' ⟨rfl, rfl⟩)
      go_loopw [17] (fun i wr => ∃ k : Nat, k ≤ n ∧ i = .int .i64 k ∧ firstOf (badS g) k = 0 ∧ ∃ x, wr = gx (w.alloc (.cells #[.int .i64 den, .slice A n c] 41)) x) (fun i _ => n - (intOf i).toNat)
      case atStart => exact ⟨0, Nat.zero_le _, rfl, firstOf_0 _, Gx.refl _⟩
      case round =>
        obtain ⟨k, hk, rfl, hck, y, rfl⟩ := hrel
        have HCK := Lib.hid hck
        clear hck
        by_cases hlt : k < n
        · obtain ⟨b, o, rfl, hbw, HC⟩ := hL.get (by omega)
          obtain ⟨c1, c2, c3⟩ := HC.out k hlt
          by_cases hok : smOk (g k)
          · have hok2 := smOk_in.1 hok
            obtain ⟨b1, b2, b3, b4⟩ := hok2
            have d3 : decide ((g k).m < 0) = false := decide_eq_false (by omega)
            have d4 : decide (4 < (g k).m) = false := decide_eq_false (by omega)
            by_cases h2 : (g k).n ≠ 0 ∧ (g k).m < 2
            · have HE := Lib.hid (serE_bad hd h1' HCK.out hlt (badS_2 hok h2) (by decide))
              have n1 := ne0 h2.1
              have n2 := ne0' h2.1
              have d5 : decide (2 ≤ (g k).m) = false := decide_eq_false (by omega)
              clear hok h2
              go_wp2_with first
                | (go_at_call 122; refine (isTime_any _ _).mono ?_; rw [b1]; rintro e w' ⟨rfl, rfl⟩)
                | (go_at_call 123; refine (isNumber_any _ _).mono ?_; rw [b2]; rintro e w' ⟨rfl, rfl⟩)
                | (go_at_call 124; refine (hasNumber_any _ _ _ _).mono ?_; rw [d5]; rintro e w' ⟨rfl, z, rfl⟩)
              go_ret2
              exact ⟨by rw [HE.out.1, HE.out.2]; first | done | rfl, (by repeat (first | (with_reducible exact Gx.refl _) | (with_reducible assumption) | (with_reducible refine Gx.gx ?_) | (with_reducible refine Gx.alloc ?_) | (with_reducible refine Gx.drew ?_) | (with_reducible refine Gx.drewN ?_) | (with_reducible refine Gx.setRow ?_ (by simp)) | (with_reducible refine Gx.setCell ?_ (by simp))))⟩
            · by_cases hn0 : (g k).n = 0
              · have n1 : ((g k).n != 0) = false := by simpa using hn0
                have n2 : ((g k).n == 0) = true := by simpa using hn0
                clear hn0
                rcases Nat.eq_zero_or_pos k with h00 | h00
                · have HE := Lib.hid ((firstOf_succ HCK.out).trans (badS_0 hok h2 (fun h => by omega)))
                  have dk : decide (0 < k) = false := decide_eq_false (by omega)
                  clear hok h2 h00
                  go_wp2_with first
                    | (go_at_call 122; refine (isTime_any _ _).mono ?_; rw [b1]; rintro e w' ⟨rfl, rfl⟩)
                    | (go_at_call 123; refine (isNumber_any _ _).mono ?_; rw [b2]; rintro e w' ⟨rfl, rfl⟩)
                  go_quiet (fail)
                  go_wp2
                  go_roundw
                  case rel => exact ⟨k + 1, by omega, by go_num, HE.out, (by repeat (first | (with_reducible exact Gx.refl _) | (with_reducible assumption) | (with_reducible refine Gx.gx ?_) | (with_reducible refine Gx.alloc ?_) | (with_reducible refine Gx.drew ?_) | (with_reducible refine Gx.drewN ?_) | (with_reducible refine Gx.setRow ?_ (by simp)) | (with_reducible refine Gx.setCell ?_ (by simp))))⟩
                  case measure => simp [intOf]; omega
                · obtain ⟨j, hj⟩ : ∃ j, k = j + 1 := ⟨k - 1, by omega⟩
                  obtain ⟨a1, a2, a3⟩ := HC.out j (by omega)
                  have hjn : j < n := by omega
                  have ej : k - 1 = j := by omega
                  by_cases hr : (g k).t ≤ (g j).t
                  · have hs1 : w.heap.size < w.heap.size + 1 + y.n := by omega
                    have hs2 : w.heap.size < w.heap.size + 1 + y.n + 1 := by omega
                    have hb1 : b < w.heap.size + 1 + y.n := by omega
                    have hb2 : b < w.heap.size + 1 + y.n + 1 := by omega
                    have dk : decide (0 < k) = true := decide_eq_true (by omega)
                    have HE := Lib.hid (serE_bad hd h1' HCK.out hlt (badS_10 hok h2 ⟨h00, by rw [ej]; exact hr⟩) (by decide))
                    have dr : decide ((g k).t ≤ (g j).t) = true := decide_eq_true hr
                    have e1 : IntKind.i64.wrap ((k : Int) - 1) = (j : Int) := by rw [IntWalk.i64_in _ (by omega)]; omega
                    clear hok h2 hr ej hj h00
                    go_wp2_with first
                      | (go_at_call 122; refine (isTime_any _ _).mono ?_; rw [b1]; rintro e w' ⟨rfl, rfl⟩)
                      | (go_at_call 123; refine (isNumber_any _ _).mono ?_; rw [b2]; rintro e w' ⟨rfl, rfl⟩)
                    go_quiet (fail)
                    go_wp2
                    go_ret2
                    exact ⟨by rw [HE.out.1, HE.out.2]; first | done | rfl, (by repeat (first | (with_reducible exact Gx.refl _) | (with_reducible assumption) | (with_reducible refine Gx.gx ?_) | (with_reducible refine Gx.alloc ?_) | (with_reducible refine Gx.drew ?_) | (with_reducible refine Gx.drewN ?_) | (with_reducible refine Gx.setRow ?_ (by simp)) | (with_reducible refine Gx.setCell ?_ (by simp))))⟩
                  · have hs1 : w.heap.size < w.heap.size + 1 + y.n := by omega
                    have hs2 : w.heap.size < w.heap.size + 1 + y.n + 1 := by omega
                    have hb1 : b < w.heap.size + 1 + y.n := by omega
                    have hb2 : b < w.heap.size + 1 + y.n + 1 := by omega
                    have dk : decide (0 < k) = true := decide_eq_true (by omega)
                    have HE := Lib.hid ((firstOf_succ HCK.out).trans (badS_0 hok h2 (fun h => hr (by rw [← ej]; exact h.2))))
                    have dr : decide ((g k).t ≤ (g j).t) = false := decide_eq_false hr
                    have e1 : IntKind.i64.wrap ((k : Int) - 1) = (j : Int) := by rw [IntWalk.i64_in _ (by omega)]; omega
                    clear hok h2 hr ej hj h00
                    go_wp2_with first
                      | (go_at_call 122; refine (isTime_any _ _).mono ?_; rw [b1]; rintro e w' ⟨rfl, rfl⟩)
                      | (go_at_call 123; refine (isNumber_any _ _).mono ?_; rw [b2]; rintro e w' ⟨rfl, rfl⟩)
                    go_quiet (fail)
                    go_wp2
                    go_roundw
                    case rel => exact ⟨k + 1, by omega, by go_num, HE.out, (by repeat (first | (with_reducible exact Gx.refl _) | (with_reducible assumption) | (with_reducible refine Gx.gx ?_) | (with_reducible refine Gx.alloc ?_) | (with_reducible refine Gx.drew ?_) | (with_reducible refine Gx.drewN ?_) | (with_reducible refine Gx.setRow ?_ (by simp)) | (with_reducible refine Gx.setCell ?_ (by simp))))⟩
                    case measure => simp [intOf]; omega
              · have n1 := ne0 hn0
                have n2 := ne0' hn0
                have d5 : decide (2 ≤ (g k).m) = true := decide_eq_true (by omega)
                clear hn0
                rcases Nat.eq_zero_or_pos k with h00 | h00
                · have HE := Lib.hid ((firstOf_succ HCK.out).trans (badS_0 hok h2 (fun h => by omega)))
                  have dk : decide (0 < k) = false := decide_eq_false (by omega)
                  clear hok h2 h00
                  go_wp2_with first
                    | (go_at_call 122; refine (isTime_any _ _).mono ?_; rw [b1]; rintro e w' ⟨rfl, rfl⟩)
                    | (go_at_call 123; refine (isNumber_any _ _).mono ?_; rw [b2]; rintro e w' ⟨rfl, rfl⟩)
                    | (go_at_call 124; refine (hasNumber_any _ _ _ _).mono ?_; rw [d5]; rintro e w' ⟨rfl, z, rfl⟩)
                  go_quiet (fail)
                  go_wp2
                  go_roundw
                  case rel => exact ⟨k + 1, by omega, by go_num, HE.out, (by repeat (first | (with_reducible exact Gx.refl _) | (with_reducible assumption) | (with_reducible refine Gx.gx ?_) | (with_reducible refine Gx.alloc ?_) | (with_reducible refine Gx.drew ?_) | (with_reducible refine Gx.drewN ?_) | (with_reducible refine Gx.setRow ?_ (by simp)) | (with_reducible refine Gx.setCell ?_ (by simp))))⟩
                  case measure => simp [intOf]; omega
                · obtain ⟨j, hj⟩ : ∃ j, k = j + 1 := ⟨k - 1, by omega⟩
                  obtain ⟨a1, a2, a3⟩ := HC.out j (by omega)
                  have hjn : j < n := by omega
                  have ej : k - 1 = j := by omega
                  by_cases hr : (g k).t ≤ (g j).t
                  · have hs1 : w.heap.size < w.heap.size + 1 + y.n := by omega
                    have hs2 : w.heap.size < w.heap.size + 1 + y.n + 1 := by omega
                    have hb1 : b < w.heap.size + 1 + y.n := by omega
                    have hb2 : b < w.heap.size + 1 + y.n + 1 := by omega
                    have dk : decide (0 < k) = true := decide_eq_true (by omega)
                    have HE := Lib.hid (serE_bad hd h1' HCK.out hlt (badS_10 hok h2 ⟨h00, by rw [ej]; exact hr⟩) (by decide))
                    have dr : decide ((g k).t ≤ (g j).t) = true := decide_eq_true hr
                    have e1 : IntKind.i64.wrap ((k : Int) - 1) = (j : Int) := by rw [IntWalk.i64_in _ (by omega)]; omega
                    clear hok h2 hr ej hj h00
                    go_wp2_with first
                      | (go_at_call 122; refine (isTime_any _ _).mono ?_; rw [b1]; rintro e w' ⟨rfl, rfl⟩)
                      | (go_at_call 123; refine (isNumber_any _ _).mono ?_; rw [b2]; rintro e w' ⟨rfl, rfl⟩)
                      | (go_at_call 124; refine (hasNumber_any _ _ _ _).mono ?_; rw [d5]; rintro e w' ⟨rfl, z, rfl⟩)
                    go_quiet (fail)
                    go_wp2
                    go_ret2
                    exact ⟨by rw [HE.out.1, HE.out.2]; first | done | rfl, (by repeat (first | (with_reducible exact Gx.refl _) | (with_reducible assumption) | (with_reducible refine Gx.gx ?_) | (with_reducible refine Gx.alloc ?_) | (with_reducible refine Gx.drew ?_) | (with_reducible refine Gx.drewN ?_) | (with_reducible refine Gx.setRow ?_ (by simp)) | (with_reducible refine Gx.setCell ?_ (by simp))))⟩
                  · have hs1 : w.heap.size < w.heap.size + 1 + y.n := by omega
                    have hs2 : w.heap.size < w.heap.size + 1 + y.n + 1 := by omega
                    have hb1 : b < w.heap.size + 1 + y.n := by omega
                    have hb2 : b < w.heap.size + 1 + y.n + 1 := by omega
                    have dk : decide (0 < k) = true := decide_eq_true (by omega)
                    have HE := Lib.hid ((firstOf_succ HCK.out).trans (badS_0 hok h2 (fun h => hr (by rw [← ej]; exact h.2))))
                    have dr : decide ((g k).t ≤ (g j).t) = false := decide_eq_false hr
                    have e1 : IntKind.i64.wrap ((k : Int) - 1) = (j : Int) := by rw [IntWalk.i64_in _ (by omega)]; omega
                    clear hok h2 hr ej hj h00
                    go_wp2_with first
                      | (go_at_call 122; refine (isTime_any _ _).mono ?_; rw [b1]; rintro e w' ⟨rfl, rfl⟩)
                      | (go_at_call 123; refine (isNumber_any _ _).mono ?_; rw [b2]; rintro e w' ⟨rfl, rfl⟩)
                      | (go_at_call 124; refine (hasNumber_any _ _ _ _).mono ?_; rw [d5]; rintro e w' ⟨rfl, z, rfl⟩)
                    go_quiet (fail)
                    go_wp2
                    go_roundw
                    case rel => exact ⟨k + 1, by omega, by go_num, HE.out, (by repeat (first | (with_reducible exact Gx.refl _) | (with_reducible assumption) | (with_reducible refine Gx.gx ?_) | (with_reducible refine Gx.alloc ?_) | (with_reducible refine Gx.drew ?_) | (with_reducible refine Gx.drewN ?_) | (with_reducible refine Gx.setRow ?_ (by simp)) | (with_reducible refine Gx.setCell ?_ (by simp))))⟩
                    case measure => simp [intOf]; omega
          · have HE := Lib.hid (serE_bad hd h1' HCK.out hlt (badS_9 hok) (by decide))
            have HN : Hid (¬ (inB 0 1099511627776 (g k).t = true ∧ nB (g k).n = true ∧ 0 ≤ (g k).m ∧ (g k).m ≤ 4)) := fun h => hok (smOk_in.2 h)
            clear hok
            go_wp2_with first
              | (go_at_call 122; refine (isTime_any _ _).mono ?_; rintro e w' ⟨rfl, rfl⟩)
              | (go_at_call 123; refine (isNumber_any _ _).mono ?_; rintro e w' ⟨rfl, rfl⟩)
            all_goals first
              | (go_ret2; exact ⟨by rw [HE.out.1, HE.out.2]; first | done | rfl, (by repeat (first | (with_reducible exact Gx.refl _) | (with_reducible assumption) | (with_reducible refine Gx.gx ?_) | (with_reducible refine Gx.alloc ?_) | (with_reducible refine Gx.drew ?_) | (with_reducible refine Gx.drewN ?_) | (with_reducible refine Gx.setRow ?_ (by simp)) | (with_reducible refine Gx.setCell ?_ (by simp))))⟩)
              | (exfalso; have := HN.out; first | (simp_all; done) | (simp_all; omega))
        · obtain rfl : k = n := by omega
          have HE := Lib.hid (serE_ok hd h1' HCK.out)
          go_wp2
          go_ret2
          exact ⟨by rw [HE.out.1, HE.out.2]; first | done | rfl, (by repeat (first | (with_reducible exact Gx.refl _) | (with_reducible assumption) | (with_reducible refine Gx.gx ?_) | (with_reducible refine Gx.alloc ?_) | (with_reducible refine Gx.drew ?_) | (with_reducible refine Gx.drewN ?_) | (with_reducible refine Gx.setRow ?_ (by simp)) | (with_reducible refine Gx.setCell ?_ (by simp))))⟩
end Go.Proofs.YtocaphcnnmcnjaaGreatDoor

/-
  sort.Search: the shelf's contract at this program.
-/
namespace Go.Proofs.YtocaphcnnmcnjaaGreatDoor
open Go.RowKit
open Go.Shelf Go.Sort
-- AT2
def searchA_ren : Go.Shelf.Ren := ⟨fun | 16 => 114 | n => n, fun | 3 => 3 | 35 => 85 | 4 => 4 | 38 => 158 | n => n, fun | n => n⟩
theorem searchA : Go.Proofs.SlLaysO.n16 Tryz.prog searchA_ren := {
  mixed := by kernel_rfl
  f16 := Tryz.func114.trans (congrArg some (by kernel_rfl))
  t3 := Tryz.underlying3
  a3 := Tryz.isAgg3
  z3 := Tryz.sizeOf3
  v3 := Tryz.zeroValue3
  t4 := Tryz.underlying4
  a4 := Tryz.isAgg4
  z4 := Tryz.sizeOf4
  v4 := Tryz.zeroValue4
  t35 := Tryz.underlying85
  a35 := Tryz.isAgg85
  z35 := Tryz.sizeOf85
  v35 := Tryz.zeroValue85
  t38 := Tryz.underlying158
  a38 := Tryz.isAgg158
  z38 := Tryz.sizeOf158
  v38 := Tryz.zeroValue158 }

theorem grow_is (w : World) (q : Nat) (os : Array Obj) : ∃ x, Go.Sort.grow (w.drewN q) os = gx w x := by
  obtain ⟨x, hx⟩ := gx_of_below (Go.Proofs.below_grown_sl w.heap.size w q os (Nat.le_refl _))
  exact ⟨x, hx⟩
theorem Search_any (g : Nat) (cb : Array Value) (n : Nat) (p : Nat → Bool) (w : World) (eg : ∀ args w, (callFunc g args).run Tryz.prog w = .ok (.enter g args) w) (hsz : n < 4611686018427387904)
    (hf : ∀ (W : World), (∃ x, W = gx w x) → ∀ i : Nat, i < n → Calls Tryz.prog g (#[.int .i64 i] ++ cb) W fun e w' => e = .returned (.bool (p i)) ∧ ∃ q os, w' = Go.Sort.grow (W.drewN q) os)
    (hmono : ∀ a b, a ≤ b → b < n → p a = true → p b = true) :
    Calls Tryz.prog 114 #[.int .i64 n, .func (.func g) #[] cb] w fun e w' => e = .returned (.int .i64 ((List.range n).countP (fun i => !p i) : Nat)) ∧ ∃ x, w' = gx w x := by
  refine (Go.Proofs.Any.sort_Search searchA g cb n p w eg hsz (fun m os i hi => hf _ (grow_is w m os) i hi) hmono).mono ?_
  rintro e w' ⟨he, q, os, rfl⟩
  exact ⟨he, grow_is w q os⟩
end Go.Proofs.YtocaphcnnmcnjaaGreatDoor

/-
  What is held at a time, the program's: contracts.
-/
namespace Go.Proofs.YtocaphcnnmcnjaaGreatDoor
open Go.RowKit
-- AT2

/-- The closure of ahead. -/
theorem ahead1_any (b o n c ba bx : Nat) (y t : Int) (i : Nat) (W : World) (hi : i < n)
    (ha : W.cell? ⟨ba, 0, none⟩ = some (.slice (some ⟨b, o, none⟩) n c)) (hx : W.cell? ⟨bx, 0, none⟩ = some (.int .i64 t)) (hc : W.cell? ⟨b, o + i * 3, none⟩ = some (.int .i64 y)) :
    Calls Tryz.prog 125 (#[.int .i64 i] ++ #[.pointer (some ⟨ba, 0, none⟩), .pointer (some ⟨bx, 0, none⟩)]) W fun e w' => e = .returned (.bool (decide (t ≤ y))) ∧ ∃ q os, w' = Go.Sort.grow (W.drewN q) os := by
  have hiz : (i : Int) < (n : Int) := by omega
  go_enter Tryz.func125, Tryz.ntmps125
  go_wp2
  go_quiet (fail)
  go_wp2
  go_ret
  exact ⟨rfl, nq, #[], by rw [Go.Sort.grow_empty]⟩
set_option maxHeartbeats 1000000 in
theorem ahead_any (g : Nat → Sm) (n c : Nat) (A : Option Addr) (t : Int) (w : World) (hL : SmAt w g n A) (hn : n ≤ 20000) (hG : GoodS g n) :
    Calls Tryz.prog 102 #[.slice A n c, .int .i64 t] w fun e w' => e = .returned (.int .i64 (aheadN g t n)) ∧ ∃ x, w' = gx w x := by
  obtain ⟨W0, hW0⟩ : ∃ W0, W0 = (w.alloc (.cells #[.slice A n c] 39)).alloc (.cells #[.int .i64 t] 3) := ⟨_, rfl⟩
  have hsize : W0.heap.size = w.heap.size + 1 + 1 := by rw [hW0]; simp
  have eg : ∀ args w, (callFunc 125 args).run Tryz.prog w = .ok (.enter 125 args) w := enters_of Tryz.func125 (by kernel_rfl) rfl
  have h1 : W0.cell? ⟨w.heap.size, 0, none⟩ = some (.slice A n c) := by rw [hW0]; exact Go.Proofs.cell_alloc_sl _ (Go.Proofs.cell_new_sl w _ _)
  have h2 : W0.cell? ⟨w.heap.size + 1, 0, none⟩ = some (.int .i64 t) := by
    rw [hW0]; have := Go.Proofs.cell_new_sl (w.alloc (.cells #[.slice A n c] 39)) (.int .i64 t) 3; rwa [World.size_alloc] at this
  have h3 : SmAt W0 g n A := by rw [hW0]; exact hL.alloc.alloc
  have hS := Search_any 125 #[.pointer (some ⟨w.heap.size, 0, none⟩), .pointer (some ⟨w.heap.size + 1, 0, none⟩)] n (fun i => decide (t ≤ (g i).t)) W0 eg (by omega)
    (fun W hW i hi => by
      obtain ⟨x, rfl⟩ := hW
      obtain ⟨b, o, rfl, hbw, HC⟩ := h3.get (by omega)
      exact ahead1_any b o n c w.heap.size (w.heap.size + 1) (g i).t t i _ hi (cell_keep_gx h1) (cell_keep_gx h2) (cell_keep_gx (HC.out i hi).1))
    (fun a b hab hb h => by have := hG.le hab hb; simp only [decide_eq_true_eq] at h ⊢; omega)
  rw [aheadN_countP] at hS
  clear h1 h2 h3 eg
  generalize aheadN g t n = r at hS ⊢
  go_enter Tryz.func102, Tryz.ntmps102
  go_wp2_with (go_at_call 114; rw [← hW0]; refine hS.mono ?_; rintro e w' ⟨rfl, x, rfl⟩)
  go_ret
  exact ⟨rfl, (by repeat (first | (with_reducible exact Gx.refl _) | (with_reducible assumption) | (with_reducible refine Gx.gx ?_) | (with_reducible refine Gx.alloc ?_) | (with_reducible refine Gx.drew ?_) | (with_reducible refine Gx.drewN ?_) | (with_reducible refine Gx.setRow ?_ (by simp)) | (with_reducible refine Gx.setCell ?_ (by simp))))⟩

set_option maxHeartbeats 2000000 in
set_option maxRecDepth 100000 in
theorem hold_any (g : Nat → Sm) (n c : Nat) (A : Option Addr) (a l : Int) (w : World) (hL : SmAt w g n A) (hn : n ≤ 20000) (hG : GoodS g n) (ha1 : 0 ≤ a) (ha2 : a ≤ 1099511627776) (_hl1 : 0 ≤ l) (_hl2 : l ≤ 1099511627776) :
    Calls Tryz.prog 72 #[.slice A n c, .int .i64 a, .int .i64 l] w fun e w' => e = .returned (.tuple #[smV (heldV g (aheadN g (a + 1) n) a l).t (heldV g (aheadN g (a + 1) n) a l).n (heldV g (aheadN g (a + 1) n) a l).m, .bool (heldB g (aheadN g (a + 1) n) a l)]) ∧ ∃ x, w' = gx w x := by
  have hle := aheadN_le g (a + 1) n
  have HA := fun W h => ahead_any g n c A (a + 1) W h hn hG
  have hlw : SmAt (w.alloc (.cells #[.int .i64 0, .int .i64 0, .int .i64 0] 45)) g n A := hL.alloc
  generalize aheadN g (a + 1) n = k at *
  rcases Nat.eq_zero_or_pos k with h0 | h0
  · have hb : heldB g k a l = false := heldB_no.2 (fun h => by omega)
    rw [heldV_no hb, hb]
    subst h0
    clear hb
    go_enter Tryz.func72, Tryz.ntmps72
    go_wp2_with (go_at_call 102; refine (HA _ hlw).mono ?_; rintro e w' ⟨rfl, x, rfl⟩)
    exact bodyPost_ret (v := .tuple #[smV 0 0 0, .bool false]) (by simp [results, Tryz.results72, go_sem]) rfl ⟨rfl, (by repeat (first | (with_reducible exact Gx.refl _) | (with_reducible assumption) | (with_reducible refine Gx.gx ?_) | (with_reducible refine Gx.alloc ?_) | (with_reducible refine Gx.drew ?_) | (with_reducible refine Gx.drewN ?_) | (with_reducible refine Gx.setRow ?_ (by simp)) | (with_reducible refine Gx.setCell ?_ (by simp))))⟩
  · obtain ⟨j, rfl⟩ : ∃ j, k = j + 1 := ⟨k - 1, by omega⟩
    obtain ⟨b, o, rfl, hbw, HC⟩ := hL.get (by omega)
    obtain ⟨c1, c2, c3⟩ := HC.out j (by omega)
    have hok := hG.ok j (by omega)
    unfold smOk at hok
    obtain ⟨o1, o2, o3, o4, o5, o6⟩ := hok
    have hjn : j < n := by omega
    have ej : j + 1 - 1 = j := by omega
    by_cases h3 : 3 ≤ (g j).m
    · have d3 : decide (3 ≤ (g j).m) = true := decide_eq_true h3
      by_cases h4 : a - (g j).t ≤ l
      · have hb : heldB g (j + 1) a l = true := heldB_iff.2 ⟨h0, by rw [ej]; exact h3, by rw [ej]; exact h4⟩
        rw [heldV_yes hb, hb, ej]
        have d4 : decide (l < a - (g j).t) = false := decide_eq_false (by omega)
        clear hb h3 h4 ej hL
        go_enter Tryz.func72, Tryz.ntmps72
        go_wp2_with first
          | (go_at_call 102; refine (HA _ hlw).mono ?_; rintro e w' ⟨rfl, x, rfl⟩)
          | (go_at_call 103; refine (isSolid_any _ _ _ _).mono ?_; rw [d3]; rintro e w' ⟨rfl, x, rfl⟩)
        exact bodyPost_ret (v := .tuple #[smV (g j).t (g j).n (g j).m, .bool true]) (by simp [results, Tryz.results72, go_sem]) rfl ⟨rfl, (by repeat (first | (with_reducible exact Gx.refl _) | (with_reducible assumption) | (with_reducible refine Gx.gx ?_) | (with_reducible refine Gx.alloc ?_) | (with_reducible refine Gx.drew ?_) | (with_reducible refine Gx.drewN ?_) | (with_reducible refine Gx.setRow ?_ (by simp)) | (with_reducible refine Gx.setCell ?_ (by simp))))⟩
      · have hb : heldB g (j + 1) a l = false := heldB_no.2 (fun h => h4 (by have := h.2.2; rw [ej] at this; exact this))
        rw [heldV_no hb, hb]
        have d4 : decide (l < a - (g j).t) = true := decide_eq_true (by omega)
        clear hb h3 h4 ej hL
        go_enter Tryz.func72, Tryz.ntmps72
        go_wp2_with first
          | (go_at_call 102; refine (HA _ hlw).mono ?_; rintro e w' ⟨rfl, x, rfl⟩)
          | (go_at_call 103; refine (isSolid_any _ _ _ _).mono ?_; rw [d3]; rintro e w' ⟨rfl, x, rfl⟩)
        exact bodyPost_ret (v := .tuple #[smV 0 0 0, .bool false]) (by simp [results, Tryz.results72, go_sem]) rfl ⟨rfl, (by repeat (first | (with_reducible exact Gx.refl _) | (with_reducible assumption) | (with_reducible refine Gx.gx ?_) | (with_reducible refine Gx.alloc ?_) | (with_reducible refine Gx.drew ?_) | (with_reducible refine Gx.drewN ?_) | (with_reducible refine Gx.setRow ?_ (by simp)) | (with_reducible refine Gx.setCell ?_ (by simp))))⟩
    · have d3 : decide (3 ≤ (g j).m) = false := decide_eq_false h3
      have hb : heldB g (j + 1) a l = false := heldB_no.2 (fun h => h3 (by have := h.2.1; rw [ej] at this; exact this))
      rw [heldV_no hb, hb]
      clear hb h3 ej hL
      go_enter Tryz.func72, Tryz.ntmps72
      go_wp2_with first
        | (go_at_call 102; refine (HA _ hlw).mono ?_; rintro e w' ⟨rfl, x, rfl⟩)
        | (go_at_call 103; refine (isSolid_any _ _ _ _).mono ?_; rw [d3]; rintro e w' ⟨rfl, x, rfl⟩)
      exact bodyPost_ret (v := .tuple #[smV 0 0 0, .bool false]) (by simp [results, Tryz.results72, go_sem]) rfl ⟨rfl, (by repeat (first | (with_reducible exact Gx.refl _) | (with_reducible assumption) | (with_reducible refine Gx.gx ?_) | (with_reducible refine Gx.alloc ?_) | (with_reducible refine Gx.drew ?_) | (with_reducible refine Gx.drewN ?_) | (with_reducible refine Gx.setRow ?_ (by simp)) | (with_reducible refine Gx.setCell ?_ (by simp))))⟩

theorem Check_any (den : Int) (g : Nat → Sm) (n c : Nat) (A : Option Addr) (w : World) (hL : SmAt w g n A) :
    Calls Tryz.prog 71 #[serV den A n c] w fun e w' => e = .returned (.int .i64 (serE den g n)) ∧ ∃ x, w' = gx w x := by
  have hlw : SmAt (w.alloc (.cells #[.int .i64 den, .slice A n c] 41)) g n A := hL.alloc
  have HC := fun W h => check_any den g n c A W h
  go_enter Tryz.func71, Tryz.ntmps71
  go_wp2_with (go_at_call 101; refine (HC _ hlw).mono ?_; rintro e w' ⟨rfl, x, rfl⟩)
  go_ret
  exact ⟨rfl, (by repeat (first | (with_reducible exact Gx.refl _) | (with_reducible assumption) | (with_reducible refine Gx.gx ?_) | (with_reducible refine Gx.alloc ?_) | (with_reducible refine Gx.drew ?_) | (with_reducible refine Gx.drewN ?_) | (with_reducible refine Gx.setRow ?_ (by simp)) | (with_reducible refine Gx.setCell ?_ (by simp))))⟩
/-- What is wrong with a series and times. -/
def holdE (den : Int) (g : Nat → Sm) (n : Nat) (a l : Int) : Int := if serE den g n ≠ 0 then serE den g n else if (inB 0 1099511627776 a && inB 0 1099511627776 l) = true then 0 else 9
theorem holdE_0 {den : Int} {g : Nat → Sm} {n : Nat} {a l : Int} (h : holdE den g n a l = 0) : serE den g n = 0 ∧ (0 ≤ a ∧ a ≤ 1099511627776) ∧ (0 ≤ l ∧ l ≤ 1099511627776) := by
  unfold holdE at h
  split at h
  · rename_i h1; exact absurd h h1
  · split at h
    · rename_i h1 h2
      rw [Bool.and_eq_true, inB_iff, inB_iff] at h2
      exact ⟨Classical.byContradiction h1, h2⟩
    · omega
theorem holdE_is {den : Int} {g : Nat → Sm} {n : Nat} {a l : Int} (h : serE den g n = 0) : holdE den g n a l = if (inB 0 1099511627776 a && inB 0 1099511627776 l) = true then 0 else 9 := by unfold holdE; rw [if_neg (fun k => k h)]
theorem holdE_no {den : Int} {g : Nat → Sm} {n : Nat} {a l : Int} (h : serE den g n ≠ 0) : holdE den g n a l = serE den g n := by unfold holdE; rw [if_pos h]
attribute [irreducible] holdE
/-- What Hold leaves. -/
def holdV (den : Int) (g : Nat → Sm) (n : Nat) (a l : Int) : Sm := if holdE den g n a l = 0 then heldV g (aheadN g (a + 1) n) a l else ⟨0, 0, 0⟩
def holdB (den : Int) (g : Nat → Sm) (n : Nat) (a l : Int) : Bool := if holdE den g n a l = 0 then heldB g (aheadN g (a + 1) n) a l else false
theorem hold_yes {den : Int} {g : Nat → Sm} {n : Nat} {a l : Int} (h : holdE den g n a l = 0) : holdV den g n a l = heldV g (aheadN g (a + 1) n) a l ∧ holdB den g n a l = heldB g (aheadN g (a + 1) n) a l := by unfold holdV holdB; rw [if_pos h, if_pos h]; exact ⟨rfl, rfl⟩
theorem hold_not {den : Int} {g : Nat → Sm} {n : Nat} {a l : Int} (h : holdE den g n a l ≠ 0) : holdV den g n a l = ⟨0, 0, 0⟩ ∧ holdB den g n a l = false := by unfold holdV holdB; rw [if_neg h, if_neg h]; exact ⟨rfl, rfl⟩
attribute [irreducible] holdV holdB
end Go.Proofs.YtocaphcnnmcnjaaGreatDoor

/-
  Check of any series, the reference's: contracts.
-/
namespace Go.Proofs.YtocaphcnnmcnjaaGreatDoor
open Go.RowKit
-- AT2

def smE (x : Sm) : Int := if ¬ smOk x then 9 else if x.n ≠ 0 ∧ x.m < 2 then 2 else 0
theorem smE_9 {x : Sm} (h : ¬ smOk x) : smE x = 9 := by unfold smE; rw [if_pos h]
theorem smE_2 {x : Sm} (h : smOk x) (h2 : x.n ≠ 0 ∧ x.m < 2) : smE x = 2 := by unfold smE; rw [if_neg (fun k => k h), if_pos h2]
theorem smE_0 {x : Sm} (h : smOk x) (h2 : ¬ (x.n ≠ 0 ∧ x.m < 2)) : smE x = 0 := by unfold smE; rw [if_neg (fun k => k h), if_neg h2]
theorem badS_smE {g : Nat → Sm} {i : Nat} (h : smE (g i) ≠ 0) : badS g i = smE (g i) := by
  by_cases h1 : smOk (g i)
  · by_cases h2 : (g i).n ≠ 0 ∧ (g i).m < 2
    · rw [badS_2 h1 h2, smE_2 h1 h2]
    · exact absurd (smE_0 h1 h2) h
  · rw [badS_9 h1, smE_9 h1]
theorem smE_ok {x : Sm} (h : smE x = 0) : smOk x ∧ ¬ (x.n ≠ 0 ∧ x.m < 2) := by
  by_cases h1 : smOk x
  · by_cases h2 : x.n ≠ 0 ∧ x.m < 2
    · rw [smE_2 h1 h2] at h; omega
    · exact ⟨h1, h2⟩
  · rw [smE_9 h1] at h; omega
attribute [irreducible] smE
theorem smOk_inR {x : Sm} : smOk x ↔ (inB 0 1099511627776 x.t = true ∧ inB (-1125899906842624) 1125899906842624 x.n = true ∧ inB 0 4 x.m = true) := by
  rw [inB_iff, inB_iff, inB_iff]; unfold smOk; constructor
  · rintro ⟨h1, h2, h3, h4, h5, h6⟩; exact ⟨⟨h1, h2⟩, ⟨h3, h4⟩, h5, h6⟩
  · rintro ⟨⟨h1, h2⟩, ⟨h3, h4⟩, h5, h6⟩; exact ⟨h1, h2, h3, h4, h5, h6⟩
theorem numbered_any (m : Int) (w : World) : Calls Tryz.prog 136 #[.int .i64 m] w fun e w' => e = .returned (.bool (decide (2 ≤ m))) ∧ w = w' := by
  go_enter Tryz.func136, Tryz.ntmps136
  go_wp2
  go_ret
  exact ⟨rfl, rfl⟩
set_option maxHeartbeats 2000000 in
theorem sampleFault_any (x : Sm) (w : World) : Calls Tryz.prog 127 #[smV x.t x.n x.m] w fun e w' => e = .returned (.int .i64 (smE x)) ∧ ∃ y, w' = gx w y := by
  by_cases hok : smOk x
  · have hok2 := smOk_inR.1 hok
    obtain ⟨b1, b2, b3⟩ := hok2
    by_cases h2 : x.n ≠ 0 ∧ x.m < 2
    · rw [smE_2 hok h2]
      have n1 := ne0 h2.1
      have n2 := ne0' h2.1
      have d5 : decide (2 ≤ x.m) = false := decide_eq_false (by omega)
      clear hok h2
      go_enter Tryz.func127, Tryz.ntmps127
      go_wp2_with first
        | (go_at_call 106; refine (outside_any _ _ _ _).mono ?_; (first | rw [b1] | rw [b2] | rw [b3]); rintro e w' ⟨rfl, rfl⟩)
        | (go_at_call 136; refine (numbered_any _ _).mono ?_; rw [d5]; rintro e w' ⟨rfl, rfl⟩)
      go_ret
      exact ⟨rfl, (by repeat (first | (with_reducible exact Gx.refl _) | (with_reducible assumption) | (with_reducible refine Gx.gx ?_) | (with_reducible refine Gx.alloc ?_) | (with_reducible refine Gx.drew ?_) | (with_reducible refine Gx.drewN ?_) | (with_reducible refine Gx.setRow ?_ (by simp)) | (with_reducible refine Gx.setCell ?_ (by simp))))⟩
    · rw [smE_0 hok h2]
      by_cases h3 : x.n = 0
      · have n1 : (x.n != 0) = false := by simpa using h3
        have n2 : (x.n == 0) = true := by simpa using h3
        clear hok h2 h3
        go_enter Tryz.func127, Tryz.ntmps127
        go_wp2_with (go_at_call 106; refine (outside_any _ _ _ _).mono ?_; (first | rw [b1] | rw [b2] | rw [b3]); rintro e w' ⟨rfl, rfl⟩)
        go_ret
        exact ⟨rfl, (by repeat (first | (with_reducible exact Gx.refl _) | (with_reducible assumption) | (with_reducible refine Gx.gx ?_) | (with_reducible refine Gx.alloc ?_) | (with_reducible refine Gx.drew ?_) | (with_reducible refine Gx.drewN ?_) | (with_reducible refine Gx.setRow ?_ (by simp)) | (with_reducible refine Gx.setCell ?_ (by simp))))⟩
      · have n1 := ne0 h3
        have n2 := ne0' h3
        have d5 : decide (2 ≤ x.m) = true := decide_eq_true (by omega)
        clear hok h2 h3
        go_enter Tryz.func127, Tryz.ntmps127
        go_wp2_with first
          | (go_at_call 106; refine (outside_any _ _ _ _).mono ?_; (first | rw [b1] | rw [b2] | rw [b3]); rintro e w' ⟨rfl, rfl⟩)
          | (go_at_call 136; refine (numbered_any _ _).mono ?_; rw [d5]; rintro e w' ⟨rfl, rfl⟩)
        go_ret
        exact ⟨rfl, (by repeat (first | (with_reducible exact Gx.refl _) | (with_reducible assumption) | (with_reducible refine Gx.gx ?_) | (with_reducible refine Gx.alloc ?_) | (with_reducible refine Gx.drew ?_) | (with_reducible refine Gx.drewN ?_) | (with_reducible refine Gx.setRow ?_ (by simp)) | (with_reducible refine Gx.setCell ?_ (by simp))))⟩
  · rw [smE_9 hok]
    have HN := Lib.hid (fun h => hok (smOk_inR.2 h))
    clear hok
    go_enter Tryz.func127, Tryz.ntmps127
    go_wp2_with (go_at_call 106; refine (outside_any _ _ _ _).mono ?_; rintro e w' ⟨rfl, rfl⟩)
    all_goals first
      | (go_ret; exact ⟨rfl, (by repeat (first | (with_reducible exact Gx.refl _) | (with_reducible assumption) | (with_reducible refine Gx.gx ?_) | (with_reducible refine Gx.alloc ?_) | (with_reducible refine Gx.drew ?_) | (with_reducible refine Gx.drewN ?_) | (with_reducible refine Gx.setRow ?_ (by simp)) | (with_reducible refine Gx.setCell ?_ (by simp))))⟩)
      | (exfalso; have := HN.out; first | (simp_all; done) | (simp_all; omega))
set_option maxHeartbeats 8000000 in
set_option maxRecDepth 100000 in
theorem fault_any (den : Int) (g : Nat → Sm) (n c : Nat) (A : Option Addr) (w : World) (hL : SmAt w g n A) :
    Calls Tryz.prog 105 #[serV den A n c] w fun e w' => e = .returned (.tuple #[.int .i64 (serI den g n), .int .i64 (serE den g n)]) ∧ ∃ x, w' = gx w x := by
  cases hd : inB 1 1000000 den with
  | false =>
    obtain ⟨E1, E2⟩ := serE_den (g := g) (n := n) hd
    rw [E1, E2]
    clear E1 E2
    go_enter Tryz.func105, Tryz.ntmps105
    go_wp2_with (go_at_call 106; refine (outside_any _ _ _ _).mono ?_; rw [hd]; rintro e w' ⟨rfl, rfl⟩)
    go_ret2
    exact ⟨rfl, (by repeat (first | (with_reducible exact Gx.refl _) | (with_reducible assumption) | (with_reducible refine Gx.gx ?_) | (with_reducible refine Gx.alloc ?_) | (with_reducible refine Gx.drew ?_) | (with_reducible refine Gx.drewN ?_) | (with_reducible refine Gx.setRow ?_ (by simp)) | (with_reducible refine Gx.setCell ?_ (by simp))))⟩
  | true =>
    by_cases h1 : 20000 < n
    · obtain ⟨E1, E2⟩ := serE_big (g := g) (n := n) hd h1
      rw [E1, E2]
      clear E1 E2
      go_enter Tryz.func105, Tryz.ntmps105
      go_wp2_with (go_at_call 106; refine (outside_any _ _ _ _).mono ?_; rw [hd]; rintro e w' ⟨rfl, rfl⟩)
      go_ret2
      exact ⟨rfl, (by repeat (first | (with_reducible exact Gx.refl _) | (with_reducible assumption) | (with_reducible refine Gx.gx ?_) | (with_reducible refine Gx.alloc ?_) | (with_reducible refine Gx.drew ?_) | (with_reducible refine Gx.drewN ?_) | (with_reducible refine Gx.setRow ?_ (by simp)) | (with_reducible refine Gx.setCell ?_ (by simp))))⟩
    · have h1' : n ≤ 20000 := by omega
      go_enter Tryz.func105, Tryz.ntmps105
      go_wp2_with (go_at_call 106; refine (outside_any _ _ _ _).mono ?_; rw [hd]; rintro e w' ⟨rfl, rfl⟩)
      go_loopw [4] (fun i wr => ∃ k : Nat, k ≤ n ∧ i = .int .i64 k ∧ firstOf (badS g) k = 0 ∧ ∃ x, wr = gx (w.alloc (.cells #[.int .i64 den, .slice A n c] 41)) x) (fun i _ => n - (intOf i).toNat)
      case atStart => exact ⟨0, Nat.zero_le _, rfl, firstOf_0 _, Gx.refl _⟩
      case round =>
        obtain ⟨k, hk, rfl, hck, y, rfl⟩ := hrel
        have HCK := Lib.hid hck
        clear hck
        by_cases hlt : k < n
        · obtain ⟨b, o, rfl, hbw, HC⟩ := hL.get (by omega)
          obtain ⟨c1, c2, c3⟩ := HC.out k hlt
          by_cases hz : smE (g k) = 0
          · have hok := smE_ok hz
            rcases Nat.eq_zero_or_pos k with h00 | h00
            · have HE := Lib.hid ((firstOf_succ HCK.out).trans (badS_0 hok.1 hok.2 (fun h => by omega)))
              have dk : decide (0 < k) = false := decide_eq_false (by omega)
              clear hok h00
              go_wp2_with (go_at_call 127; refine (sampleFault_any (g k) _).mono ?_; rw [hz]; rintro e w' ⟨rfl, z, rfl⟩)
              go_quiet (fail)
              go_wp2
              go_roundw
              case rel => exact ⟨k + 1, by omega, by go_num, HE.out, (by repeat (first | (with_reducible exact Gx.refl _) | (with_reducible assumption) | (with_reducible refine Gx.gx ?_) | (with_reducible refine Gx.alloc ?_) | (with_reducible refine Gx.drew ?_) | (with_reducible refine Gx.drewN ?_) | (with_reducible refine Gx.setRow ?_ (by simp)) | (with_reducible refine Gx.setCell ?_ (by simp))))⟩
              case measure => simp [intOf]; omega
            · obtain ⟨j, hj⟩ : ∃ j, k = j + 1 := ⟨k - 1, by omega⟩
              obtain ⟨a1, a2, a3⟩ := HC.out j (by omega)
              have hjn : j < n := by omega
              have ej : k - 1 = j := by omega
              by_cases hr : (g k).t ≤ (g j).t
              · have dk : decide (0 < k) = true := decide_eq_true (by omega)
                have HE := Lib.hid (serE_bad hd h1' HCK.out hlt (badS_10 hok.1 hok.2 ⟨h00, by rw [ej]; exact hr⟩) (by decide))
                have dr : decide ((g k).t ≤ (g j).t) = true := decide_eq_true hr
                have e1 : IntKind.i64.wrap ((k : Int) - 1) = (j : Int) := by rw [IntWalk.i64_in _ (by omega)]; omega
                clear hok hr ej hj h00
                go_wp2_with (go_at_call 127; refine (sampleFault_any (g k) _).mono ?_; rw [hz]; rintro e w' ⟨rfl, z, rfl⟩)
                go_quiet (fail)
                go_wp2
                go_ret2
                exact ⟨by rw [HE.out.1, HE.out.2]; first | done | rfl, (by repeat (first | (with_reducible exact Gx.refl _) | (with_reducible assumption) | (with_reducible refine Gx.gx ?_) | (with_reducible refine Gx.alloc ?_) | (with_reducible refine Gx.drew ?_) | (with_reducible refine Gx.drewN ?_) | (with_reducible refine Gx.setRow ?_ (by simp)) | (with_reducible refine Gx.setCell ?_ (by simp))))⟩
              · have dk : decide (0 < k) = true := decide_eq_true (by omega)
                have HE := Lib.hid ((firstOf_succ HCK.out).trans (badS_0 hok.1 hok.2 (fun h => hr (by rw [← ej]; exact h.2))))
                have dr : decide ((g k).t ≤ (g j).t) = false := decide_eq_false hr
                have e1 : IntKind.i64.wrap ((k : Int) - 1) = (j : Int) := by rw [IntWalk.i64_in _ (by omega)]; omega
                clear hok hr ej hj h00
                go_wp2_with (go_at_call 127; refine (sampleFault_any (g k) _).mono ?_; rw [hz]; rintro e w' ⟨rfl, z, rfl⟩)
                go_quiet (fail)
                go_wp2
                go_roundw
                case rel => exact ⟨k + 1, by omega, by go_num, HE.out, (by repeat (first | (with_reducible exact Gx.refl _) | (with_reducible assumption) | (with_reducible refine Gx.gx ?_) | (with_reducible refine Gx.alloc ?_) | (with_reducible refine Gx.drew ?_) | (with_reducible refine Gx.drewN ?_) | (with_reducible refine Gx.setRow ?_ (by simp)) | (with_reducible refine Gx.setCell ?_ (by simp))))⟩
                case measure => simp [intOf]; omega
          · have HE := Lib.hid (serE_bad hd h1' HCK.out hlt (badS_smE hz) hz)
            have n1 := ne0 hz
            have n2 := ne0' hz
            have HF := Lib.hid (sampleFault_any (g k))
            clear hz
            generalize smE (g k) = q at *
            go_wp2_with (go_at_call 127; refine (HF.out _).mono ?_; rintro e w' ⟨rfl, z, rfl⟩)
            go_ret2
            exact ⟨by rw [HE.out.1, HE.out.2]; first | done | rfl, (by repeat (first | (with_reducible exact Gx.refl _) | (with_reducible assumption) | (with_reducible refine Gx.gx ?_) | (with_reducible refine Gx.alloc ?_) | (with_reducible refine Gx.drew ?_) | (with_reducible refine Gx.drewN ?_) | (with_reducible refine Gx.setRow ?_ (by simp)) | (with_reducible refine Gx.setCell ?_ (by simp))))⟩
        · obtain rfl : k = n := by omega
          have HE := Lib.hid (serE_ok hd h1' HCK.out)
          go_wp2
          go_ret2
          exact ⟨by rw [HE.out.1, HE.out.2]; first | done | rfl, (by repeat (first | (with_reducible exact Gx.refl _) | (with_reducible assumption) | (with_reducible refine Gx.gx ?_) | (with_reducible refine Gx.alloc ?_) | (with_reducible refine Gx.drew ?_) | (with_reducible refine Gx.drewN ?_) | (with_reducible refine Gx.setRow ?_ (by simp)) | (with_reducible refine Gx.setCell ?_ (by simp))))⟩
theorem RCheck_any (den : Int) (g : Nat → Sm) (n c : Nat) (A : Option Addr) (w : World) (hL : SmAt w g n A) :
    Calls Tryz.prog 74 #[serV den A n c] w fun e w' => e = .returned (.int .i64 (serE den g n)) ∧ ∃ x, w' = gx w x := by
  have hlw : SmAt (w.alloc (.cells #[.int .i64 den, .slice A n c] 41)) g n A := hL.alloc
  have HC := fun W h => fault_any den g n c A W h
  go_enter Tryz.func74, Tryz.ntmps74
  go_wp2_with (go_at_call 105; refine (HC _ hlw).mono ?_; rintro e w' ⟨rfl, x, rfl⟩)
  go_ret
  exact ⟨rfl, (by repeat (first | (with_reducible exact Gx.refl _) | (with_reducible assumption) | (with_reducible refine Gx.gx ?_) | (with_reducible refine Gx.alloc ?_) | (with_reducible refine Gx.drew ?_) | (with_reducible refine Gx.drewN ?_) | (with_reducible refine Gx.setRow ?_ (by simp)) | (with_reducible refine Gx.setCell ?_ (by simp))))⟩
end Go.Proofs.YtocaphcnnmcnjaaGreatDoor

/-
  What is held at a time, the reference's: contracts.
-/
namespace Go.Proofs.YtocaphcnnmcnjaaGreatDoor
open Go.RowKit
-- AT2

theorem Rsolid_any (m : Int) (w : World) : Calls Tryz.prog 128 #[.int .i64 m] w fun e w' => e = .returned (.bool (decide (3 ≤ m))) ∧ w = w' := by
  go_enter Tryz.func128, Tryz.ntmps128
  go_wp2
  go_ret
  exact ⟨rfl, rfl⟩
set_option maxHeartbeats 4000000 in
set_option maxRecDepth 100000 in
theorem Held_any (den : Int) (g : Nat → Sm) (n c : Nat) (A : Option Addr) (a l : Int) (w : World) (hL : SmAt w g n A) (hn : n ≤ 20000) (hG : GoodS g n) (ha1 : 0 ≤ a) (ha2 : a ≤ 1099511627776) :
    Calls Tryz.prog 107 #[serV den A n c, .int .i64 a, .int .i64 l] w fun e w' => e = .returned (.tuple #[smV (heldV g (aheadN g (a + 1) n) a l).t (heldV g (aheadN g (a + 1) n) a l).n (heldV g (aheadN g (a + 1) n) a l).m, .bool (heldB g (aheadN g (a + 1) n) a l)]) ∧ ∃ x, w' = gx w x := by
  go_enter Tryz.func107, Tryz.ntmps107
  go_wp2
  go_quiet (fail)
  go_wp2
  go_loopw [8, 9] (fun i j wr => ∃ lo hi : Nat, lo ≤ hi ∧ hi ≤ n ∧ i = .int .i64 lo ∧ j = .int .i64 hi ∧ Hid (∀ k, k < lo → (g k).t < a + 1) ∧ Hid (∀ k, hi ≤ k → k < n → a + 1 ≤ (g k).t) ∧ ∃ x, wr = gx ((w.alloc (.cells #[.int .i64 den, .slice A n c] 41)).alloc (.cells #[.int .i64 0, .int .i64 0, .int .i64 0] 45)) x) (fun i j _ => (intOf j - intOf i).toNat)
  case atStart => exact ⟨0, n, Nat.zero_le _, Nat.le_refl _, rfl, rfl, fun k hk => by omega, fun k h1 h2 => by omega, (by repeat (first | (with_reducible exact Gx.refl _) | (with_reducible assumption) | (with_reducible refine Gx.gx ?_) | (with_reducible refine Gx.alloc ?_) | (with_reducible refine Gx.drew ?_) | (with_reducible refine Gx.drewN ?_) | (with_reducible refine Gx.setRow ?_ (by simp)) | (with_reducible refine Gx.setCell ?_ (by simp))))⟩
  case round =>
    obtain ⟨lo, hi, h1, h2, rfl, rfl, H1, H2, y, rfl⟩ := hrel
    by_cases hlt : lo < hi
    · have hz : (lo : Int) < (hi : Int) := by omega
      obtain ⟨m, em⟩ : ∃ m : Nat, ((lo : Int) + (hi : Int)) / 2 = (m : Int) := ⟨(lo + hi) / 2, by omega⟩
      have m1 : lo ≤ m := by omega
      have m2 : m < hi := by omega
      have hmn : m < n := by omega
      obtain ⟨b, o, rfl, hbw, HC⟩ := hL.get (by omega)
      obtain ⟨c1, c2, c3⟩ := HC.out m hmn
      by_cases hr : (g m).t ≤ a
      · have dr : decide ((g m).t ≤ a) = true := decide_eq_true hr
        have N1 : Hid (∀ k, k < m + 1 → (g k).t < a + 1) := fun k hk => by have := hG.le (show k ≤ m by omega) hmn; omega
        clear hr
        go_wp2
        go_roundw
        case rel => exact ⟨m + 1, hi, by omega, by omega, by go_num, rfl, N1, H2, (by repeat (first | (with_reducible exact Gx.refl _) | (with_reducible assumption) | (with_reducible refine Gx.gx ?_) | (with_reducible refine Gx.alloc ?_) | (with_reducible refine Gx.drew ?_) | (with_reducible refine Gx.drewN ?_) | (with_reducible refine Gx.setRow ?_ (by simp)) | (with_reducible refine Gx.setCell ?_ (by simp))))⟩
        case measure => simp [intOf]; omega
      · have dr : decide ((g m).t ≤ a) = false := decide_eq_false hr
        have N2 : Hid (∀ k, m ≤ k → k < n → a + 1 ≤ (g k).t) := fun k h3 h4 => by have := hG.le h3 h4; omega
        clear hr
        go_wp2
        go_roundw
        case rel => exact ⟨lo, m, by omega, by omega, rfl, by go_num, H1, N2, (by repeat (first | (with_reducible exact Gx.refl _) | (with_reducible assumption) | (with_reducible refine Gx.gx ?_) | (with_reducible refine Gx.alloc ?_) | (with_reducible refine Gx.drew ?_) | (with_reducible refine Gx.drewN ?_) | (with_reducible refine Gx.setRow ?_ (by simp)) | (with_reducible refine Gx.setCell ?_ (by simp))))⟩
        case measure => simp [intOf]; omega
    · obtain rfl : lo = hi := by omega
      have hc := aheadN_uniq hG h2 H1.out H2.out
      have Hc := Lib.hid hc
      clear H1 H2 hlt hc h1
      rcases Nat.eq_zero_or_pos lo with h0 | h0
      · have hb : heldB g lo a l = false := heldB_no.2 (fun h => by omega)
        have Hb := Lib.hid hb
        subst h0
        clear hb
        go_wp2
        exact bodyPost_ret (v := .tuple #[smV 0 0 0, .bool false]) (by simp [results, Tryz.results107, go_sem]) rfl ⟨by rw [Hc.out, heldV_no Hb.out, Hb.out], (by repeat (first | (with_reducible exact Gx.refl _) | (with_reducible assumption) | (with_reducible refine Gx.gx ?_) | (with_reducible refine Gx.alloc ?_) | (with_reducible refine Gx.drew ?_) | (with_reducible refine Gx.drewN ?_) | (with_reducible refine Gx.setRow ?_ (by simp)) | (with_reducible refine Gx.setCell ?_ (by simp))))⟩
      · obtain ⟨j, rfl⟩ : ∃ j, lo = j + 1 := ⟨lo - 1, by omega⟩
        obtain ⟨b, o, rfl, hbw, HC⟩ := hL.get (by omega)
        obtain ⟨c1, c2, c3⟩ := HC.out j (by omega)
        have hok := hG.ok j (by omega)
        unfold smOk at hok
        obtain ⟨o1, o2, o3, o4, o5, o6⟩ := hok
        have hjn : j < n := by omega
        have ej : j + 1 - 1 = j := by omega
        by_cases h3 : 3 ≤ (g j).m
        · have d3 : decide (3 ≤ (g j).m) = true := decide_eq_true h3
          by_cases h4 : a - (g j).t ≤ l
          · have hb : heldB g (j + 1) a l = true := heldB_iff.2 ⟨h0, by rw [ej]; exact h3, by rw [ej]; exact h4⟩
            have Hb := Lib.hid hb
            have Ej := Lib.hid ej
            have d4 : decide (l < a - (g j).t) = false := decide_eq_false (by omega)
            clear hb h3 h4 ej hL
            go_wp2_with (go_at_call 128; refine (Rsolid_any _ _).mono ?_; rw [d3]; rintro e w' ⟨rfl, rfl⟩)
            exact bodyPost_ret (v := .tuple #[smV (g j).t (g j).n (g j).m, .bool true]) (by simp [results, Tryz.results107, go_sem]) rfl ⟨by rw [Hc.out, heldV_yes Hb.out, Hb.out, Ej.out], (by repeat (first | (with_reducible exact Gx.refl _) | (with_reducible assumption) | (with_reducible refine Gx.gx ?_) | (with_reducible refine Gx.alloc ?_) | (with_reducible refine Gx.drew ?_) | (with_reducible refine Gx.drewN ?_) | (with_reducible refine Gx.setRow ?_ (by simp)) | (with_reducible refine Gx.setCell ?_ (by simp))))⟩
          · have hb : heldB g (j + 1) a l = false := heldB_no.2 (fun h => h4 (by have := h.2.2; rw [ej] at this; exact this))
            have Hb := Lib.hid hb
            have d4 : decide (l < a - (g j).t) = true := decide_eq_true (by omega)
            clear hb h3 h4 ej hL
            go_wp2_with (go_at_call 128; refine (Rsolid_any _ _).mono ?_; rw [d3]; rintro e w' ⟨rfl, rfl⟩)
            exact bodyPost_ret (v := .tuple #[smV 0 0 0, .bool false]) (by simp [results, Tryz.results107, go_sem]) rfl ⟨by rw [Hc.out, heldV_no Hb.out, Hb.out], (by repeat (first | (with_reducible exact Gx.refl _) | (with_reducible assumption) | (with_reducible refine Gx.gx ?_) | (with_reducible refine Gx.alloc ?_) | (with_reducible refine Gx.drew ?_) | (with_reducible refine Gx.drewN ?_) | (with_reducible refine Gx.setRow ?_ (by simp)) | (with_reducible refine Gx.setCell ?_ (by simp))))⟩
        · have d3 : decide (3 ≤ (g j).m) = false := decide_eq_false h3
          have hb : heldB g (j + 1) a l = false := heldB_no.2 (fun h => h3 (by have := h.2.1; rw [ej] at this; exact this))
          have Hb := Lib.hid hb
          clear hb h3 ej hL
          go_wp2_with (go_at_call 128; refine (Rsolid_any _ _).mono ?_; rw [d3]; rintro e w' ⟨rfl, rfl⟩)
          exact bodyPost_ret (v := .tuple #[smV 0 0 0, .bool false]) (by simp [results, Tryz.results107, go_sem]) rfl ⟨by rw [Hc.out, heldV_no Hb.out, Hb.out], (by repeat (first | (with_reducible exact Gx.refl _) | (with_reducible assumption) | (with_reducible refine Gx.gx ?_) | (with_reducible refine Gx.alloc ?_) | (with_reducible refine Gx.drew ?_) | (with_reducible refine Gx.drewN ?_) | (with_reducible refine Gx.setRow ?_ (by simp)) | (with_reducible refine Gx.setCell ?_ (by simp))))⟩
end Go.Proofs.YtocaphcnnmcnjaaGreatDoor

/-
  The guard of stage 8: one track: its number by name.
-/
namespace Go.Proofs.YtocaphcnnmcnjaaGreatDoor
open Go.RowKit
-- AT2
-- AT3

/-- A track as a value. -/
abbrev trV (s : ByteArray) (den : Int) (A : Option Addr) (n c : Nat) (lg : Int) : Value := .agg #[.string s, .int .i64 den, .slice A n c, .int .i64 lg]
theorem isTrack_any (s : ByteArray) (den : Int) (A : Option Addr) (n c : Nat) (lg : Int) (gp : Nat) (w : World) (hb : w.cell? ⟨gp, 0, none⟩ = some (.string ⟨#[116]⟩)) (hs : s = ⟨#[116]⟩) (hg : gp < w.heap.size) :
    Calls Tryz.prog 100 #[trV s den A n c lg, .pointer (some ⟨gp, 0, none⟩)] w fun e w' => e = .returned (.bool true) ∧ ∃ x, w' = gx w x := by
  subst hs
  go_enter Tryz.func100, Tryz.ntmps100
  go_wp2
  go_ret
  exact ⟨rfl, (by repeat (first | (with_reducible exact Gx.refl _) | (with_reducible assumption) | (with_reducible refine Gx.gx ?_) | (with_reducible refine Gx.alloc ?_) | (with_reducible refine Gx.drew ?_) | (with_reducible refine Gx.drewN ?_) | (with_reducible refine Gx.setRow ?_ (by first | omega | (simp; done) | (simp <;> omega))) | (with_reducible refine Gx.setCell ?_ (by first | omega | (simp; done) | (simp <;> omega)))))⟩
/-- One track lies at a place. -/
structure TrAt (w : World) (b o : Nat) (den : Int) (A : Option Addr) (n c : Nat) (lg : Int) : Prop where
  c0 : w.cell? ⟨b, o, none⟩ = some (.string ⟨#[116]⟩)
  c1 : w.cell? ⟨b, o + 1, none⟩ = some (.int .i64 den)
  c2 : w.cell? ⟨b, o + 2, none⟩ = some (.slice A n c)
  c3 : w.cell? ⟨b, o + 3, none⟩ = some (.int .i64 lg)
theorem TrAt.gx {w : World} {b o : Nat} {den : Int} {A : Option Addr} {n c : Nat} {lg : Int} {x : Ext} (h : TrAt w b o den A n c lg) : TrAt (Go.Proofs.YtocaphcnnmcnjaaGreatDoor.gx w x) b o den A n c lg :=
  ⟨cell_keep_gx h.c0, cell_keep_gx h.c1, cell_keep_gx h.c2, cell_keep_gx h.c3⟩
theorem TrAt.on {w W : World} {b o : Nat} {den : Int} {A : Option Addr} {n c : Nat} {lg : Int} (h : TrAt w b o den A n c lg) (hW : ∃ x, W = Go.Proofs.YtocaphcnnmcnjaaGreatDoor.gx w x) : TrAt W b o den A n c lg := by obtain ⟨x, rfl⟩ := hW; exact h.gx
theorem IndexTr_none (A : Option Addr) (c : Nat) (f : Value) (w : World) : Calls Tryz.prog 99 #[.slice A 0 c, f] w fun e w' => e = .returned (.int .i64 (-1)) ∧ ∃ x, w' = gx w x := by
  go_enter Tryz.func99, Tryz.ntmps99
  go_wp2
  refine wp_loop_rounds 1 ?_
  rw [rounds_succ]
  go_wp2
  go_ret
  exact ⟨rfl, (by repeat (first | (with_reducible exact Gx.refl _) | (with_reducible assumption) | (with_reducible refine Gx.gx ?_) | (with_reducible refine Gx.alloc ?_) | (with_reducible refine Gx.drew ?_) | (with_reducible refine Gx.drewN ?_) | (with_reducible refine Gx.setRow ?_ (by first | omega | (simp; done) | (simp <;> omega))) | (with_reducible refine Gx.setCell ?_ (by first | omega | (simp; done) | (simp <;> omega)))))⟩
theorem IndexTr_one (b cc : Nat) (den : Int) (A : Option Addr) (n c : Nat) (lg : Int) (gp : Nat) (w : World) (h : TrAt w b 0 den A n c lg) (hp : w.cell? ⟨gp, 0, none⟩ = some (.string ⟨#[116]⟩)) (hg : gp < w.heap.size) :
    Calls Tryz.prog 99 #[.slice (some ⟨b, 0, none⟩) 1 cc, .func (.func 100) #[] #[.pointer (some ⟨gp, 0, none⟩)]] w fun e w' => e = .returned (.int .i64 0) ∧ ∃ x, w' = gx w x := by
  obtain ⟨h0, h1, h2, h3⟩ := h
  go_enter Tryz.func99, Tryz.ntmps99
  go_wp2
  refine wp_loop_rounds 1 ?_
  rw [rounds_succ]
  go_wp2_with (first | (go_at_call 100; refine (isTrack_any _ _ _ _ _ _ _ _ hp rfl hg).mono ?_; rintro e w' ⟨rfl, x, rfl⟩))
  go_ret
  exact ⟨rfl, (by repeat (first | (with_reducible exact Gx.refl _) | (with_reducible assumption) | (with_reducible refine Gx.gx ?_) | (with_reducible refine Gx.alloc ?_) | (with_reducible refine Gx.drew ?_) | (with_reducible refine Gx.drewN ?_) | (with_reducible refine Gx.setRow ?_ (by first | omega | (simp; done) | (simp <;> omega))) | (with_reducible refine Gx.setCell ?_ (by first | omega | (simp; done) | (simp <;> omega)))))⟩
theorem TrackNumber_none (A : Option Addr) (c : Nat) (s : ByteArray) (w : World) : Calls Tryz.prog 70 #[.slice A 0 c, .string s] w fun e w' => e = .returned (.int .i64 (-1)) ∧ ∃ x, w' = gx w x := by
  go_enter Tryz.func70, Tryz.ntmps70
  go_wp2_with (first | (go_at_call 99; refine (IndexTr_none _ _ _ _).mono ?_; rintro e w' ⟨rfl, x, rfl⟩))
  go_ret
  exact ⟨rfl, (by repeat (first | (with_reducible exact Gx.refl _) | (with_reducible assumption) | (with_reducible refine Gx.gx ?_) | (with_reducible refine Gx.alloc ?_) | (with_reducible refine Gx.drew ?_) | (with_reducible refine Gx.drewN ?_) | (with_reducible refine Gx.setRow ?_ (by first | omega | (simp; done) | (simp <;> omega))) | (with_reducible refine Gx.setCell ?_ (by first | omega | (simp; done) | (simp <;> omega)))))⟩
theorem TrackNumber_one (b cc : Nat) (den : Int) (A : Option Addr) (n c : Nat) (lg : Int) (w : World) (h : TrAt w b 0 den A n c lg) :
    Calls Tryz.prog 70 #[.slice (some ⟨b, 0, none⟩) 1 cc, .string ⟨#[116]⟩] w fun e w' => e = .returned (.int .i64 0) ∧ ∃ x, w' = gx w x := by
  go_enter Tryz.func70, Tryz.ntmps70
  go_wp2_with (first | (go_at_call 99; refine (IndexTr_one b cc den A n c lg _ _ (h.on (by repeat (first | (with_reducible exact Gx.refl _) | (with_reducible assumption) | (with_reducible refine Gx.gx ?_) | (with_reducible refine Gx.alloc ?_) | (with_reducible refine Gx.drew ?_) | (with_reducible refine Gx.drewN ?_) | (with_reducible refine Gx.setRow ?_ (by first | omega | (simp; done) | (simp <;> omega))) | (with_reducible refine Gx.setCell ?_ (by first | omega | (simp; done) | (simp <;> omega)))))) (by simp [go_sem]) (by simp)).mono ?_; rintro e w' ⟨rfl, x, rfl⟩))
  go_ret
  exact ⟨rfl, (by repeat (first | (with_reducible exact Gx.refl _) | (with_reducible assumption) | (with_reducible refine Gx.gx ?_) | (with_reducible refine Gx.alloc ?_) | (with_reducible refine Gx.drew ?_) | (with_reducible refine Gx.drewN ?_) | (with_reducible refine Gx.setRow ?_ (by first | omega | (simp; done) | (simp <;> omega))) | (with_reducible refine Gx.setCell ?_ (by first | omega | (simp; done) | (simp <;> omega)))))⟩
end Go.Proofs.YtocaphcnnmcnjaaGreatDoor

/-
  The guard of stage 8: one track is good.
-/
namespace Go.Proofs.YtocaphcnnmcnjaaGreatDoor
open Go.RowKit
-- AT2
-- AT3

set_option maxHeartbeats 1000000 in
theorem CheckTracks_one (b cc : Nat) (den : Int) (A : Option Addr) (n c : Nat) (lg : Int) (f : Nat → Sm) (w : World) (h : TrAt w b 0 den A n c lg) (hL : SmAt w f n A) (h0 : serE den f n = 0) (hl : 0 ≤ lg ∧ lg ≤ 1099511627776) :
    Calls Tryz.prog 41 #[.slice (some ⟨b, 0, none⟩) 1 cc] w fun e w' => e = .returned (.int .i64 0) ∧ ∃ x, w' = gx w x := by
  have HC := Lib.hid (fun W (hW : ∃ x, W = gx w x) => (Check_any den f n c A W (by obtain ⟨x, rfl⟩ := hW; exact hL.gx)))
  rw [h0] at HC
  have k1 : decide (lg < 0) = false := decide_eq_false (by omega)
  have k2 : decide (1099511627776 < lg) = false := decide_eq_false (by omega)
  have hb : b < w.heap.size := World.block_lt_of_cell? w _ h.c0
  obtain ⟨h0', h1, h2, h3⟩ := h
  go_enter Tryz.func41, Tryz.ntmps41
  go_wp2
  refine wp_loop_rounds 2 ?_
  rw [rounds_succ]
  go_wp2_with (first
    | (go_at_call 69; refine (IsName_t _).mono ?_; rintro e w' ⟨rfl, rfl⟩))
  go_region_held3 (fun W => (∃ x, W = gx w x) ∧ W.cell? ⟨w.heap.size, 0, none⟩ = some (.string ⟨#[116]⟩) ∧ W.cell? ⟨w.heap.size, 1, none⟩ = some (.int .i64 den) ∧ W.cell? ⟨w.heap.size, 2, none⟩ = some (.slice A n c) ∧ W.cell? ⟨w.heap.size, 3, none⟩ = some (.int .i64 lg))
    (refine ⟨(by repeat (first | (with_reducible exact Gx.refl _) | (with_reducible assumption) | (with_reducible refine Gx.gx ?_) | (with_reducible refine Gx.alloc ?_) | (with_reducible refine Gx.drew ?_) | (with_reducible refine Gx.drewN ?_) | (with_reducible refine Gx.setRow ?_ (by first | omega | (simp; done) | (simp <;> omega))) | (with_reducible refine Gx.setCell ?_ (by first | omega | (simp; done) | (simp <;> omega))))), ?_, ?_, ?_, ?_⟩ <;> first | assumption | exact cell_keep_gx ‹_› | go_keep | (simp [go_sem]; done))
    (first | (go_at_call 70; refine (TrackNumber_none _ _ _ _).mono ?_; rintro e w' ⟨rfl, x2, rfl⟩))
  all_goals go_wp2_with (first | (go_at_call 71; refine (HC.out _ (by repeat (first | (with_reducible exact Gx.refl _) | (with_reducible assumption) | (with_reducible refine Gx.gx ?_) | (with_reducible refine Gx.alloc ?_) | (with_reducible refine Gx.drew ?_) | (with_reducible refine Gx.drewN ?_) | (with_reducible refine Gx.setRow ?_ (by first | omega | (simp; done) | (simp <;> omega))) | (with_reducible refine Gx.setCell ?_ (by first | omega | (simp; done) | (simp <;> omega)))))).mono ?_; rintro e w' ⟨rfl, x3, rfl⟩))
  all_goals rw [rounds_succ]
  all_goals go_wp2
  all_goals go_ret
  all_goals exact ⟨rfl, (by repeat (first | (with_reducible exact Gx.refl _) | (with_reducible assumption) | (with_reducible refine Gx.gx ?_) | (with_reducible refine Gx.alloc ?_) | (with_reducible refine Gx.drew ?_) | (with_reducible refine Gx.drewN ?_) | (with_reducible refine Gx.setRow ?_ (by first | omega | (simp; done) | (simp <;> omega))) | (with_reducible refine Gx.setCell ?_ (by first | omega | (simp; done) | (simp <;> omega)))))⟩
end Go.Proofs.YtocaphcnnmcnjaaGreatDoor

/-
  Fields of instruments: whether one is set that a kind does not use.
-/
namespace Go.Proofs.YtocaphcnnmcnjaaGreatDoor
open Go.RowKit
-- AT2
-- AT3

/-- Numbers lie at the beginning of a block. -/
@[irreducible] def NsAt (w : World) (gk : Nat) (ks : List Int) : Prop := gk < w.heap.size ∧ ∀ j, j < ks.length → w.cell? ⟨gk, j, none⟩ = some (.int .i64 (ks.getD j 0))
theorem NsAt.out {w : World} {gk : Nat} {ks : List Int} (h : NsAt w gk ks) : gk < w.heap.size ∧ ∀ j, j < ks.length → w.cell? ⟨gk, j, none⟩ = some (.int .i64 (ks.getD j 0)) := by unfold NsAt at h; exact h
theorem NsAt.on {w W : World} {gk : Nat} {ks : List Int} (h : NsAt w gk ks) (hW : ∃ x, W = Go.Proofs.YtocaphcnnmcnjaaGreatDoor.gx w x) : NsAt W gk ks := by
  obtain ⟨x, rfl⟩ := hW
  unfold NsAt at h ⊢
  exact ⟨by rw [size_gx]; omega, fun j hj => cell_keep_gx (h.2 j hj)⟩
/-- Is a number among some? -/
@[irreducible] def inI (ks : List Int) (v : Int) : Bool := ks.contains v
theorem notIn_step {ks : List Int} {k : Nat} {v : Int} (h : ∀ j, j < k → ks.getD j 0 ≠ v) (h2 : ks.getD k 0 ≠ v) : ∀ j, j < k + 1 → ks.getD j 0 ≠ v := fun j hj => by
  by_cases e : j = k
  · subst e; exact h2
  · exact h j (by omega)
theorem notIn_all {ks : List Int} {v : Int} (h : ∀ j, j < ks.length → ks.getD j 0 ≠ v) : inI ks v = false := by
  unfold inI
  rw [Bool.eq_false_iff]
  intro hc
  rw [List.contains_iff_mem] at hc
  obtain ⟨j, hj, e⟩ := List.getElem_of_mem hc
  exact h j hj (by simp [List.getD, hj, e])
theorem in_at {ks : List Int} {v : Int} {k : Nat} (hk : k < ks.length) (h : ks.getD k 0 = v) : inI ks v = true := by
  unfold inI
  rw [List.contains_iff_mem, ← h]
  simp [List.getD, hk]
set_option maxHeartbeats 1000000 in
theorem IndexI_any (ks : List Int) (gk c : Nat) (v : Int) (w : World) (h : NsAt w gk ks) (hl : ks.length ≤ 100) :
    Calls Tryz.prog 88 #[.slice (some ⟨gk, 0, none⟩) ks.length c, .int .i64 v] w fun e w' => ∃ r : Int, e = .returned (.int .i64 r) ∧ Hid (decide (0 ≤ r) = inI ks v) ∧ w = w' := by
  obtain ⟨hg, hc⟩ := h.out
  have HC := Lib.hid hc
  clear h hc
  go_enter Tryz.func88, Tryz.ntmps88
  go_wp2
  go_loop [8] (fun i => ∃ k : Nat, k ≤ ks.length ∧ i = .int .i64 k ∧ Hid (∀ j, j < k → ks.getD j 0 ≠ v)) (fun i => ks.length - (intOf i).toNat)
  case atStart => exact ⟨0, Nat.zero_le _, rfl, Lib.hid (fun j hj => by omega)⟩
  case round =>
    obtain ⟨k, hk, rfl, HN⟩ := hrel
    by_cases hlt : k < ks.length
    · have ck := HC.out k hlt
      have hlt' : (k : Int) < (ks.length : Int) := by omega
      by_cases hv : v = ks.getD k 0
      · have HI := Lib.hid (in_at hlt hv.symm)
        have hv2 : (v == ks.getD k 0) = true := by rw [beq_iff_eq]; exact hv
        clear hv
        generalize ks.getD k 0 = u at *
        go_wp2
        go_ret
        exact ⟨_, rfl, Lib.hid (by rw [HI.out]; exact decide_eq_true (by omega)), rfl⟩
      · have HM := Lib.hid (notIn_step HN.out (fun e => hv e.symm))
        have hv2 : (v == ks.getD k 0) = false := by rw [beq_eq_false_iff_ne]; exact hv
        clear hv
        generalize ks.getD k 0 = u at *
        go_wp2
        go_round
        case rel => exact ⟨k + 1, by omega, by go_num, HM⟩
        case measure => simp [intOf]; omega
    · obtain rfl : k = ks.length := by omega
      have HI := Lib.hid (notIn_all HN.out)
      go_wp2
      go_ret
      exact ⟨_, rfl, Lib.hid (by rw [HI.out]; rfl), rfl⟩
theorem ContainsI_any (ks : List Int) (gk c : Nat) (v : Int) (w : World) (h : NsAt w gk ks) (hl : ks.length ≤ 100) :
    Calls Tryz.prog 60 #[.slice (some ⟨gk, 0, none⟩) ks.length c, .int .i64 v] w fun e w' => e = .returned (.bool (inI ks v)) ∧ w = w' := by
  go_enter Tryz.func60, Tryz.ntmps60
  go_wp2_with (first | (go_at_call 88; refine (IndexI_any ks gk c v _ h hl).mono ?_; rintro e w' ⟨r, rfl, HR, rfl⟩))
  go_ret
  exact ⟨by rw [← HR.out]; rfl, rfl⟩
end Go.Proofs.YtocaphcnnmcnjaaGreatDoor

/-
  Fields of instruments: whether one is set that a kind does not use (the program's isMisused, for any list of fields).
-/
namespace Go.Proofs.YtocaphcnnmcnjaaGreatDoor
open Go.RowKit
-- AT2
-- AT3

/-- A field lies at a place. -/
@[irreducible] def FldAt (w : World) (g o : Nat) (f : Bool × List Int) : Prop := w.cell? ⟨g, o, none⟩ = some (.bool f.1) ∧ f.2.length ≤ 100 ∧ ∃ gk, w.cell? ⟨g, o + 1, none⟩ = some (.slice (some ⟨gk, 0, none⟩) f.2.length f.2.length) ∧ NsAt w gk f.2
theorem FldAt.out {w : World} {g o : Nat} {f : Bool × List Int} (h : FldAt w g o f) : w.cell? ⟨g, o, none⟩ = some (.bool f.1) ∧ f.2.length ≤ 100 ∧ ∃ gk, w.cell? ⟨g, o + 1, none⟩ = some (.slice (some ⟨gk, 0, none⟩) f.2.length f.2.length) ∧ NsAt w gk f.2 := by unfold FldAt at h; exact h
theorem FldAt.on {w W : World} {g o : Nat} {f : Bool × List Int} (h : FldAt w g o f) (hW : ∃ x, W = Go.Proofs.YtocaphcnnmcnjaaGreatDoor.gx w x) : FldAt W g o f := by
  unfold FldAt at h ⊢
  obtain ⟨h1, h2, gk, h3, h4⟩ := h
  refine ⟨?_, h2, gk, ?_, h4.on hW⟩
  · obtain ⟨x, rfl⟩ := hW; exact cell_keep_gx h1
  · obtain ⟨x, rfl⟩ := hW; exact cell_keep_gx h3
/-- Is a field set that a kind doesn't use? -/
@[irreducible] def misF (kd : Int) (f : Bool × List Int) : Bool := f.1 && !inI f.2 kd
@[irreducible] def misB (kd : Int) (F : List (Bool × List Int)) : Bool := F.any (misF kd)
theorem misF_no {kd : Int} {f : Bool × List Int} (h : f.1 = false) : misF kd f = false := by unfold misF; rw [h]; rfl
theorem misF_yes {kd : Int} {f : Bool × List Int} (h : f.1 = true) : misF kd f = !inI f.2 kd := by unfold misF; rw [h]; rfl
set_option maxHeartbeats 1000000 in
theorem isMis_any (f : Bool × List Int) (gk gv : Nat) (kd : Int) (w : World) (h : NsAt w gk f.2) (hl : f.2.length ≤ 100) (hv : w.cell? ⟨gv, 0, none⟩ = some (.int .i64 kd)) (hg : gv < w.heap.size) :
    Calls Tryz.prog 59 #[.agg #[.bool f.1, .slice (some ⟨gk, 0, none⟩) f.2.length f.2.length], .pointer (some ⟨gv, 0, none⟩)] w fun e w' => e = .returned (.bool (misF kd f)) ∧ ∃ x, w' = gx w x := by
  have HK := Lib.hid (fun W (hW : ∃ x, W = gx w x) => ContainsI_any f.2 gk f.2.length kd W (h.on hW) hl)
  obtain ⟨b, ks⟩ := f
  dsimp only at *
  cases b with
  | false =>
    have HM := Lib.hid (misF_no (kd := kd) (f := (false, ks)) rfl)
    generalize misF kd (false, ks) = R at *
    go_enter Tryz.func59, Tryz.ntmps59
    go_wp2_with (first | go_skip)
    go_ret
    exact ⟨by rw [HM.out]; rfl, (by repeat (first | (with_reducible exact Gx.refl _) | (with_reducible assumption) | (with_reducible refine Gx.gx ?_) | (with_reducible refine Gx.alloc ?_) | (with_reducible refine Gx.drew ?_) | (with_reducible refine Gx.drewN ?_) | (with_reducible refine Gx.setRow ?_ (by first | omega | (simp; done) | (simp <;> omega))) | (with_reducible refine Gx.setCell ?_ (by first | omega | (simp; done) | (simp <;> omega)))))⟩
  | true =>
    have HM := Lib.hid (misF_yes (kd := kd) (f := (true, ks)) rfl)
    generalize misF kd (true, ks) = R at *
    dsimp only at *
    generalize inI ks kd = I at *
    go_enter Tryz.func59, Tryz.ntmps59
    go_wp2_with (first | go_skip | (go_at_call 60; refine (HK.out _ (by repeat (first | (with_reducible exact Gx.refl _) | (with_reducible assumption) | (with_reducible refine Gx.gx ?_) | (with_reducible refine Gx.alloc ?_) | (with_reducible refine Gx.drew ?_) | (with_reducible refine Gx.drewN ?_) | (with_reducible refine Gx.setRow ?_ (by first | omega | (simp; done) | (simp <;> omega))) | (with_reducible refine Gx.setCell ?_ (by first | omega | (simp; done) | (simp <;> omega)))))).mono ?_; rintro e w' ⟨rfl, rfl⟩))
    go_ret
    exact ⟨by rw [HM.out]; rfl, (by repeat (first | (with_reducible exact Gx.refl _) | (with_reducible assumption) | (with_reducible refine Gx.gx ?_) | (with_reducible refine Gx.alloc ?_) | (with_reducible refine Gx.drew ?_) | (with_reducible refine Gx.drewN ?_) | (with_reducible refine Gx.setRow ?_ (by first | omega | (simp; done) | (simp <;> omega))) | (with_reducible refine Gx.setCell ?_ (by first | omega | (simp; done) | (simp <;> omega)))))⟩
theorem misB_none {kd : Int} {F : List (Bool × List Int)} (h : ∀ j, j < F.length → misF kd (F.getD j (false, [])) = false) : misB kd F = false := by
  unfold misB
  rw [List.any_eq_false]
  intro f hf
  obtain ⟨j, hj, e⟩ := List.getElem_of_mem hf
  have := h j hj
  rw [Bool.not_eq_true, ← this, ← e]
  simp [List.getD, hj]
theorem misB_at {kd : Int} {F : List (Bool × List Int)} {k : Nat} (hk : k < F.length) (h : misF kd (F.getD k (false, [])) = true) : misB kd F = true := by
  unfold misB
  rw [List.any_eq_true]
  exact ⟨_, List.getElem_mem hk, by rw [← h]; simp [List.getD, hk]⟩
set_option maxHeartbeats 2000000 in
theorem IndexF_any (F : List (Bool × List Int)) (g c gv : Nat) (kd : Int) (w : World) (hl : F.length ≤ 100) (h : ∀ k, k < F.length → FldAt w g (k * 2) (F.getD k (false, []))) (hv : w.cell? ⟨gv, 0, none⟩ = some (.int .i64 kd)) :
    Calls Tryz.prog 87 #[.slice (some ⟨g, 0, none⟩) F.length c, .func (.func 59) #[] #[.pointer (some ⟨gv, 0, none⟩)]] w fun e w' => ∃ r : Int, e = .returned (.int .i64 r) ∧ Hid (decide (0 ≤ r) = misB kd F) ∧ ∃ x, w' = gx w x := by
  have HF := Lib.hid h
  have HV := Lib.hid hv
  clear h hv
  go_enter Tryz.func87, Tryz.ntmps87
  go_wp2
  go_loopw [8] (fun i wr => ∃ k : Nat, k ≤ F.length ∧ i = .int .i64 k ∧ (∃ x, wr = gx w x) ∧ Hid (∀ j, j < k → misF kd (F.getD j (false, [])) = false)) (fun i _ => F.length - (intOf i).toNat)
  case atStart => exact ⟨0, Nat.zero_le _, rfl, (by repeat (first | (with_reducible exact Gx.refl _) | (with_reducible assumption) | (with_reducible refine Gx.gx ?_) | (with_reducible refine Gx.alloc ?_) | (with_reducible refine Gx.drew ?_) | (with_reducible refine Gx.drewN ?_) | (with_reducible refine Gx.setRow ?_ (by first | omega | (simp; done) | (simp <;> omega))) | (with_reducible refine Gx.setCell ?_ (by first | omega | (simp; done) | (simp <;> omega))))), Lib.hid (fun j hj => by omega)⟩
  case round =>
    obtain ⟨k, hk, rfl, hG, HN⟩ := hrel
    by_cases hlt : k < F.length
    · have hlt' : (k : Int) < (F.length : Int) := by omega
      have h0 := (HF.out k hlt).on hG
      have hcv : wr.cell? ⟨gv, 0, none⟩ = some (.int .i64 kd) := by obtain ⟨x, rfl⟩ := hG; exact cell_keep_gx HV.out
      have hgv : gv < wr.heap.size := World.block_lt_of_cell? wr _ hcv
      have HAt : Hid (misF kd (F.getD k (false, [])) = true → misB kd F = true) := Lib.hid (fun e => misB_at hlt e)
      have HSt : Hid (misF kd (F.getD k (false, [])) = false → ∀ j, j < k + 1 → misF kd (F.getD j (false, [])) = false) := Lib.hid (fun e j hj => by
        by_cases e2 : j = k
        · subst e2; exact e
        · exact HN.out j (by omega))
      have HGw := Lib.hid hG
      obtain ⟨h1, h2, gk, h3, h4⟩ := h0.out
      have hgk : g < wr.heap.size := World.block_lt_of_cell? wr _ h1
      generalize hf : F.getD k (false, []) = f at *
      have HM := Lib.hid (fun W (hW : ∃ x, W = gx wr x) => isMis_any f gk gv kd W (h4.on hW) h2 (by obtain ⟨x, rfl⟩ := hW; exact cell_keep_gx hcv) (by obtain ⟨x, rfl⟩ := hW; rw [size_gx]; omega))
      clear hf h0 h4 hG
      obtain ⟨b, ks⟩ := f
      dsimp only at *
      generalize misF kd (b, ks) = R at *
      cases R with
      | true =>
        go_wp2_with (first | (go_at_call 59; refine (HM.out _ (by repeat (first | (with_reducible exact Gx.refl _) | (with_reducible assumption) | (with_reducible refine Gx.gx ?_) | (with_reducible refine Gx.alloc ?_) | (with_reducible refine Gx.drew ?_) | (with_reducible refine Gx.drewN ?_) | (with_reducible refine Gx.setRow ?_ (by first | omega | (simp; done) | (simp <;> omega))) | (with_reducible refine Gx.setCell ?_ (by first | omega | (simp; done) | (simp <;> omega)))))).mono ?_; rintro e w' ⟨rfl, x1, rfl⟩))
        go_ret
        exact ⟨_, rfl, Lib.hid (by rw [HAt.out (by simp)]; exact decide_eq_true (by omega)), Gx.trans (by repeat (first | (with_reducible exact Gx.refl _) | (with_reducible assumption) | (with_reducible refine Gx.gx ?_) | (with_reducible refine Gx.alloc ?_) | (with_reducible refine Gx.drew ?_) | (with_reducible refine Gx.drewN ?_) | (with_reducible refine Gx.setRow ?_ (by first | omega | (simp; done) | (simp <;> omega))) | (with_reducible refine Gx.setCell ?_ (by first | omega | (simp; done) | (simp <;> omega))))) HGw.out⟩
      | false =>
        go_wp2_with (first | (go_at_call 59; refine (HM.out _ (by repeat (first | (with_reducible exact Gx.refl _) | (with_reducible assumption) | (with_reducible refine Gx.gx ?_) | (with_reducible refine Gx.alloc ?_) | (with_reducible refine Gx.drew ?_) | (with_reducible refine Gx.drewN ?_) | (with_reducible refine Gx.setRow ?_ (by first | omega | (simp; done) | (simp <;> omega))) | (with_reducible refine Gx.setCell ?_ (by first | omega | (simp; done) | (simp <;> omega)))))).mono ?_; rintro e w' ⟨rfl, x1, rfl⟩))
        go_roundw
        all_goals first
          | (simp [intOf]; omega)
          | exact ⟨k + 1, by omega, by go_num, Gx.trans (by repeat (first | (with_reducible exact Gx.refl _) | (with_reducible assumption) | (with_reducible refine Gx.gx ?_) | (with_reducible refine Gx.alloc ?_) | (with_reducible refine Gx.drew ?_) | (with_reducible refine Gx.drewN ?_) | (with_reducible refine Gx.setRow ?_ (by first | omega | (simp; done) | (simp <;> omega))) | (with_reducible refine Gx.setCell ?_ (by first | omega | (simp; done) | (simp <;> omega))))) HGw.out, Lib.hid (HSt.out (by simp))⟩
    · obtain rfl : k = F.length := by omega
      have HI := Lib.hid (misB_none HN.out)
      have HGw := Lib.hid hG
      clear hG
      go_wp2
      go_ret
      exact ⟨_, rfl, Lib.hid (by rw [HI.out]; rfl), HGw.out⟩
theorem ContainsF_any (F : List (Bool × List Int)) (g c gv : Nat) (kd : Int) (w : World) (hl : F.length ≤ 100) (h : ∀ k, k < F.length → FldAt w g (k * 2) (F.getD k (false, []))) (hv : w.cell? ⟨gv, 0, none⟩ = some (.int .i64 kd)) :
    Calls Tryz.prog 58 #[.slice (some ⟨g, 0, none⟩) F.length c, .func (.func 59) #[] #[.pointer (some ⟨gv, 0, none⟩)]] w fun e w' => e = .returned (.bool (misB kd F)) ∧ ∃ x, w' = gx w x := by
  go_enter Tryz.func58, Tryz.ntmps58
  go_wp2_with (first | (go_at_call 87; refine (IndexF_any F g c gv kd _ hl h hv).mono ?_; rintro e w' ⟨r, rfl, HR, x1, rfl⟩))
  go_ret
  exact ⟨by rw [← HR.out]; rfl, (by repeat (first | (with_reducible exact Gx.refl _) | (with_reducible assumption) | (with_reducible refine Gx.gx ?_) | (with_reducible refine Gx.alloc ?_) | (with_reducible refine Gx.drew ?_) | (with_reducible refine Gx.drewN ?_) | (with_reducible refine Gx.setRow ?_ (by first | omega | (simp; done) | (simp <;> omega))) | (with_reducible refine Gx.setCell ?_ (by first | omega | (simp; done) | (simp <;> omega)))))⟩
theorem isMisused_any (F : List (Bool × List Int)) (g c : Nat) (kd : Int) (w : World) (hl : F.length ≤ 100) (h : ∀ k, k < F.length → FldAt w g (k * 2) (F.getD k (false, []))) :
    Calls Tryz.prog 26 #[.int .i64 kd, .slice (some ⟨g, 0, none⟩) F.length c] w fun e w' => e = .returned (.bool (misB kd F)) ∧ ∃ x, w' = gx w x := by
  have HC := Lib.hid (fun W (hW : ∃ x, W = gx w x) gv hv => ContainsF_any F g c gv kd W hl (fun k hk => (h k hk).on hW) hv)
  clear h
  go_enter Tryz.func26, Tryz.ntmps26
  go_wp2_with (first | (go_at_call 58; refine (HC.out _ (by repeat (first | (with_reducible exact Gx.refl _) | (with_reducible assumption) | (with_reducible refine Gx.gx ?_) | (with_reducible refine Gx.alloc ?_) | (with_reducible refine Gx.drew ?_) | (with_reducible refine Gx.drewN ?_) | (with_reducible refine Gx.setRow ?_ (by first | omega | (simp; done) | (simp <;> omega))) | (with_reducible refine Gx.setCell ?_ (by first | omega | (simp; done) | (simp <;> omega))))) _ (by simp [go_sem])).mono ?_; rintro e w' ⟨rfl, x1, rfl⟩))
  go_ret
  exact ⟨rfl, (by repeat (first | (with_reducible exact Gx.refl _) | (with_reducible assumption) | (with_reducible refine Gx.gx ?_) | (with_reducible refine Gx.alloc ?_) | (with_reducible refine Gx.drew ?_) | (with_reducible refine Gx.drewN ?_) | (with_reducible refine Gx.setRow ?_ (by first | omega | (simp; done) | (simp <;> omega))) | (with_reducible refine Gx.setCell ?_ (by first | omega | (simp; done) | (simp <;> omega)))))⟩
end Go.Proofs.YtocaphcnnmcnjaaGreatDoor

/-
  Fields of instruments: the list that the program makes of an instrument.
-/
namespace Go.Proofs.YtocaphcnnmcnjaaGreatDoor
open Go.RowKit
-- AT2
-- AT3

/-- An instrument as a value. -/
abbrev inV (kd : Int) (nm tr : ByteArray) (pl lo hi st : Int) (Z : Option Addr) (zn zc : Nat) (op nn : Int) (lt : Bool) (sz : Int) : Value := .agg #[.int .i64 kd, .string nm, .string tr, .int .i64 pl, .int .i64 lo, .int .i64 hi, .int .i64 st, .slice Z zn zc, .int .i64 op, .int .i64 nn, .bool lt, .int .i64 sz]
/-- The fields of an instrument, each with the kinds that use it. -/
def inF (pl lo hi st : Int) (zn : Nat) (op nn : Int) (lt : Bool) (sz : Int) : List (Bool × List Int) :=
  [(pl != 0, [1, 4, 6]), (decide (lo ≠ 0 ∨ hi ≠ 0 ∨ st ≠ 0 ∨ 0 < zn), [2]), (decide (op ≠ 0 ∨ nn ≠ 0), [3, 5]), (lt, [3]), (sz != 0, [6])]
/-- Five fields lie in a block. -/
@[irreducible] def FiveAt (w : World) (F : List (Bool × List Int)) (A : Option Addr) : Prop := ∃ g, A = some ⟨g, 0, none⟩ ∧ F.length = 5 ∧ ∀ k, k < 5 → FldAt w g (k * 2) (F.getD k (false, []))
theorem nsAt_new {w : World} {g : Nat} {ks : List Int} {t : TypeId} (h : At w g (.cells (ks.map fun n => Value.int .i64 n).toArray t (0, 0))) : NsAt w g ks := by
  unfold NsAt
  refine ⟨h.lt, fun j hj => ?_⟩
  rw [cell_of_row w _ _ _ _ _ h]
  simp [List.getD, hj]
theorem fiveAt_new {w : World} {g g0 g1 g2 g3 g4 : Nat} {b0 b1 b2 b3 b4 : Bool} {K0 K1 K2 K3 K4 : List Int} {t : TypeId} (h : At w g (.cells #[.bool b0, .slice (some ⟨g0, 0, none⟩) K0.length K0.length, .bool b1, .slice (some ⟨g1, 0, none⟩) K1.length K1.length, .bool b2, .slice (some ⟨g2, 0, none⟩) K2.length K2.length, .bool b3, .slice (some ⟨g3, 0, none⟩) K3.length K3.length, .bool b4, .slice (some ⟨g4, 0, none⟩) K4.length K4.length] t (0, 0)))
    (h0 : NsAt w g0 K0) (h1 : NsAt w g1 K1) (h2 : NsAt w g2 K2) (h3 : NsAt w g3 K3) (h4 : NsAt w g4 K4) (hl : K0.length ≤ 100 ∧ K1.length ≤ 100 ∧ K2.length ≤ 100 ∧ K3.length ≤ 100 ∧ K4.length ≤ 100) :
    FiveAt w [(b0, K0), (b1, K1), (b2, K2), (b3, K3), (b4, K4)] (some ⟨g, 0, none⟩) := by
  unfold FiveAt
  refine ⟨g, rfl, rfl, fun k hk => ?_⟩
  obtain ⟨l0, l1, l2, l3, l4⟩ := hl
  have hk' : k = 0 ∨ k = 1 ∨ k = 2 ∨ k = 3 ∨ k = 4 := by omega
  rcases hk' with rfl | rfl | rfl | rfl | rfl
  · unfold FldAt; exact ⟨by rw [cell_of_row w _ _ _ _ _ h]; rfl, l0, g0, by rw [cell_of_row w _ _ _ _ _ h]; rfl, h0⟩
  · unfold FldAt; exact ⟨by rw [cell_of_row w _ _ _ _ _ h]; rfl, l1, g1, by rw [cell_of_row w _ _ _ _ _ h]; rfl, h1⟩
  · unfold FldAt; exact ⟨by rw [cell_of_row w _ _ _ _ _ h]; rfl, l2, g2, by rw [cell_of_row w _ _ _ _ _ h]; rfl, h2⟩
  · unfold FldAt; exact ⟨by rw [cell_of_row w _ _ _ _ _ h]; rfl, l3, g3, by rw [cell_of_row w _ _ _ _ _ h]; rfl, h3⟩
  · unfold FldAt; exact ⟨by rw [cell_of_row w _ _ _ _ _ h]; rfl, l4, g4, by rw [cell_of_row w _ _ _ _ _ h]; rfl, h4⟩
set_option maxHeartbeats 4000000 in
theorem fieldsOf_core (kd : Int) (nm tr : ByteArray) (pl lo hi st : Int) (Z : Option Addr) (zn zc : Nat) (op nn : Int) (lt : Bool) (sz : Int) (w : World) (b1 b2 : Bool)
    (H1 : (b1 = true ∧ (¬ lo = 0 ∨ (lo = 0 ∧ ¬ hi = 0) ∨ (lo = 0 ∧ hi = 0 ∧ ¬ st = 0) ∨ (lo = 0 ∧ hi = 0 ∧ st = 0 ∧ 0 < zn))) ∨ (b1 = false ∧ lo = 0 ∧ hi = 0 ∧ st = 0 ∧ zn = 0))
    (H2 : (b2 = true ∧ (¬ op = 0 ∨ (op = 0 ∧ ¬ nn = 0))) ∨ (b2 = false ∧ op = 0 ∧ nn = 0)) :
    Calls Tryz.prog 27 #[inV kd nm tr pl lo hi st Z zn zc op nn lt sz] w fun e w' => ∃ A, e = .returned (.slice A 5 5) ∧ FiveAt w' [(pl != 0, [1, 4, 6]), (b1, [2]), (b2, [3, 5]), (lt, [3]), (sz != 0, [6])] A ∧ ∃ x, w' = gx w x := by
  rcases H1 with ⟨rfl, h | ⟨rfl, h⟩ | ⟨rfl, rfl, h⟩ | ⟨rfl, rfl, rfl, h⟩⟩ | ⟨rfl, rfl, rfl, rfl, rfl⟩
  all_goals
    rcases H2 with ⟨rfl, h' | ⟨rfl, h'⟩⟩ | ⟨rfl, rfl, rfl⟩
    all_goals (try (have hnn : (nn != 0) = true := bne_iff_ne.2 (by assumption)))
    all_goals
      go_enter Tryz.func27, Tryz.ntmps27
      go_wp2
      refine bodyPost_ret (v := .slice (some ⟨w.heap.size + 1 + 1 + 1 + 1 + 1 + 1, 0, none⟩) 5 5) (by simp [results, Tryz.results27, go_sem]) rfl ⟨_, rfl, ?_, (by repeat (first | (with_reducible exact Gx.refl _) | (with_reducible assumption) | (with_reducible refine Gx.gx ?_) | (with_reducible refine Gx.alloc ?_) | (with_reducible refine Gx.drew ?_) | (with_reducible refine Gx.drewN ?_) | (with_reducible refine Gx.setRow ?_ (by first | omega | (simp; done) | (simp <;> omega))) | (with_reducible refine Gx.setCell ?_ (by first | omega | (simp; done) | (simp <;> omega)))))⟩
      refine fiveAt_new (g0 := w.heap.size + 1) (g1 := w.heap.size + 1 + 1) (g2 := w.heap.size + 1 + 1 + 1) (g3 := w.heap.size + 1 + 1 + 1 + 1) (g4 := w.heap.size + 1 + 1 + 1 + 1 + 1) (K0 := [1, 4, 6]) (K1 := [2]) (K2 := [3, 5]) (K3 := [3]) (K4 := [6]) (t := 90) ?_ (nsAt_new (t := 3) ?_) (nsAt_new (t := 3) ?_) (nsAt_new (t := 3) ?_) (nsAt_new (t := 3) ?_) (nsAt_new (t := 3) ?_) (by decide)
      · simp only [List.length_cons, List.length_nil, Nat.reduceAdd]; (focus (repeat (first | (with_reducible assumption) | (with_reducible exact At.new _ _) | (with_reducible refine At.row ?_) | ((with_reducible refine At.row_other ?_ ?_); rotate_left; (focus (simp <;> omega))) | (with_reducible refine At.app ?_) | (with_reducible refine At.tick ?_) | (with_reducible refine At.gx ?_) | ((with_reducible refine At.new' ?_); focus (simp; done)) | (with_reducible refine At.alloc ?_) | (with_reducible refine At.drew ?_) | (with_reducible exact Is.new _ _ _) | (with_reducible refine Is.row ?_) | ((with_reducible refine Is.row_other ?_ ?_); rotate_left; (focus (simp <;> omega))) | (with_reducible refine Is.gx ?_) | ((with_reducible refine Is.new' ?_); focus (simp; done)) | (with_reducible refine Is.alloc ?_) | (with_reducible refine Is.drew ?_))))
      · show At _ _ (.cells #[.int .i64 1, .int .i64 4, .int .i64 6] 3 (0, 0)); (focus (repeat (first | (with_reducible assumption) | (with_reducible exact At.new _ _) | (with_reducible refine At.row ?_) | ((with_reducible refine At.row_other ?_ ?_); rotate_left; (focus (simp <;> omega))) | (with_reducible refine At.app ?_) | (with_reducible refine At.tick ?_) | (with_reducible refine At.gx ?_) | ((with_reducible refine At.new' ?_); focus (simp; done)) | (with_reducible refine At.alloc ?_) | (with_reducible refine At.drew ?_) | (with_reducible exact Is.new _ _ _) | (with_reducible refine Is.row ?_) | ((with_reducible refine Is.row_other ?_ ?_); rotate_left; (focus (simp <;> omega))) | (with_reducible refine Is.gx ?_) | ((with_reducible refine Is.new' ?_); focus (simp; done)) | (with_reducible refine Is.alloc ?_) | (with_reducible refine Is.drew ?_))))
      · show At _ _ (.cells #[.int .i64 2] 3 (0, 0)); (focus (repeat (first | (with_reducible assumption) | (with_reducible exact At.new _ _) | (with_reducible refine At.row ?_) | ((with_reducible refine At.row_other ?_ ?_); rotate_left; (focus (simp <;> omega))) | (with_reducible refine At.app ?_) | (with_reducible refine At.tick ?_) | (with_reducible refine At.gx ?_) | ((with_reducible refine At.new' ?_); focus (simp; done)) | (with_reducible refine At.alloc ?_) | (with_reducible refine At.drew ?_) | (with_reducible exact Is.new _ _ _) | (with_reducible refine Is.row ?_) | ((with_reducible refine Is.row_other ?_ ?_); rotate_left; (focus (simp <;> omega))) | (with_reducible refine Is.gx ?_) | ((with_reducible refine Is.new' ?_); focus (simp; done)) | (with_reducible refine Is.alloc ?_) | (with_reducible refine Is.drew ?_))))
      · show At _ _ (.cells #[.int .i64 3, .int .i64 5] 3 (0, 0)); (focus (repeat (first | (with_reducible assumption) | (with_reducible exact At.new _ _) | (with_reducible refine At.row ?_) | ((with_reducible refine At.row_other ?_ ?_); rotate_left; (focus (simp <;> omega))) | (with_reducible refine At.app ?_) | (with_reducible refine At.tick ?_) | (with_reducible refine At.gx ?_) | ((with_reducible refine At.new' ?_); focus (simp; done)) | (with_reducible refine At.alloc ?_) | (with_reducible refine At.drew ?_) | (with_reducible exact Is.new _ _ _) | (with_reducible refine Is.row ?_) | ((with_reducible refine Is.row_other ?_ ?_); rotate_left; (focus (simp <;> omega))) | (with_reducible refine Is.gx ?_) | ((with_reducible refine Is.new' ?_); focus (simp; done)) | (with_reducible refine Is.alloc ?_) | (with_reducible refine Is.drew ?_))))
      · show At _ _ (.cells #[.int .i64 3] 3 (0, 0)); (focus (repeat (first | (with_reducible assumption) | (with_reducible exact At.new _ _) | (with_reducible refine At.row ?_) | ((with_reducible refine At.row_other ?_ ?_); rotate_left; (focus (simp <;> omega))) | (with_reducible refine At.app ?_) | (with_reducible refine At.tick ?_) | (with_reducible refine At.gx ?_) | ((with_reducible refine At.new' ?_); focus (simp; done)) | (with_reducible refine At.alloc ?_) | (with_reducible refine At.drew ?_) | (with_reducible exact Is.new _ _ _) | (with_reducible refine Is.row ?_) | ((with_reducible refine Is.row_other ?_ ?_); rotate_left; (focus (simp <;> omega))) | (with_reducible refine Is.gx ?_) | ((with_reducible refine Is.new' ?_); focus (simp; done)) | (with_reducible refine Is.alloc ?_) | (with_reducible refine Is.drew ?_))))
      · show At _ _ (.cells #[.int .i64 6] 3 (0, 0)); (focus (repeat (first | (with_reducible assumption) | (with_reducible exact At.new _ _) | (with_reducible refine At.row ?_) | ((with_reducible refine At.row_other ?_ ?_); rotate_left; (focus (simp <;> omega))) | (with_reducible refine At.app ?_) | (with_reducible refine At.tick ?_) | (with_reducible refine At.gx ?_) | ((with_reducible refine At.new' ?_); focus (simp; done)) | (with_reducible refine At.alloc ?_) | (with_reducible refine At.drew ?_) | (with_reducible exact Is.new _ _ _) | (with_reducible refine Is.row ?_) | ((with_reducible refine Is.row_other ?_ ?_); rotate_left; (focus (simp <;> omega))) | (with_reducible refine Is.gx ?_) | ((with_reducible refine Is.new' ?_); focus (simp; done)) | (with_reducible refine Is.alloc ?_) | (with_reducible refine Is.drew ?_))))
end Go.Proofs.YtocaphcnnmcnjaaGreatDoor
