/-
  What is held at a time, the program's: contracts.
-/
import Derived.Test.YtbhcjaejkplfeaaGreatDoorSSearch
namespace Go.Proofs.YtbhcjaejkplfeaaGreatDoor
open Go.RowKit
-- AT2

/-- The closure of ahead. -/
theorem ahead1_any (b o n c ba bx : Nat) (y t : Int) (i : Nat) (W : World) (hi : i < n)
    (ha : W.cell? ⟨ba, 0, none⟩ = some (.slice (some ⟨b, o, none⟩) n c)) (hx : W.cell? ⟨bx, 0, none⟩ = some (.int .i64 t)) (hc : W.cell? ⟨b, o + i * 3, none⟩ = some (.int .i64 y)) :
    Calls Tryz.prog 125 (#[.int .i64 i] ++ #[.pointer (some ⟨ba, 0, none⟩), .pointer (some ⟨bx, 0, none⟩)]) W fun e w' => e = .returned (.bool (decide (t ≤ y))) ∧ ∃ q os, w' = Go.Sort.grow (W.drewN q) os := by
  have hiz : (i : Int) < (n : Int) := by omega
  go_enter Tryz.func125, Tryz.ntmps125
  go_wp2
  go_quiet (fail)
  go_wp2
  go_ret
  exact ⟨rfl, nq, #[], by rw [Go.Sort.grow_empty]⟩
set_option maxHeartbeats 1000000 in
theorem ahead_any (g : Nat → Sm) (n c : Nat) (A : Option Addr) (t : Int) (w : World) (hL : SmAt w g n A) (hn : n ≤ 20000) (hG : GoodS g n) :
    Calls Tryz.prog 102 #[.slice A n c, .int .i64 t] w fun e w' => e = .returned (.int .i64 (aheadN g t n)) ∧ ∃ x, w' = gx w x := by
  obtain ⟨W0, hW0⟩ : ∃ W0, W0 = (w.alloc (.cells #[.slice A n c] 39)).alloc (.cells #[.int .i64 t] 3) := ⟨_, rfl⟩
  have hsize : W0.heap.size = w.heap.size + 1 + 1 := by rw [hW0]; simp
  have eg : ∀ args w, (callFunc 125 args).run Tryz.prog w = .ok (.enter 125 args) w := enters_of Tryz.func125 (by kernel_rfl) rfl
  have h1 : W0.cell? ⟨w.heap.size, 0, none⟩ = some (.slice A n c) := by rw [hW0]; exact Go.Proofs.cell_alloc_sl _ (Go.Proofs.cell_new_sl w _ _)
  have h2 : W0.cell? ⟨w.heap.size + 1, 0, none⟩ = some (.int .i64 t) := by
    rw [hW0]; have := Go.Proofs.cell_new_sl (w.alloc (.cells #[.slice A n c] 39)) (.int .i64 t) 3; rwa [World.size_alloc] at this
  have h3 : SmAt W0 g n A := by rw [hW0]; exact hL.alloc.alloc
  have hS := Search_any 125 #[.pointer (some ⟨w.heap.size, 0, none⟩), .pointer (some ⟨w.heap.size + 1, 0, none⟩)] n (fun i => decide (t ≤ (g i).t)) W0 eg (by omega)
    (fun W hW i hi => by
      obtain ⟨x, rfl⟩ := hW
      obtain ⟨b, o, rfl, hbw, HC⟩ := h3.get (by omega)
      exact ahead1_any b o n c w.heap.size (w.heap.size + 1) (g i).t t i _ hi (cell_keep_gx h1) (cell_keep_gx h2) (cell_keep_gx (HC.out i hi).1))
    (fun a b hab hb h => by have := hG.le hab hb; simp only [decide_eq_true_eq] at h ⊢; omega)
  rw [aheadN_countP] at hS
  clear h1 h2 h3 eg
  generalize aheadN g t n = r at hS ⊢
  go_enter Tryz.func102, Tryz.ntmps102
  go_wp2_with (go_at_call 114; rw [← hW0]; refine hS.mono ?_; rintro e w' ⟨rfl, x, rfl⟩)
  go_ret
  exact ⟨rfl, (by repeat (first | (with_reducible exact Gx.refl _) | (with_reducible assumption) | (with_reducible refine Gx.gx ?_) | (with_reducible refine Gx.alloc ?_) | (with_reducible refine Gx.drew ?_) | (with_reducible refine Gx.drewN ?_) | (with_reducible refine Gx.setRow ?_ (by simp)) | (with_reducible refine Gx.setCell ?_ (by simp))))⟩

set_option maxHeartbeats 2000000 in
set_option maxRecDepth 100000 in
theorem hold_any (g : Nat → Sm) (n c : Nat) (A : Option Addr) (a l : Int) (w : World) (hL : SmAt w g n A) (hn : n ≤ 20000) (hG : GoodS g n) (ha1 : 0 ≤ a) (ha2 : a ≤ 1099511627776) (_hl1 : 0 ≤ l) (_hl2 : l ≤ 1099511627776) :
    Calls Tryz.prog 72 #[.slice A n c, .int .i64 a, .int .i64 l] w fun e w' => e = .returned (.tuple #[smV (heldV g (aheadN g (a + 1) n) a l).t (heldV g (aheadN g (a + 1) n) a l).n (heldV g (aheadN g (a + 1) n) a l).m, .bool (heldB g (aheadN g (a + 1) n) a l)]) ∧ ∃ x, w' = gx w x := by
  have hle := aheadN_le g (a + 1) n
  have HA := fun W h => ahead_any g n c A (a + 1) W h hn hG
  have hlw : SmAt (w.alloc (.cells #[.int .i64 0, .int .i64 0, .int .i64 0] 45)) g n A := hL.alloc
  generalize aheadN g (a + 1) n = k at *
  rcases Nat.eq_zero_or_pos k with h0 | h0
  · have hb : heldB g k a l = false := heldB_no.2 (fun h => by omega)
    rw [heldV_no hb, hb]
    subst h0
    clear hb
    go_enter Tryz.func72, Tryz.ntmps72
    go_wp2_with (go_at_call 102; refine (HA _ hlw).mono ?_; rintro e w' ⟨rfl, x, rfl⟩)
    exact bodyPost_ret (v := .tuple #[smV 0 0 0, .bool false]) (by simp [results, Tryz.results72, go_sem]) rfl ⟨rfl, (by repeat (first | (with_reducible exact Gx.refl _) | (with_reducible assumption) | (with_reducible refine Gx.gx ?_) | (with_reducible refine Gx.alloc ?_) | (with_reducible refine Gx.drew ?_) | (with_reducible refine Gx.drewN ?_) | (with_reducible refine Gx.setRow ?_ (by simp)) | (with_reducible refine Gx.setCell ?_ (by simp))))⟩
  · obtain ⟨j, rfl⟩ : ∃ j, k = j + 1 := ⟨k - 1, by omega⟩
    obtain ⟨b, o, rfl, hbw, HC⟩ := hL.get (by omega)
    obtain ⟨c1, c2, c3⟩ := HC.out j (by omega)
    have hok := hG.ok j (by omega)
    unfold smOk at hok
    obtain ⟨o1, o2, o3, o4, o5, o6⟩ := hok
    have hjn : j < n := by omega
    have ej : j + 1 - 1 = j := by omega
    by_cases h3 : 3 ≤ (g j).m
    · have d3 : decide (3 ≤ (g j).m) = true := decide_eq_true h3
      by_cases h4 : a - (g j).t ≤ l
      · have hb : heldB g (j + 1) a l = true := heldB_iff.2 ⟨h0, by rw [ej]; exact h3, by rw [ej]; exact h4⟩
        rw [heldV_yes hb, hb, ej]
        have d4 : decide (l < a - (g j).t) = false := decide_eq_false (by omega)
        clear hb h3 h4 ej hL
        go_enter Tryz.func72, Tryz.ntmps72
        go_wp2_with first
          | (go_at_call 102; refine (HA _ hlw).mono ?_; rintro e w' ⟨rfl, x, rfl⟩)
          | (go_at_call 103; refine (isSolid_any _ _ _ _).mono ?_; rw [d3]; rintro e w' ⟨rfl, x, rfl⟩)
        exact bodyPost_ret (v := .tuple #[smV (g j).t (g j).n (g j).m, .bool true]) (by simp [results, Tryz.results72, go_sem]) rfl ⟨rfl, (by repeat (first | (with_reducible exact Gx.refl _) | (with_reducible assumption) | (with_reducible refine Gx.gx ?_) | (with_reducible refine Gx.alloc ?_) | (with_reducible refine Gx.drew ?_) | (with_reducible refine Gx.drewN ?_) | (with_reducible refine Gx.setRow ?_ (by simp)) | (with_reducible refine Gx.setCell ?_ (by simp))))⟩
      · have hb : heldB g (j + 1) a l = false := heldB_no.2 (fun h => h4 (by have := h.2.2; rw [ej] at this; exact this))
        rw [heldV_no hb, hb]
        have d4 : decide (l < a - (g j).t) = true := decide_eq_true (by omega)
        clear hb h3 h4 ej hL
        go_enter Tryz.func72, Tryz.ntmps72
        go_wp2_with first
          | (go_at_call 102; refine (HA _ hlw).mono ?_; rintro e w' ⟨rfl, x, rfl⟩)
          | (go_at_call 103; refine (isSolid_any _ _ _ _).mono ?_; rw [d3]; rintro e w' ⟨rfl, x, rfl⟩)
        exact bodyPost_ret (v := .tuple #[smV 0 0 0, .bool false]) (by simp [results, Tryz.results72, go_sem]) rfl ⟨rfl, (by repeat (first | (with_reducible exact Gx.refl _) | (with_reducible assumption) | (with_reducible refine Gx.gx ?_) | (with_reducible refine Gx.alloc ?_) | (with_reducible refine Gx.drew ?_) | (with_reducible refine Gx.drewN ?_) | (with_reducible refine Gx.setRow ?_ (by simp)) | (with_reducible refine Gx.setCell ?_ (by simp))))⟩
    · have d3 : decide (3 ≤ (g j).m) = false := decide_eq_false h3
      have hb : heldB g (j + 1) a l = false := heldB_no.2 (fun h => h3 (by have := h.2.1; rw [ej] at this; exact this))
      rw [heldV_no hb, hb]
      clear hb h3 ej hL
      go_enter Tryz.func72, Tryz.ntmps72
      go_wp2_with first
        | (go_at_call 102; refine (HA _ hlw).mono ?_; rintro e w' ⟨rfl, x, rfl⟩)
        | (go_at_call 103; refine (isSolid_any _ _ _ _).mono ?_; rw [d3]; rintro e w' ⟨rfl, x, rfl⟩)
      exact bodyPost_ret (v := .tuple #[smV 0 0 0, .bool false]) (by simp [results, Tryz.results72, go_sem]) rfl ⟨rfl, (by repeat (first | (with_reducible exact Gx.refl _) | (with_reducible assumption) | (with_reducible refine Gx.gx ?_) | (with_reducible refine Gx.alloc ?_) | (with_reducible refine Gx.drew ?_) | (with_reducible refine Gx.drewN ?_) | (with_reducible refine Gx.setRow ?_ (by simp)) | (with_reducible refine Gx.setCell ?_ (by simp))))⟩

theorem Check_any (den : Int) (g : Nat → Sm) (n c : Nat) (A : Option Addr) (w : World) (hL : SmAt w g n A) :
    Calls Tryz.prog 71 #[serV den A n c] w fun e w' => e = .returned (.int .i64 (serE den g n)) ∧ ∃ x, w' = gx w x := by
  have hlw : SmAt (w.alloc (.cells #[.int .i64 den, .slice A n c] 41)) g n A := hL.alloc
  have HC := fun W h => check_any den g n c A W h
  go_enter Tryz.func71, Tryz.ntmps71
  go_wp2_with (go_at_call 101; refine (HC _ hlw).mono ?_; rintro e w' ⟨rfl, x, rfl⟩)
  go_ret
  exact ⟨rfl, (by repeat (first | (with_reducible exact Gx.refl _) | (with_reducible assumption) | (with_reducible refine Gx.gx ?_) | (with_reducible refine Gx.alloc ?_) | (with_reducible refine Gx.drew ?_) | (with_reducible refine Gx.drewN ?_) | (with_reducible refine Gx.setRow ?_ (by simp)) | (with_reducible refine Gx.setCell ?_ (by simp))))⟩
/-- What is wrong with a series and times. -/
def holdE (den : Int) (g : Nat → Sm) (n : Nat) (a l : Int) : Int := if serE den g n ≠ 0 then serE den g n else if (inB 0 1099511627776 a && inB 0 1099511627776 l) = true then 0 else 9
theorem holdE_0 {den : Int} {g : Nat → Sm} {n : Nat} {a l : Int} (h : holdE den g n a l = 0) : serE den g n = 0 ∧ (0 ≤ a ∧ a ≤ 1099511627776) ∧ (0 ≤ l ∧ l ≤ 1099511627776) := by
  unfold holdE at h
  split at h
  · rename_i h1; exact absurd h h1
  · split at h
    · rename_i h1 h2
      rw [Bool.and_eq_true, inB_iff, inB_iff] at h2
      exact ⟨Classical.byContradiction h1, h2⟩
    · omega
theorem holdE_is {den : Int} {g : Nat → Sm} {n : Nat} {a l : Int} (h : serE den g n = 0) : holdE den g n a l = if (inB 0 1099511627776 a && inB 0 1099511627776 l) = true then 0 else 9 := by unfold holdE; rw [if_neg (fun k => k h)]
theorem holdE_no {den : Int} {g : Nat → Sm} {n : Nat} {a l : Int} (h : serE den g n ≠ 0) : holdE den g n a l = serE den g n := by unfold holdE; rw [if_pos h]
attribute [irreducible] holdE
/-- What Hold leaves. -/
def holdV (den : Int) (g : Nat → Sm) (n : Nat) (a l : Int) : Sm := if holdE den g n a l = 0 then heldV g (aheadN g (a + 1) n) a l else ⟨0, 0, 0⟩
def holdB (den : Int) (g : Nat → Sm) (n : Nat) (a l : Int) : Bool := if holdE den g n a l = 0 then heldB g (aheadN g (a + 1) n) a l else false
theorem hold_yes {den : Int} {g : Nat → Sm} {n : Nat} {a l : Int} (h : holdE den g n a l = 0) : holdV den g n a l = heldV g (aheadN g (a + 1) n) a l ∧ holdB den g n a l = heldB g (aheadN g (a + 1) n) a l := by unfold holdV holdB; rw [if_pos h, if_pos h]; exact ⟨rfl, rfl⟩
theorem hold_not {den : Int} {g : Nat → Sm} {n : Nat} {a l : Int} (h : holdE den g n a l ≠ 0) : holdV den g n a l = ⟨0, 0, 0⟩ ∧ holdB den g n a l = false := by unfold holdV holdB; rw [if_neg h, if_neg h]; exact ⟨rfl, rfl⟩
attribute [irreducible] holdV holdB
end Go.Proofs.YtbhcjaejkplfeaaGreatDoor
