/-
  Part, the program's: a contract.
-/
import Derived.Test.YtjlokobgdkkppaaDoorSClone
import Derived.Test.YtjlokobgdkkppaaDoorSLawCalb
import Derived.Deep.RegionHeld3
namespace Go.Proofs.YtjlokobgdkkppaaDoor
open Go.RowKit
-- AT2
-- AT3

/-- What is wrong with a series and a part of it. -/
def ptE (den : Int) (g : Nat → Sm) (n : Nat) (fr to : Int) : Int := if serE den g n ≠ 0 then serE den g n else if 0 ≤ fr ∧ fr ≤ to ∧ to ≤ 1099511627777 then 0 else 9
theorem ptE_1 {den : Int} {g : Nat → Sm} {n : Nat} {fr to : Int} (h : serE den g n ≠ 0) : ptE den g n fr to = serE den g n := by unfold ptE; rw [if_pos h]
theorem ptE_2 {den : Int} {g : Nat → Sm} {n : Nat} {fr to : Int} (h : serE den g n = 0) (h2 : ¬ (0 ≤ fr ∧ fr ≤ to ∧ to ≤ 1099511627777)) : ptE den g n fr to = 9 := by unfold ptE; rw [if_neg (fun k => k h), if_neg h2]
theorem ptE_3 {den : Int} {g : Nat → Sm} {n : Nat} {fr to : Int} (h : serE den g n = 0) (h2 : 0 ≤ fr ∧ fr ≤ to ∧ to ≤ 1099511627777) : ptE den g n fr to = 0 := by unfold ptE; rw [if_neg (fun k => k h), if_pos h2]
attribute [irreducible] ptE
theorem aheadN_mono (g : Nat → Sm) {a b : Int} (h : a ≤ b) : ∀ n, aheadN g a n ≤ aheadN g b n
  | 0 => by unfold aheadN; exact Nat.le_refl _
  | n + 1 => by
    have := aheadN_mono g h n
    unfold aheadN
    by_cases h1 : (g n).t < a
    · rw [if_pos h1, if_pos (by omega)]; omega
    · rw [if_neg h1]; split <;> omega
/-- The part of the samples from the i-th one on. -/
def ptF (g : Nat → Sm) (i : Nat) : Nat → Sm := fun k => g (i + k)
def subA (A : Option Addr) (i : Nat) : Option Addr := A.map fun a => a.add (i * 3)
theorem smAt_sub {W : World} {g : Nat → Sm} {n i j : Nat} {ad : Addr} (h : SmAt W g n (some ad)) (hj : j ≤ n) : SmAt W (ptF g i) (j - i) (some (ad.add (i * 3))) := by
  refine SmAt.mk fun h0 => ?_
  unfold SmAt at h
  obtain ⟨b, o, e, hc⟩ := h (by omega)
  obtain rfl : ad = ⟨b, o, none⟩ := by simpa using e
  refine ⟨b, o + i * 3, by rw [Addr.add_lit], fun k hk => ?_⟩
  have := hc (i + k) (by omega)
  rw [show o + (i + k) * 3 = o + i * 3 + k * 3 by omega] at this
  exact this
theorem smAt_sub' {W : World} {g : Nat → Sm} {n c i j : Nat} {ad : Addr} (h : SmAt W g n (some ad)) (hj : j ≤ n) (hc : n ≤ c) : SmAt W (ptF g i) (j - i) (if c = i then some ad else some (ad.add (i * 3))) := by
  by_cases e : c = i
  · rw [if_pos e]; exact SmAt.mk fun h => by omega
  · rw [if_neg e]; exact smAt_sub h hj
theorem smAt_of {w W : World} {g : Nat → Sm} {n : Nat} {A : Option Addr} (h : SmAt w g n A) (hW : ∃ x, W = gx w x) : SmAt W g n A := by
  obtain ⟨x, rfl⟩ := hW; exact h.gx
theorem Part_end {w : World} {o1 : Obj} {t : TypeId} {den : Int} {f : Nat → Sm} {n c2 : Nat} {A2 : Option Addr} {x : Ext} (h : SmAt (gx ((w.alloc o1).alloc (.cells #[.int .i64 0, .slice none 0 0] t)) x) f n A2) :
    SerPost w den f n 0 (.returned (.tuple #[serV den A2 n c2, .int .i64 0])) (gx ((w.alloc o1).alloc (.cells #[.int .i64 den, .slice A2 n c2] t)) x) := SerPost.mk (by repeat (first | (with_reducible exact Gx.refl _) | (with_reducible assumption) | (with_reducible refine Gx.gx ?_) | (with_reducible refine Gx.alloc ?_) | (with_reducible refine Gx.drew ?_) | (with_reducible refine Gx.drewN ?_) | (with_reducible refine Gx.setRow ?_ (by first | omega | (simp; done) | (simp <;> omega))) | (with_reducible refine Gx.setCell ?_ (by first | omega | (simp; done) | (simp <;> omega))))) (smAt_swap h)
theorem Part_fin {w W6 : World} {K b m c7 : Nat} {den : Int} {f : Nat → Sm} {A7 : Option Addr} {u v : Value} {x7 : Ext} (hG : ∃ x, W6 = gx w x) (hK : w.heap.size ≤ K) (R6 : At W6 K (.cells #[.int .i64 0, .slice none 0 0] 24 (0, 0)))
    (hO : Own b (gx W6 x7) 61 3 (.slice A7 m c7) m (smC f m)) : SerPost w den f m 0 (.returned (.tuple #[serV den A7 m c7, .int .i64 0])) (gx ((W6.setCell ⟨K, 0, none⟩ u).setCell ⟨K, 1, none⟩ v) x7) := by
  have hl := R6.lt
  have ne := own_ne_at hO R6.gx (by decide)
  have e : gx ((W6.setCell ⟨K, 0, none⟩ u).setCell ⟨K, 1, none⟩ v) x7 = ((gx W6 x7).setCell ⟨K, 0, none⟩ u).setCell ⟨K, 1, none⟩ v := by
    rw [setCell_gx _ _ _ _ _ _ hl, setCell_gx _ _ _ _ _ _ (by simpa using hl)]
  rw [e]
  exact SerPost.mk (Gx.setCell (Gx.setCell (Gx.gx hG) (by omega)) (by omega)) ((hO.setc ne).setc ne).sm
set_option maxHeartbeats 4000000 in
set_option maxRecDepth 100000 in
theorem Part_go (den : Int) (g : Nat → Sm) (n c : Nat) (A : Option Addr) (hN : A = none → n = 0 ∧ c = 0) (hnc : n ≤ c) (fr to : Int) (w : World) (hL : SmAt w g n A)
    (h0 : serE den g n = 0) (h1 : 0 ≤ fr) (h2 : fr ≤ to) (h3 : to ≤ 1099511627777) :
    Calls Tryd.prog 17 #[serV den A n c, .int .i64 fr, .int .i64 to] w (SerPost w den (ptF g (aheadN g fr n)) (aheadN g to n - aheadN g fr n) 0) := by
  obtain ⟨_, hn, hG⟩ := goodS_of h0
  have hLw : SmAt ((w.alloc (.cells #[.int .i64 den, .slice A n c] 24)).alloc (.cells #[.int .i64 0, .slice none 0 0] 24)) g n A := hL.alloc.alloc
  have HC := fun W h => Check_any den g n c A W h
  rw [h0] at HC
  clear h0
  have HA := Lib.hid (fun W t (h : SmAt W g n A) => ahead_any g n c A t W h hn hG)
  have m1 := aheadN_le g to n
  have m2 := aheadN_mono g h2 n
  have k1 : decide (fr < 0) = false := decide_eq_false (by omega)
  have k2 : decide (to < fr) = false := decide_eq_false (by omega)
  have k3 : decide (1099511627777 < to) = false := decide_eq_false (by omega)
  have HA1 := Lib.hid (fun W (h : SmAt W g n A) => HA.out W fr h)
  have HA2 := Lib.hid (fun W (h : SmAt W g n A) => HA.out W to h)
  clear HA
  generalize aheadN g fr n = i at *
  generalize aheadN g to n = j at *
  cases A with
  | none =>
    obtain ⟨rfl, rfl⟩ := hN rfl
    obtain ⟨rfl, rfl⟩ : i = 0 ∧ j = 0 := by omega
    go_enter Tryd.func17, Tryd.ntmps17
    go_wp2_with (go_at_call 12; refine (HC _ hLw).mono ?_; rintro e w' ⟨rfl, z1, rfl⟩)
    obtain ⟨W1, hW1⟩ : ∃ W1, W1 = gx ((w.alloc (.cells #[.int .i64 den, .slice none 0 0] 24)).alloc (.cells #[.int .i64 0, .slice none 0 0] 24)) z1 := ⟨_, rfl⟩
    rw [← hW1]
    have G1 : ∃ x, W1 = gx w x := by rw [hW1]; exact (by repeat (first | (with_reducible exact Gx.refl _) | (with_reducible assumption) | (with_reducible refine Gx.gx ?_) | (with_reducible refine Gx.alloc ?_) | (with_reducible refine Gx.drew ?_) | (with_reducible refine Gx.drewN ?_) | (with_reducible refine Gx.setRow ?_ (by first | omega | (simp; done) | (simp <;> omega))) | (with_reducible refine Gx.setCell ?_ (by first | omega | (simp; done) | (simp <;> omega)))))
    have S1 : At W1 w.heap.size (.cells #[.int .i64 den, .slice none 0 0] 24 (0, 0)) := by rw [hW1]; (focus (repeat (first | (with_reducible assumption) | (with_reducible exact At.new _ _) | (with_reducible refine At.row ?_) | ((with_reducible refine At.row_other ?_ ?_); rotate_left; (focus (simp <;> omega))) | (with_reducible refine At.app ?_) | (with_reducible refine At.tick ?_) | (with_reducible refine At.gx ?_) | ((with_reducible refine At.new' ?_); focus (simp; done)) | (with_reducible refine At.alloc ?_) | (with_reducible refine At.drew ?_) | (with_reducible exact Is.new _ _ _) | (with_reducible refine Is.row ?_) | ((with_reducible refine Is.row_other ?_ ?_); rotate_left; (focus (simp <;> omega))) | (with_reducible refine Is.gx ?_) | ((with_reducible refine Is.new' ?_); focus (simp; done)) | (with_reducible refine Is.alloc ?_) | (with_reducible refine Is.drew ?_))))
    have R1 : At W1 (w.heap.size + 1) (.cells #[.int .i64 0, .slice none 0 0] 24 (0, 0)) := by rw [hW1]; (focus (repeat (first | (with_reducible assumption) | (with_reducible exact At.new _ _) | (with_reducible refine At.row ?_) | ((with_reducible refine At.row_other ?_ ?_); rotate_left; (focus (simp <;> omega))) | (with_reducible refine At.app ?_) | (with_reducible refine At.tick ?_) | (with_reducible refine At.gx ?_) | ((with_reducible refine At.new' ?_); focus (simp; done)) | (with_reducible refine At.alloc ?_) | (with_reducible refine At.drew ?_) | (with_reducible exact Is.new _ _ _) | (with_reducible refine Is.row ?_) | ((with_reducible refine Is.row_other ?_ ?_); rotate_left; (focus (simp <;> omega))) | (with_reducible refine Is.gx ?_) | ((with_reducible refine Is.new' ?_); focus (simp; done)) | (with_reducible refine Is.alloc ?_) | (with_reducible refine Is.drew ?_))))
    clear hW1 hLw HC
    have s0 : W1.cell? ⟨w.heap.size, 0, none⟩ = some (.int .i64 den) := by rw [cell_of_row W1 _ _ _ _ _ S1]; rfl
    have s1 : W1.cell? ⟨w.heap.size, 1, none⟩ = some (.slice none 0 0) := by rw [cell_of_row W1 _ _ _ _ _ S1]; rfl
    go_region_held3 (fun W => (∃ x, W = gx w x) ∧ W.cell? ⟨w.heap.size, 1, none⟩ = some (.slice none 0 0))
      (refine ⟨(by repeat (first | (with_reducible exact Gx.refl _) | (with_reducible assumption) | (with_reducible refine Gx.gx ?_) | (with_reducible refine Gx.alloc ?_) | (with_reducible refine Gx.drew ?_) | (with_reducible refine Gx.drewN ?_) | (with_reducible refine Gx.setRow ?_ (by first | omega | (simp; done) | (simp <;> omega))) | (with_reducible refine Gx.setCell ?_ (by first | omega | (simp; done) | (simp <;> omega))))), ?_⟩ <;> first | assumption | exact cell_keep_gx ‹_› | go_keep | (simp [go_sem]; done))
      (first
      | (go_at_call 44; (with_reducible refine (HA1.out _ (smAt_of hL (by repeat (first | (with_reducible exact Gx.refl _) | (with_reducible assumption) | (with_reducible refine Gx.gx ?_) | (with_reducible refine Gx.alloc ?_) | (with_reducible refine Gx.drew ?_) | (with_reducible refine Gx.drewN ?_) | (with_reducible refine Gx.setRow ?_ (by first | omega | (simp; done) | (simp <;> omega))) | (with_reducible refine Gx.setCell ?_ (by first | omega | (simp; done) | (simp <;> omega))))))).mono ?_); rintro e W2 ⟨rfl, x1, rfl⟩)
      | (go_at_call 44; (with_reducible refine (HA2.out _ (smAt_of hL (by repeat (first | (with_reducible exact Gx.refl _) | (with_reducible assumption) | (with_reducible refine Gx.gx ?_) | (with_reducible refine Gx.alloc ?_) | (with_reducible refine Gx.drew ?_) | (with_reducible refine Gx.drewN ?_) | (with_reducible refine Gx.setRow ?_ (by first | omega | (simp; done) | (simp <;> omega))) | (with_reducible refine Gx.setCell ?_ (by first | omega | (simp; done) | (simp <;> omega))))))).mono ?_); rintro e W2 ⟨rfl, x2, rfl⟩))
    have L5 : SmAt w (ptF g 0) 0 none := SmAt.mk fun h => by omega
    go_wp2
    obtain ⟨W6, hW6⟩ : ∃ W6, W6 = gx W1 (x1.app x2) := ⟨_, rfl⟩
    rw [← hW6]
    have G6 : ∃ x, W6 = gx w x := by rw [hW6]; exact (by repeat (first | (with_reducible exact Gx.refl _) | (with_reducible assumption) | (with_reducible refine Gx.gx ?_) | (with_reducible refine Gx.alloc ?_) | (with_reducible refine Gx.drew ?_) | (with_reducible refine Gx.drewN ?_) | (with_reducible refine Gx.setRow ?_ (by first | omega | (simp; done) | (simp <;> omega))) | (with_reducible refine Gx.setCell ?_ (by first | omega | (simp; done) | (simp <;> omega)))))
    have S6 : At W6 w.heap.size (.cells #[.int .i64 den, .slice none 0 0] 24 (0, 0)) := by rw [hW6]; exact S1.gx
    have R6 : At W6 (w.heap.size + 1) (.cells #[.int .i64 0, .slice none 0 0] 24 (0, 0)) := by rw [hW6]; exact R1.gx
    have L6 : SmAt W6 (ptF g 0) 0 none := by obtain ⟨x, hx⟩ := G6; rw [hx]; exact L5.gx
    clear hW6 S1 R1 s0 s1 L5
    have s0 : W6.cell? ⟨w.heap.size, 0, none⟩ = some (.int .i64 den) := by rw [cell_of_row W6 _ _ _ _ _ S6]; rfl
    have r0 : W6.cell? ⟨w.heap.size + 1, 0, none⟩ = some (.int .i64 0) := by rw [cell_of_row W6 _ _ _ _ _ R6]; rfl
    have r1 : W6.cell? ⟨w.heap.size + 1, 1, none⟩ = some (.slice none 0 0) := by rw [cell_of_row W6 _ _ _ _ _ R6]; rfl
    have f0 : W6.frozen? ⟨w.heap.size + 1, 0, none⟩ = false := R6.frz
    have f1 : W6.frozen? ⟨w.heap.size + 1, 1, none⟩ = false := R6.frz
    have l6 : w.heap.size + 1 < W6.heap.size := R6.lt
    go_region_held3 (fun W => (∃ x, W = gx w x) ∧ W.cell? ⟨w.heap.size, 0, none⟩ = some (.int .i64 den))
      (refine ⟨(by repeat (first | (with_reducible exact Gx.refl _) | (with_reducible assumption) | (with_reducible refine Gx.gx ?_) | (with_reducible refine Gx.alloc ?_) | (with_reducible refine Gx.drew ?_) | (with_reducible refine Gx.drewN ?_) | (with_reducible refine Gx.setRow ?_ (by first | omega | (simp; done) | (simp <;> omega))) | (with_reducible refine Gx.setCell ?_ (by first | omega | (simp; done) | (simp <;> omega))))), ?_⟩ <;> first | assumption | exact cell_keep_gx (setc_other (setc_other s0 (fun e => by injection e with e1; omega)) (fun e => by injection e with e1; omega)) | exact cell_keep_gx ‹_› | exact setc_other (setc_other (by assumption) (fun e => by injection e with e1; omega)) (fun e => by injection e with e1; omega) | exact setc_other (setc_other (cell_keep_gx (by assumption)) (fun e => by injection e with e1; omega)) (fun e => by injection e with e1; omega) | go_keep | (simp [go_sem]; done))
      (first
      | (go_at_call 45; refine (Clone_any _ _ _ _ _ (smAt_of L6 (by first | exact Gx.refl _ | exact Gx.drew (Gx.refl _))) (fun _ => ⟨rfl, rfl⟩) (by omega)).mono ?_; rintro e W7 ⟨A7, c7, x7, rfl, rfl, hO⟩))
    all_goals go_wp2
    all_goals refine bodyPost_ret (v := .tuple #[serV den A7 0 c7, .int .i64 0]) (by simp [results, Tryd.results17, go_sem, l6, r0, r1]) rfl ?_
    all_goals exact Part_fin G6 (by omega) R6 (by simpa only [gx_drew] using hO)
  | some ad =>
    have hij : i ≤ j := m2
    have hjn : j ≤ n := m1
    have y1 : (0 : Int) ≤ (i : Int) := by omega
    have y2 : (i : Int) ≤ (j : Int) := by omega
    have y3 : (j : Int) ≤ (c : Int) := by omega
    have y4 : (0 : Int) ≤ (j : Int) := by omega
    have y5 : (i : Int) ≤ (c : Int) := by omega
    go_enter Tryd.func17, Tryd.ntmps17
    go_wp2_with (go_at_call 12; refine (HC _ hLw).mono ?_; rintro e w' ⟨rfl, z1, rfl⟩)
    obtain ⟨W1, hW1⟩ : ∃ W1, W1 = gx ((w.alloc (.cells #[.int .i64 den, .slice (some ad) n c] 24)).alloc (.cells #[.int .i64 0, .slice none 0 0] 24)) z1 := ⟨_, rfl⟩
    rw [← hW1]
    have G1 : ∃ x, W1 = gx w x := by rw [hW1]; exact (by repeat (first | (with_reducible exact Gx.refl _) | (with_reducible assumption) | (with_reducible refine Gx.gx ?_) | (with_reducible refine Gx.alloc ?_) | (with_reducible refine Gx.drew ?_) | (with_reducible refine Gx.drewN ?_) | (with_reducible refine Gx.setRow ?_ (by first | omega | (simp; done) | (simp <;> omega))) | (with_reducible refine Gx.setCell ?_ (by first | omega | (simp; done) | (simp <;> omega)))))
    have S1 : At W1 w.heap.size (.cells #[.int .i64 den, .slice (some ad) n c] 24 (0, 0)) := by rw [hW1]; (focus (repeat (first | (with_reducible assumption) | (with_reducible exact At.new _ _) | (with_reducible refine At.row ?_) | ((with_reducible refine At.row_other ?_ ?_); rotate_left; (focus (simp <;> omega))) | (with_reducible refine At.app ?_) | (with_reducible refine At.tick ?_) | (with_reducible refine At.gx ?_) | ((with_reducible refine At.new' ?_); focus (simp; done)) | (with_reducible refine At.alloc ?_) | (with_reducible refine At.drew ?_) | (with_reducible exact Is.new _ _ _) | (with_reducible refine Is.row ?_) | ((with_reducible refine Is.row_other ?_ ?_); rotate_left; (focus (simp <;> omega))) | (with_reducible refine Is.gx ?_) | ((with_reducible refine Is.new' ?_); focus (simp; done)) | (with_reducible refine Is.alloc ?_) | (with_reducible refine Is.drew ?_))))
    have R1 : At W1 (w.heap.size + 1) (.cells #[.int .i64 0, .slice none 0 0] 24 (0, 0)) := by rw [hW1]; (focus (repeat (first | (with_reducible assumption) | (with_reducible exact At.new _ _) | (with_reducible refine At.row ?_) | ((with_reducible refine At.row_other ?_ ?_); rotate_left; (focus (simp <;> omega))) | (with_reducible refine At.app ?_) | (with_reducible refine At.tick ?_) | (with_reducible refine At.gx ?_) | ((with_reducible refine At.new' ?_); focus (simp; done)) | (with_reducible refine At.alloc ?_) | (with_reducible refine At.drew ?_) | (with_reducible exact Is.new _ _ _) | (with_reducible refine Is.row ?_) | ((with_reducible refine Is.row_other ?_ ?_); rotate_left; (focus (simp <;> omega))) | (with_reducible refine Is.gx ?_) | ((with_reducible refine Is.new' ?_); focus (simp; done)) | (with_reducible refine Is.alloc ?_) | (with_reducible refine Is.drew ?_))))
    clear hW1 hLw HC
    have s0 : W1.cell? ⟨w.heap.size, 0, none⟩ = some (.int .i64 den) := by rw [cell_of_row W1 _ _ _ _ _ S1]; rfl
    have s1 : W1.cell? ⟨w.heap.size, 1, none⟩ = some (.slice (some ad) n c) := by rw [cell_of_row W1 _ _ _ _ _ S1]; rfl
    go_region_held3 (fun W => (∃ x, W = gx w x) ∧ W.cell? ⟨w.heap.size, 1, none⟩ = some (.slice (some ad) n c))
      (refine ⟨(by repeat (first | (with_reducible exact Gx.refl _) | (with_reducible assumption) | (with_reducible refine Gx.gx ?_) | (with_reducible refine Gx.alloc ?_) | (with_reducible refine Gx.drew ?_) | (with_reducible refine Gx.drewN ?_) | (with_reducible refine Gx.setRow ?_ (by first | omega | (simp; done) | (simp <;> omega))) | (with_reducible refine Gx.setCell ?_ (by first | omega | (simp; done) | (simp <;> omega))))), ?_⟩ <;> first | assumption | exact cell_keep_gx ‹_› | go_keep | (simp [go_sem]; done))
      (first
      | (go_at_call 44; (with_reducible refine (HA1.out _ (smAt_of hL (by repeat (first | (with_reducible exact Gx.refl _) | (with_reducible assumption) | (with_reducible refine Gx.gx ?_) | (with_reducible refine Gx.alloc ?_) | (with_reducible refine Gx.drew ?_) | (with_reducible refine Gx.drewN ?_) | (with_reducible refine Gx.setRow ?_ (by first | omega | (simp; done) | (simp <;> omega))) | (with_reducible refine Gx.setCell ?_ (by first | omega | (simp; done) | (simp <;> omega))))))).mono ?_); rintro e W2 ⟨rfl, x1, rfl⟩)
      | (go_at_call 44; (with_reducible refine (HA2.out _ (smAt_of hL (by repeat (first | (with_reducible exact Gx.refl _) | (with_reducible assumption) | (with_reducible refine Gx.gx ?_) | (with_reducible refine Gx.alloc ?_) | (with_reducible refine Gx.drew ?_) | (with_reducible refine Gx.drewN ?_) | (with_reducible refine Gx.setRow ?_ (by first | omega | (simp; done) | (simp <;> omega))) | (with_reducible refine Gx.setCell ?_ (by first | omega | (simp; done) | (simp <;> omega))))))).mono ?_); rintro e W2 ⟨rfl, x2, rfl⟩))
    have L5 := smAt_sub' (i := i) hL hjn hnc
    obtain ⟨A5, hA5⟩ : ∃ A5, A5 = (if c = i then some ad else some (ad.add (i * 3))) := ⟨_, rfl⟩
    rw [← hA5] at L5 ⊢
    have hN5 : Hid (A5 = none → j - i = 0 ∧ c - i = 0) := by rw [hA5]; exact Lib.hid (by split <;> (intro h; cases h))
    clear hA5
    go_wp2
    obtain ⟨W6, hW6⟩ : ∃ W6, W6 = gx W1 (x1.app x2) := ⟨_, rfl⟩
    rw [← hW6]
    have G6 : ∃ x, W6 = gx w x := by rw [hW6]; exact (by repeat (first | (with_reducible exact Gx.refl _) | (with_reducible assumption) | (with_reducible refine Gx.gx ?_) | (with_reducible refine Gx.alloc ?_) | (with_reducible refine Gx.drew ?_) | (with_reducible refine Gx.drewN ?_) | (with_reducible refine Gx.setRow ?_ (by first | omega | (simp; done) | (simp <;> omega))) | (with_reducible refine Gx.setCell ?_ (by first | omega | (simp; done) | (simp <;> omega)))))
    have S6 : At W6 w.heap.size (.cells #[.int .i64 den, .slice (some ad) n c] 24 (0, 0)) := by rw [hW6]; exact S1.gx
    have R6 : At W6 (w.heap.size + 1) (.cells #[.int .i64 0, .slice none 0 0] 24 (0, 0)) := by rw [hW6]; exact R1.gx
    have L6 : SmAt W6 (ptF g i) (j - i) A5 := by obtain ⟨x, hx⟩ := G6; rw [hx]; exact L5.gx
    clear hW6 S1 R1 s0 s1 L5
    have s0 : W6.cell? ⟨w.heap.size, 0, none⟩ = some (.int .i64 den) := by rw [cell_of_row W6 _ _ _ _ _ S6]; rfl
    have r0 : W6.cell? ⟨w.heap.size + 1, 0, none⟩ = some (.int .i64 0) := by rw [cell_of_row W6 _ _ _ _ _ R6]; rfl
    have r1 : W6.cell? ⟨w.heap.size + 1, 1, none⟩ = some (.slice none 0 0) := by rw [cell_of_row W6 _ _ _ _ _ R6]; rfl
    have f0 : W6.frozen? ⟨w.heap.size + 1, 0, none⟩ = false := R6.frz
    have f1 : W6.frozen? ⟨w.heap.size + 1, 1, none⟩ = false := R6.frz
    have l6 : w.heap.size + 1 < W6.heap.size := R6.lt
    go_region_held3 (fun W => (∃ x, W = gx w x) ∧ W.cell? ⟨w.heap.size, 0, none⟩ = some (.int .i64 den))
      (refine ⟨(by repeat (first | (with_reducible exact Gx.refl _) | (with_reducible assumption) | (with_reducible refine Gx.gx ?_) | (with_reducible refine Gx.alloc ?_) | (with_reducible refine Gx.drew ?_) | (with_reducible refine Gx.drewN ?_) | (with_reducible refine Gx.setRow ?_ (by first | omega | (simp; done) | (simp <;> omega))) | (with_reducible refine Gx.setCell ?_ (by first | omega | (simp; done) | (simp <;> omega))))), ?_⟩ <;> first | assumption | exact cell_keep_gx (setc_other (setc_other s0 (fun e => by injection e with e1; omega)) (fun e => by injection e with e1; omega)) | exact cell_keep_gx ‹_› | exact setc_other (setc_other (by assumption) (fun e => by injection e with e1; omega)) (fun e => by injection e with e1; omega) | exact setc_other (setc_other (cell_keep_gx (by assumption)) (fun e => by injection e with e1; omega)) (fun e => by injection e with e1; omega) | go_keep | (simp [go_sem]; done))
      (first
      | (go_at_call 45; refine (Clone_any _ _ _ _ _ (smAt_of L6 (by first | exact Gx.refl _ | exact Gx.drew (Gx.refl _))) hN5.out (by omega)).mono ?_; rintro e W7 ⟨A7, c7, x7, rfl, rfl, hO⟩))
    all_goals go_wp2
    all_goals refine bodyPost_ret (v := .tuple #[serV den A7 (j - i) c7, .int .i64 0]) (by simp [results, Tryd.results17, go_sem, l6, r0, r1]) rfl ?_
    all_goals exact Part_fin G6 (by omega) R6 (by simpa only [gx_drew] using hO)
end Go.Proofs.YtjlokobgdkkppaaDoor
