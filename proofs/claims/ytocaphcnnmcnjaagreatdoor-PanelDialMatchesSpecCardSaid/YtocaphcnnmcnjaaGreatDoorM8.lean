/-
  Texts that this claim leans on, merged: PRIns, PCm, PCi, PHas.
-/
import Derived.Test.YtocaphcnnmcnjaaGreatDoorM7
import Derived.Test.YtocaphcnnmcnjaaGreatDoorM4
import Derived.Test.YtocaphcnnmcnjaaGreatDoorM2

/-
  Instruments: the reference's CheckInstrument, way by way over letters.
-/
namespace Go.Proofs.YtocaphcnnmcnjaaGreatDoor
open Go.RowKit
-- AT2
-- AT3

theorem str_none {s : ByteArray} (h : s.size = 0) : (s.toList == []) = true ∧ ([] == s.toList) = true := by
  have e : s.toList = [] := by rw [ByteArray.toList_eq, ← List.length_eq_zero_iff, Array.length_toList]; exact h
  rw [e]; exact ⟨rfl, rfl⟩
theorem str_some {s : ByteArray} (h : 0 < s.size) : (s.toList == []) = false ∧ ([] == s.toList) = false := by
  have e : s.toList ≠ [] := by
    intro e
    have h1 : s.toList.length = s.size := by rw [ByteArray.toList_eq, Array.length_toList]; rfl
    rw [e] at h1; simp at h1; omega
  exact ⟨beq_eq_false_iff_ne.2 e, beq_eq_false_iff_ne.2 (Ne.symm e)⟩
set_option maxHeartbeats 4000000 in
set_option maxRecDepth 100000 in
theorem Rins_a (kd : Int) (nm tr : ByteArray) (pl lo hi st : Int) (Z : Option Addr) (zn zc : Nat) (op nn : Int) (lt : Bool) (sz : Int) (w : World)
    (hc : kd < 1) :
    Calls Tryz.prog 8 #[inV kd nm tr pl lo hi st Z zn zc op nn lt sz] w fun e w' => e = .returned (.int .i64 7) ∧ ∃ x, w' = gx w x := by
  have h0 := hc
  clear hc
  have G0 := Lib.hid (fun W => outsideP_any kd 1 6 true (.inr (.inl ⟨rfl, by omega⟩)) W)
  clear h0
  go_enter Tryz.func8, Tryz.ntmps8
  go_wp2_with (first | go_skip | (go_at_call 30; with_reducible refine (G0.out _).mono ?_; rintro e w' ⟨rfl, rfl⟩))
  go_ret
  exact ⟨rfl, (by repeat (first | (with_reducible exact Gx.refl _) | (with_reducible assumption) | (with_reducible refine Gx.gx ?_) | (with_reducible refine Gx.alloc ?_) | (with_reducible refine Gx.drew ?_) | (with_reducible refine Gx.drewN ?_) | (with_reducible refine Gx.setRow ?_ (by first | omega | (simp; done) | (simp <;> omega))) | (with_reducible refine Gx.setCell ?_ (by first | omega | (simp; done) | (simp <;> omega)))))⟩
set_option maxHeartbeats 4000000 in
set_option maxRecDepth 100000 in
theorem Rins_b (kd : Int) (nm tr : ByteArray) (pl lo hi st : Int) (Z : Option Addr) (zn zc : Nat) (op nn : Int) (lt : Bool) (sz : Int) (w : World)
    (hc : 6 < kd) :
    Calls Tryz.prog 8 #[inV kd nm tr pl lo hi st Z zn zc op nn lt sz] w fun e w' => e = .returned (.int .i64 7) ∧ ∃ x, w' = gx w x := by
  have h0 := hc
  clear hc
  have G0 := Lib.hid (fun W => outsideP_any kd 1 6 true (.inr (.inr ⟨rfl, by omega, by omega⟩)) W)
  clear h0
  go_enter Tryz.func8, Tryz.ntmps8
  go_wp2_with (first | go_skip | (go_at_call 30; with_reducible refine (G0.out _).mono ?_; rintro e w' ⟨rfl, rfl⟩))
  go_ret
  exact ⟨rfl, (by repeat (first | (with_reducible exact Gx.refl _) | (with_reducible assumption) | (with_reducible refine Gx.gx ?_) | (with_reducible refine Gx.alloc ?_) | (with_reducible refine Gx.drew ?_) | (with_reducible refine Gx.drewN ?_) | (with_reducible refine Gx.setRow ?_ (by first | omega | (simp; done) | (simp <;> omega))) | (with_reducible refine Gx.setCell ?_ (by first | omega | (simp; done) | (simp <;> omega)))))⟩
set_option maxHeartbeats 4000000 in
set_option maxRecDepth 100000 in
theorem Rins_c (kd : Int) (nm tr : ByteArray) (pl lo hi st : Int) (Z : Option Addr) (zn zc : Nat) (op nn : Int) (lt : Bool) (sz : Int) (NB : Bool) (w : World)
    (H1 : Hid (∀ W, (∃ x, W = gx w x) → Calls Tryz.prog 31 #[.string nm] W fun e W' => e = .returned (.bool NB) ∧ ∃ x, W' = gx W x))
    (hc : 1 ≤ kd ∧ kd ≤ 6 ∧ NB = false) :
    Calls Tryz.prog 8 #[inV kd nm tr pl lo hi st Z zn zc op nn lt sz] w fun e w' => e = .returned (.int .i64 8) ∧ ∃ x, w' = gx w x := by
  obtain ⟨h0, h1, rfl⟩ := hc
  have G0 := Lib.hid (fun W => outsideP_any kd 1 6 false (.inl ⟨rfl, by omega, by omega⟩) W)
  clear h0 h1
  go_enter Tryz.func8, Tryz.ntmps8
  go_wp2_with (first | go_skip | (go_at_call 31; refine (H1.out _ (by repeat (first | (with_reducible exact Gx.refl _) | (with_reducible assumption) | (with_reducible refine Gx.gx ?_) | (with_reducible refine Gx.alloc ?_) | (with_reducible refine Gx.drew ?_) | (with_reducible refine Gx.drewN ?_) | (with_reducible refine Gx.setRow ?_ (by first | omega | (simp; done) | (simp <;> omega))) | (with_reducible refine Gx.setCell ?_ (by first | omega | (simp; done) | (simp <;> omega)))))).mono ?_; rintro e w' ⟨rfl, x1, rfl⟩) | (go_at_call 30; with_reducible refine (G0.out _).mono ?_; rintro e w' ⟨rfl, rfl⟩))
  go_ret
  exact ⟨rfl, (by repeat (first | (with_reducible exact Gx.refl _) | (with_reducible assumption) | (with_reducible refine Gx.gx ?_) | (with_reducible refine Gx.alloc ?_) | (with_reducible refine Gx.drew ?_) | (with_reducible refine Gx.drewN ?_) | (with_reducible refine Gx.setRow ?_ (by first | omega | (simp; done) | (simp <;> omega))) | (with_reducible refine Gx.setCell ?_ (by first | omega | (simp; done) | (simp <;> omega)))))⟩
set_option maxHeartbeats 4000000 in
set_option maxRecDepth 100000 in
theorem Rins_d (kd : Int) (nm tr : ByteArray) (pl lo hi st : Int) (Z : Option Addr) (zn zc : Nat) (op nn : Int) (lt : Bool) (sz : Int) (NB : Bool) (w : World)
    (H1 : Hid (∀ W, (∃ x, W = gx w x) → Calls Tryz.prog 31 #[.string nm] W fun e W' => e = .returned (.bool NB) ∧ ∃ x, W' = gx W x))
    (hc : 1 ≤ kd ∧ kd ≤ 6 ∧ NB = true ∧ tr.size = 0) :
    Calls Tryz.prog 8 #[inV kd nm tr pl lo hi st Z zn zc op nn lt sz] w fun e w' => e = .returned (.int .i64 8) ∧ ∃ x, w' = gx w x := by
  obtain ⟨h0, h1, rfl, h3⟩ := hc
  have G0 := Lib.hid (fun W => outsideP_any kd 1 6 false (.inl ⟨rfl, by omega, by omega⟩) W)
  obtain ⟨s1, s2⟩ := str_none (s := tr) (by assumption)
  clear h0 h1 h3
  go_enter Tryz.func8, Tryz.ntmps8
  go_wp2_with (first | go_skip | (go_at_call 31; refine (H1.out _ (by repeat (first | (with_reducible exact Gx.refl _) | (with_reducible assumption) | (with_reducible refine Gx.gx ?_) | (with_reducible refine Gx.alloc ?_) | (with_reducible refine Gx.drew ?_) | (with_reducible refine Gx.drewN ?_) | (with_reducible refine Gx.setRow ?_ (by first | omega | (simp; done) | (simp <;> omega))) | (with_reducible refine Gx.setCell ?_ (by first | omega | (simp; done) | (simp <;> omega)))))).mono ?_; rintro e w' ⟨rfl, x1, rfl⟩) | (go_at_call 30; with_reducible refine (G0.out _).mono ?_; rintro e w' ⟨rfl, rfl⟩))
  go_ret
  exact ⟨rfl, (by repeat (first | (with_reducible exact Gx.refl _) | (with_reducible assumption) | (with_reducible refine Gx.gx ?_) | (with_reducible refine Gx.alloc ?_) | (with_reducible refine Gx.drew ?_) | (with_reducible refine Gx.drewN ?_) | (with_reducible refine Gx.setRow ?_ (by first | omega | (simp; done) | (simp <;> omega))) | (with_reducible refine Gx.setCell ?_ (by first | omega | (simp; done) | (simp <;> omega)))))⟩
set_option maxHeartbeats 4000000 in
set_option maxRecDepth 100000 in
theorem Rins_e (kd : Int) (nm tr : ByteArray) (pl lo hi st : Int) (Z : Option Addr) (zn zc : Nat) (op nn : Int) (lt : Bool) (sz : Int) (NB : Bool) (w : World)
    (H1 : Hid (∀ W, (∃ x, W = gx w x) → Calls Tryz.prog 31 #[.string nm] W fun e W' => e = .returned (.bool NB) ∧ ∃ x, W' = gx W x))
    (hc : 1 ≤ kd ∧ kd ≤ 6 ∧ NB = true ∧ 30 < tr.size) :
    Calls Tryz.prog 8 #[inV kd nm tr pl lo hi st Z zn zc op nn lt sz] w fun e w' => e = .returned (.int .i64 8) ∧ ∃ x, w' = gx w x := by
  obtain ⟨h0, h1, rfl, h3⟩ := hc
  have G0 := Lib.hid (fun W => outsideP_any kd 1 6 false (.inl ⟨rfl, by omega, by omega⟩) W)
  obtain ⟨s1, s2⟩ := str_some (s := tr) (by omega)
  have k1 : decide (30 < (tr.size : Int)) = true := decide_eq_true (by omega)
  clear h0 h1 h3
  go_enter Tryz.func8, Tryz.ntmps8
  go_wp2_with (first | go_skip | (go_at_call 31; refine (H1.out _ (by repeat (first | (with_reducible exact Gx.refl _) | (with_reducible assumption) | (with_reducible refine Gx.gx ?_) | (with_reducible refine Gx.alloc ?_) | (with_reducible refine Gx.drew ?_) | (with_reducible refine Gx.drewN ?_) | (with_reducible refine Gx.setRow ?_ (by first | omega | (simp; done) | (simp <;> omega))) | (with_reducible refine Gx.setCell ?_ (by first | omega | (simp; done) | (simp <;> omega)))))).mono ?_; rintro e w' ⟨rfl, x1, rfl⟩) | (go_at_call 30; with_reducible refine (G0.out _).mono ?_; rintro e w' ⟨rfl, rfl⟩))
  go_ret
  exact ⟨rfl, (by repeat (first | (with_reducible exact Gx.refl _) | (with_reducible assumption) | (with_reducible refine Gx.gx ?_) | (with_reducible refine Gx.alloc ?_) | (with_reducible refine Gx.drew ?_) | (with_reducible refine Gx.drewN ?_) | (with_reducible refine Gx.setRow ?_ (by first | omega | (simp; done) | (simp <;> omega))) | (with_reducible refine Gx.setCell ?_ (by first | omega | (simp; done) | (simp <;> omega)))))⟩
set_option maxHeartbeats 4000000 in
set_option maxRecDepth 100000 in
theorem Rins_f (kd : Int) (nm tr : ByteArray) (pl lo hi st : Int) (Z : Option Addr) (zn zc : Nat) (op nn : Int) (lt : Bool) (sz : Int) (NB : Bool) (U : Bool) (w : World)
    (H1 : Hid (∀ W, (∃ x, W = gx w x) → Calls Tryz.prog 31 #[.string nm] W fun e W' => e = .returned (.bool NB) ∧ ∃ x, W' = gx W x))
    (H2 : Hid (∀ W, (∃ x, W = gx w x) → Calls Tryz.prog 32 #[inV kd nm tr pl lo hi st Z zn zc op nn lt sz] W fun e W' => e = .returned (.bool U) ∧ ∃ x, W' = gx W x))
    (hc : 1 ≤ kd ∧ kd ≤ 6 ∧ NB = true ∧ 0 < tr.size ∧ tr.size ≤ 30 ∧ U = true) :
    Calls Tryz.prog 8 #[inV kd nm tr pl lo hi st Z zn zc op nn lt sz] w fun e w' => e = .returned (.int .i64 2) ∧ ∃ x, w' = gx w x := by
  obtain ⟨h0, h1, rfl, h3, h4, rfl⟩ := hc
  have G0 := Lib.hid (fun W => outsideP_any kd 1 6 false (.inl ⟨rfl, by omega, by omega⟩) W)
  obtain ⟨s1, s2⟩ := str_some (s := tr) (by omega)
  have k1 : decide (30 < (tr.size : Int)) = false := decide_eq_false (by omega)
  clear h0 h1 h3 h4
  go_enter Tryz.func8, Tryz.ntmps8
  go_wp2_with (first | go_skip | (go_at_call 31; refine (H1.out _ (by repeat (first | (with_reducible exact Gx.refl _) | (with_reducible assumption) | (with_reducible refine Gx.gx ?_) | (with_reducible refine Gx.alloc ?_) | (with_reducible refine Gx.drew ?_) | (with_reducible refine Gx.drewN ?_) | (with_reducible refine Gx.setRow ?_ (by first | omega | (simp; done) | (simp <;> omega))) | (with_reducible refine Gx.setCell ?_ (by first | omega | (simp; done) | (simp <;> omega)))))).mono ?_; rintro e w' ⟨rfl, x1, rfl⟩) | (go_at_call 32; refine (H2.out _ (by repeat (first | (with_reducible exact Gx.refl _) | (with_reducible assumption) | (with_reducible refine Gx.gx ?_) | (with_reducible refine Gx.alloc ?_) | (with_reducible refine Gx.drew ?_) | (with_reducible refine Gx.drewN ?_) | (with_reducible refine Gx.setRow ?_ (by first | omega | (simp; done) | (simp <;> omega))) | (with_reducible refine Gx.setCell ?_ (by first | omega | (simp; done) | (simp <;> omega)))))).mono ?_; rintro e w' ⟨rfl, x2, rfl⟩) | (go_at_call 30; with_reducible refine (G0.out _).mono ?_; rintro e w' ⟨rfl, rfl⟩))
  go_ret
  exact ⟨rfl, (by repeat (first | (with_reducible exact Gx.refl _) | (with_reducible assumption) | (with_reducible refine Gx.gx ?_) | (with_reducible refine Gx.alloc ?_) | (with_reducible refine Gx.drew ?_) | (with_reducible refine Gx.drewN ?_) | (with_reducible refine Gx.setRow ?_ (by first | omega | (simp; done) | (simp <;> omega))) | (with_reducible refine Gx.setCell ?_ (by first | omega | (simp; done) | (simp <;> omega)))))⟩
set_option maxHeartbeats 4000000 in
set_option maxRecDepth 100000 in
theorem Rins_g (kd : Int) (nm tr : ByteArray) (pl lo hi st : Int) (Z : Option Addr) (zn zc : Nat) (op nn : Int) (lt : Bool) (sz : Int) (NB : Bool) (U : Bool) (w : World)
    (H1 : Hid (∀ W, (∃ x, W = gx w x) → Calls Tryz.prog 31 #[.string nm] W fun e W' => e = .returned (.bool NB) ∧ ∃ x, W' = gx W x))
    (H2 : Hid (∀ W, (∃ x, W = gx w x) → Calls Tryz.prog 32 #[inV kd nm tr pl lo hi st Z zn zc op nn lt sz] W fun e W' => e = .returned (.bool U) ∧ ∃ x, W' = gx W x))
    (hc : 1 ≤ kd ∧ kd ≤ 6 ∧ NB = true ∧ 0 < tr.size ∧ tr.size ≤ 30 ∧ U = false ∧ pl < 0) :
    Calls Tryz.prog 8 #[inV kd nm tr pl lo hi st Z zn zc op nn lt sz] w fun e w' => e = .returned (.int .i64 9) ∧ ∃ x, w' = gx w x := by
  obtain ⟨h0, h1, rfl, h3, h4, rfl, h6⟩ := hc
  have G0 := Lib.hid (fun W => outsideP_any kd 1 6 false (.inl ⟨rfl, by omega, by omega⟩) W)
  have G1 := Lib.hid (fun W => outsideP_any pl 0 6 true (.inr (.inl ⟨rfl, by omega⟩)) W)
  obtain ⟨s1, s2⟩ := str_some (s := tr) (by omega)
  have k1 : decide (30 < (tr.size : Int)) = false := decide_eq_false (by omega)
  clear h0 h1 h3 h4 h6
  go_enter Tryz.func8, Tryz.ntmps8
  go_wp2_with (first | go_skip | (go_at_call 31; refine (H1.out _ (by repeat (first | (with_reducible exact Gx.refl _) | (with_reducible assumption) | (with_reducible refine Gx.gx ?_) | (with_reducible refine Gx.alloc ?_) | (with_reducible refine Gx.drew ?_) | (with_reducible refine Gx.drewN ?_) | (with_reducible refine Gx.setRow ?_ (by first | omega | (simp; done) | (simp <;> omega))) | (with_reducible refine Gx.setCell ?_ (by first | omega | (simp; done) | (simp <;> omega)))))).mono ?_; rintro e w' ⟨rfl, x1, rfl⟩) | (go_at_call 32; refine (H2.out _ (by repeat (first | (with_reducible exact Gx.refl _) | (with_reducible assumption) | (with_reducible refine Gx.gx ?_) | (with_reducible refine Gx.alloc ?_) | (with_reducible refine Gx.drew ?_) | (with_reducible refine Gx.drewN ?_) | (with_reducible refine Gx.setRow ?_ (by first | omega | (simp; done) | (simp <;> omega))) | (with_reducible refine Gx.setCell ?_ (by first | omega | (simp; done) | (simp <;> omega)))))).mono ?_; rintro e w' ⟨rfl, x2, rfl⟩) | (go_at_call 30; with_reducible refine (G0.out _).mono ?_; rintro e w' ⟨rfl, rfl⟩) | (go_at_call 30; with_reducible refine (G1.out _).mono ?_; rintro e w' ⟨rfl, rfl⟩))
  go_ret
  exact ⟨rfl, (by repeat (first | (with_reducible exact Gx.refl _) | (with_reducible assumption) | (with_reducible refine Gx.gx ?_) | (with_reducible refine Gx.alloc ?_) | (with_reducible refine Gx.drew ?_) | (with_reducible refine Gx.drewN ?_) | (with_reducible refine Gx.setRow ?_ (by first | omega | (simp; done) | (simp <;> omega))) | (with_reducible refine Gx.setCell ?_ (by first | omega | (simp; done) | (simp <;> omega)))))⟩
set_option maxHeartbeats 4000000 in
set_option maxRecDepth 100000 in
theorem Rins_h (kd : Int) (nm tr : ByteArray) (pl lo hi st : Int) (Z : Option Addr) (zn zc : Nat) (op nn : Int) (lt : Bool) (sz : Int) (NB : Bool) (U : Bool) (w : World)
    (H1 : Hid (∀ W, (∃ x, W = gx w x) → Calls Tryz.prog 31 #[.string nm] W fun e W' => e = .returned (.bool NB) ∧ ∃ x, W' = gx W x))
    (H2 : Hid (∀ W, (∃ x, W = gx w x) → Calls Tryz.prog 32 #[inV kd nm tr pl lo hi st Z zn zc op nn lt sz] W fun e W' => e = .returned (.bool U) ∧ ∃ x, W' = gx W x))
    (hc : 1 ≤ kd ∧ kd ≤ 6 ∧ NB = true ∧ 0 < tr.size ∧ tr.size ≤ 30 ∧ U = false ∧ 6 < pl) :
    Calls Tryz.prog 8 #[inV kd nm tr pl lo hi st Z zn zc op nn lt sz] w fun e w' => e = .returned (.int .i64 9) ∧ ∃ x, w' = gx w x := by
  obtain ⟨h0, h1, rfl, h3, h4, rfl, h6⟩ := hc
  have G0 := Lib.hid (fun W => outsideP_any kd 1 6 false (.inl ⟨rfl, by omega, by omega⟩) W)
  have G1 := Lib.hid (fun W => outsideP_any pl 0 6 true (.inr (.inr ⟨rfl, by omega, by omega⟩)) W)
  obtain ⟨s1, s2⟩ := str_some (s := tr) (by omega)
  have k1 : decide (30 < (tr.size : Int)) = false := decide_eq_false (by omega)
  clear h0 h1 h3 h4 h6
  go_enter Tryz.func8, Tryz.ntmps8
  go_wp2_with (first | go_skip | (go_at_call 31; refine (H1.out _ (by repeat (first | (with_reducible exact Gx.refl _) | (with_reducible assumption) | (with_reducible refine Gx.gx ?_) | (with_reducible refine Gx.alloc ?_) | (with_reducible refine Gx.drew ?_) | (with_reducible refine Gx.drewN ?_) | (with_reducible refine Gx.setRow ?_ (by first | omega | (simp; done) | (simp <;> omega))) | (with_reducible refine Gx.setCell ?_ (by first | omega | (simp; done) | (simp <;> omega)))))).mono ?_; rintro e w' ⟨rfl, x1, rfl⟩) | (go_at_call 32; refine (H2.out _ (by repeat (first | (with_reducible exact Gx.refl _) | (with_reducible assumption) | (with_reducible refine Gx.gx ?_) | (with_reducible refine Gx.alloc ?_) | (with_reducible refine Gx.drew ?_) | (with_reducible refine Gx.drewN ?_) | (with_reducible refine Gx.setRow ?_ (by first | omega | (simp; done) | (simp <;> omega))) | (with_reducible refine Gx.setCell ?_ (by first | omega | (simp; done) | (simp <;> omega)))))).mono ?_; rintro e w' ⟨rfl, x2, rfl⟩) | (go_at_call 30; with_reducible refine (G0.out _).mono ?_; rintro e w' ⟨rfl, rfl⟩) | (go_at_call 30; with_reducible refine (G1.out _).mono ?_; rintro e w' ⟨rfl, rfl⟩))
  go_ret
  exact ⟨rfl, (by repeat (first | (with_reducible exact Gx.refl _) | (with_reducible assumption) | (with_reducible refine Gx.gx ?_) | (with_reducible refine Gx.alloc ?_) | (with_reducible refine Gx.drew ?_) | (with_reducible refine Gx.drewN ?_) | (with_reducible refine Gx.setRow ?_ (by first | omega | (simp; done) | (simp <;> omega))) | (with_reducible refine Gx.setCell ?_ (by first | omega | (simp; done) | (simp <;> omega)))))⟩
set_option maxHeartbeats 4000000 in
set_option maxRecDepth 100000 in
theorem Rins_i (kd : Int) (nm tr : ByteArray) (pl lo hi st : Int) (Z : Option Addr) (zn zc : Nat) (op nn : Int) (lt : Bool) (sz : Int) (NB : Bool) (U : Bool) (DE : Int) (w : World)
    (H1 : Hid (∀ W, (∃ x, W = gx w x) → Calls Tryz.prog 31 #[.string nm] W fun e W' => e = .returned (.bool NB) ∧ ∃ x, W' = gx W x))
    (H2 : Hid (∀ W, (∃ x, W = gx w x) → Calls Tryz.prog 32 #[inV kd nm tr pl lo hi st Z zn zc op nn lt sz] W fun e W' => e = .returned (.bool U) ∧ ∃ x, W' = gx W x))
    (H3 : Hid (∀ W, (∃ x, W = gx w x) → Calls Tryz.prog 33 #[inV kd nm tr pl lo hi st Z zn zc op nn lt sz] W fun e W' => e = .returned (.int .i64 DE) ∧ ∃ x, W' = gx W x))
    (hc : kd = 2 ∧ NB = true ∧ 0 < tr.size ∧ tr.size ≤ 30 ∧ U = false ∧ 0 ≤ pl ∧ pl ≤ 6) :
    Calls Tryz.prog 8 #[inV kd nm tr pl lo hi st Z zn zc op nn lt sz] w fun e w' => e = .returned (.int .i64 DE) ∧ ∃ x, w' = gx w x := by
  obtain ⟨rfl, rfl, h2, h3, rfl, h5, h6⟩ := hc
  have G0 := Lib.hid (fun W => outsideP_any 2 1 6 false (.inl ⟨rfl, by omega, by omega⟩) W)
  have G1 := Lib.hid (fun W => outsideP_any pl 0 6 false (.inl ⟨rfl, by omega, by omega⟩) W)
  obtain ⟨s1, s2⟩ := str_some (s := tr) (by omega)
  have k1 : decide (30 < (tr.size : Int)) = false := decide_eq_false (by omega)
  clear h2 h3 h5 h6
  go_enter Tryz.func8, Tryz.ntmps8
  go_wp2_with (first | go_skip | (go_at_call 31; refine (H1.out _ (by repeat (first | (with_reducible exact Gx.refl _) | (with_reducible assumption) | (with_reducible refine Gx.gx ?_) | (with_reducible refine Gx.alloc ?_) | (with_reducible refine Gx.drew ?_) | (with_reducible refine Gx.drewN ?_) | (with_reducible refine Gx.setRow ?_ (by first | omega | (simp; done) | (simp <;> omega))) | (with_reducible refine Gx.setCell ?_ (by first | omega | (simp; done) | (simp <;> omega)))))).mono ?_; rintro e w' ⟨rfl, x1, rfl⟩) | (go_at_call 32; refine (H2.out _ (by repeat (first | (with_reducible exact Gx.refl _) | (with_reducible assumption) | (with_reducible refine Gx.gx ?_) | (with_reducible refine Gx.alloc ?_) | (with_reducible refine Gx.drew ?_) | (with_reducible refine Gx.drewN ?_) | (with_reducible refine Gx.setRow ?_ (by first | omega | (simp; done) | (simp <;> omega))) | (with_reducible refine Gx.setCell ?_ (by first | omega | (simp; done) | (simp <;> omega)))))).mono ?_; rintro e w' ⟨rfl, x2, rfl⟩) | (go_at_call 33; refine (H3.out _ (by repeat (first | (with_reducible exact Gx.refl _) | (with_reducible assumption) | (with_reducible refine Gx.gx ?_) | (with_reducible refine Gx.alloc ?_) | (with_reducible refine Gx.drew ?_) | (with_reducible refine Gx.drewN ?_) | (with_reducible refine Gx.setRow ?_ (by first | omega | (simp; done) | (simp <;> omega))) | (with_reducible refine Gx.setCell ?_ (by first | omega | (simp; done) | (simp <;> omega)))))).mono ?_; rintro e w' ⟨rfl, x3, rfl⟩) | (go_at_call 30; with_reducible refine (G0.out _).mono ?_; rintro e w' ⟨rfl, rfl⟩) | (go_at_call 30; with_reducible refine (G1.out _).mono ?_; rintro e w' ⟨rfl, rfl⟩))
  go_ret
  exact ⟨rfl, (by repeat (first | (with_reducible exact Gx.refl _) | (with_reducible assumption) | (with_reducible refine Gx.gx ?_) | (with_reducible refine Gx.alloc ?_) | (with_reducible refine Gx.drew ?_) | (with_reducible refine Gx.drewN ?_) | (with_reducible refine Gx.setRow ?_ (by first | omega | (simp; done) | (simp <;> omega))) | (with_reducible refine Gx.setCell ?_ (by first | omega | (simp; done) | (simp <;> omega)))))⟩
set_option maxHeartbeats 4000000 in
set_option maxRecDepth 100000 in
theorem Rins_j31 (kd : Int) (nm tr : ByteArray) (pl lo hi st : Int) (Z : Option Addr) (zn zc : Nat) (op nn : Int) (lt : Bool) (sz : Int) (NB : Bool) (U : Bool) (w : World)
    (H1 : Hid (∀ W, (∃ x, W = gx w x) → Calls Tryz.prog 31 #[.string nm] W fun e W' => e = .returned (.bool NB) ∧ ∃ x, W' = gx W x))
    (H2 : Hid (∀ W, (∃ x, W = gx w x) → Calls Tryz.prog 32 #[inV kd nm tr pl lo hi st Z zn zc op nn lt sz] W fun e W' => e = .returned (.bool U) ∧ ∃ x, W' = gx W x))
    (hc : kd = 3 ∧ NB = true ∧ 0 < tr.size ∧ tr.size ≤ 30 ∧ U = false ∧ 0 ≤ pl ∧ pl ≤ 6 ∧ op < 1) :
    Calls Tryz.prog 8 #[inV kd nm tr pl lo hi st Z zn zc op nn lt sz] w fun e w' => e = .returned (.int .i64 7) ∧ ∃ x, w' = gx w x := by
  obtain ⟨rfl, rfl, h2, h3, rfl, h5, h6, h7⟩ := hc
  have G0 := Lib.hid (fun W => outsideP_any 3 1 6 false (.inl ⟨rfl, by omega, by omega⟩) W)
  have G1 := Lib.hid (fun W => outsideP_any pl 0 6 false (.inl ⟨rfl, by omega, by omega⟩) W)
  have G2 := Lib.hid (fun W => outsideP_any op 1 6 true (.inr (.inl ⟨rfl, by omega⟩)) W)
  obtain ⟨s1, s2⟩ := str_some (s := tr) (by omega)
  have k1 : decide (30 < (tr.size : Int)) = false := decide_eq_false (by omega)
  clear h2 h3 h5 h6 h7
  go_enter Tryz.func8, Tryz.ntmps8
  go_wp2_with (first | go_skip | (go_at_call 31; refine (H1.out _ (by repeat (first | (with_reducible exact Gx.refl _) | (with_reducible assumption) | (with_reducible refine Gx.gx ?_) | (with_reducible refine Gx.alloc ?_) | (with_reducible refine Gx.drew ?_) | (with_reducible refine Gx.drewN ?_) | (with_reducible refine Gx.setRow ?_ (by first | omega | (simp; done) | (simp <;> omega))) | (with_reducible refine Gx.setCell ?_ (by first | omega | (simp; done) | (simp <;> omega)))))).mono ?_; rintro e w' ⟨rfl, x1, rfl⟩) | (go_at_call 32; refine (H2.out _ (by repeat (first | (with_reducible exact Gx.refl _) | (with_reducible assumption) | (with_reducible refine Gx.gx ?_) | (with_reducible refine Gx.alloc ?_) | (with_reducible refine Gx.drew ?_) | (with_reducible refine Gx.drewN ?_) | (with_reducible refine Gx.setRow ?_ (by first | omega | (simp; done) | (simp <;> omega))) | (with_reducible refine Gx.setCell ?_ (by first | omega | (simp; done) | (simp <;> omega)))))).mono ?_; rintro e w' ⟨rfl, x2, rfl⟩) | (go_at_call 30; with_reducible refine (G0.out _).mono ?_; rintro e w' ⟨rfl, rfl⟩) | (go_at_call 30; with_reducible refine (G1.out _).mono ?_; rintro e w' ⟨rfl, rfl⟩) | (go_at_call 30; with_reducible refine (G2.out _).mono ?_; rintro e w' ⟨rfl, rfl⟩))
  go_ret
  exact ⟨rfl, (by repeat (first | (with_reducible exact Gx.refl _) | (with_reducible assumption) | (with_reducible refine Gx.gx ?_) | (with_reducible refine Gx.alloc ?_) | (with_reducible refine Gx.drew ?_) | (with_reducible refine Gx.drewN ?_) | (with_reducible refine Gx.setRow ?_ (by first | omega | (simp; done) | (simp <;> omega))) | (with_reducible refine Gx.setCell ?_ (by first | omega | (simp; done) | (simp <;> omega)))))⟩
set_option maxHeartbeats 4000000 in
set_option maxRecDepth 100000 in
theorem Rins_j32 (kd : Int) (nm tr : ByteArray) (pl lo hi st : Int) (Z : Option Addr) (zn zc : Nat) (op nn : Int) (lt : Bool) (sz : Int) (NB : Bool) (U : Bool) (w : World)
    (H1 : Hid (∀ W, (∃ x, W = gx w x) → Calls Tryz.prog 31 #[.string nm] W fun e W' => e = .returned (.bool NB) ∧ ∃ x, W' = gx W x))
    (H2 : Hid (∀ W, (∃ x, W = gx w x) → Calls Tryz.prog 32 #[inV kd nm tr pl lo hi st Z zn zc op nn lt sz] W fun e W' => e = .returned (.bool U) ∧ ∃ x, W' = gx W x))
    (hc : kd = 3 ∧ NB = true ∧ 0 < tr.size ∧ tr.size ≤ 30 ∧ U = false ∧ 0 ≤ pl ∧ pl ≤ 6 ∧ 6 < op) :
    Calls Tryz.prog 8 #[inV kd nm tr pl lo hi st Z zn zc op nn lt sz] w fun e w' => e = .returned (.int .i64 7) ∧ ∃ x, w' = gx w x := by
  obtain ⟨rfl, rfl, h2, h3, rfl, h5, h6, h7⟩ := hc
  have G0 := Lib.hid (fun W => outsideP_any 3 1 6 false (.inl ⟨rfl, by omega, by omega⟩) W)
  have G1 := Lib.hid (fun W => outsideP_any pl 0 6 false (.inl ⟨rfl, by omega, by omega⟩) W)
  have G2 := Lib.hid (fun W => outsideP_any op 1 6 true (.inr (.inr ⟨rfl, by omega, by omega⟩)) W)
  obtain ⟨s1, s2⟩ := str_some (s := tr) (by omega)
  have k1 : decide (30 < (tr.size : Int)) = false := decide_eq_false (by omega)
  clear h2 h3 h5 h6 h7
  go_enter Tryz.func8, Tryz.ntmps8
  go_wp2_with (first | go_skip | (go_at_call 31; refine (H1.out _ (by repeat (first | (with_reducible exact Gx.refl _) | (with_reducible assumption) | (with_reducible refine Gx.gx ?_) | (with_reducible refine Gx.alloc ?_) | (with_reducible refine Gx.drew ?_) | (with_reducible refine Gx.drewN ?_) | (with_reducible refine Gx.setRow ?_ (by first | omega | (simp; done) | (simp <;> omega))) | (with_reducible refine Gx.setCell ?_ (by first | omega | (simp; done) | (simp <;> omega)))))).mono ?_; rintro e w' ⟨rfl, x1, rfl⟩) | (go_at_call 32; refine (H2.out _ (by repeat (first | (with_reducible exact Gx.refl _) | (with_reducible assumption) | (with_reducible refine Gx.gx ?_) | (with_reducible refine Gx.alloc ?_) | (with_reducible refine Gx.drew ?_) | (with_reducible refine Gx.drewN ?_) | (with_reducible refine Gx.setRow ?_ (by first | omega | (simp; done) | (simp <;> omega))) | (with_reducible refine Gx.setCell ?_ (by first | omega | (simp; done) | (simp <;> omega)))))).mono ?_; rintro e w' ⟨rfl, x2, rfl⟩) | (go_at_call 30; with_reducible refine (G0.out _).mono ?_; rintro e w' ⟨rfl, rfl⟩) | (go_at_call 30; with_reducible refine (G1.out _).mono ?_; rintro e w' ⟨rfl, rfl⟩) | (go_at_call 30; with_reducible refine (G2.out _).mono ?_; rintro e w' ⟨rfl, rfl⟩))
  go_ret
  exact ⟨rfl, (by repeat (first | (with_reducible exact Gx.refl _) | (with_reducible assumption) | (with_reducible refine Gx.gx ?_) | (with_reducible refine Gx.alloc ?_) | (with_reducible refine Gx.drew ?_) | (with_reducible refine Gx.drewN ?_) | (with_reducible refine Gx.setRow ?_ (by first | omega | (simp; done) | (simp <;> omega))) | (with_reducible refine Gx.setCell ?_ (by first | omega | (simp; done) | (simp <;> omega)))))⟩
set_option maxHeartbeats 4000000 in
set_option maxRecDepth 100000 in
theorem Rins_j33 (kd : Int) (nm tr : ByteArray) (pl lo hi st : Int) (Z : Option Addr) (zn zc : Nat) (op nn : Int) (lt : Bool) (sz : Int) (NB : Bool) (U : Bool) (w : World)
    (H1 : Hid (∀ W, (∃ x, W = gx w x) → Calls Tryz.prog 31 #[.string nm] W fun e W' => e = .returned (.bool NB) ∧ ∃ x, W' = gx W x))
    (H2 : Hid (∀ W, (∃ x, W = gx w x) → Calls Tryz.prog 32 #[inV kd nm tr pl lo hi st Z zn zc op nn lt sz] W fun e W' => e = .returned (.bool U) ∧ ∃ x, W' = gx W x))
    (hc : kd = 3 ∧ NB = true ∧ 0 < tr.size ∧ tr.size ≤ 30 ∧ U = false ∧ 0 ≤ pl ∧ pl ≤ 6 ∧ 1 ≤ op ∧ op ≤ 6 ∧ nn < -1125899906842624) :
    Calls Tryz.prog 8 #[inV kd nm tr pl lo hi st Z zn zc op nn lt sz] w fun e w' => e = .returned (.int .i64 9) ∧ ∃ x, w' = gx w x := by
  obtain ⟨rfl, rfl, h2, h3, rfl, h5, h6, h7, h8, h9⟩ := hc
  have G0 := Lib.hid (fun W => outsideP_any 3 1 6 false (.inl ⟨rfl, by omega, by omega⟩) W)
  have G1 := Lib.hid (fun W => outsideP_any pl 0 6 false (.inl ⟨rfl, by omega, by omega⟩) W)
  have G2 := Lib.hid (fun W => outsideP_any op 1 6 false (.inl ⟨rfl, by omega, by omega⟩) W)
  have G3 := Lib.hid (fun W => outsideP_any nn (-1125899906842624) 1125899906842624 true (.inr (.inl ⟨rfl, by omega⟩)) W)
  obtain ⟨s1, s2⟩ := str_some (s := tr) (by omega)
  have k1 : decide (30 < (tr.size : Int)) = false := decide_eq_false (by omega)
  clear h2 h3 h5 h6 h7 h8 h9
  go_enter Tryz.func8, Tryz.ntmps8
  go_wp2_with (first | go_skip | (go_at_call 31; refine (H1.out _ (by repeat (first | (with_reducible exact Gx.refl _) | (with_reducible assumption) | (with_reducible refine Gx.gx ?_) | (with_reducible refine Gx.alloc ?_) | (with_reducible refine Gx.drew ?_) | (with_reducible refine Gx.drewN ?_) | (with_reducible refine Gx.setRow ?_ (by first | omega | (simp; done) | (simp <;> omega))) | (with_reducible refine Gx.setCell ?_ (by first | omega | (simp; done) | (simp <;> omega)))))).mono ?_; rintro e w' ⟨rfl, x1, rfl⟩) | (go_at_call 32; refine (H2.out _ (by repeat (first | (with_reducible exact Gx.refl _) | (with_reducible assumption) | (with_reducible refine Gx.gx ?_) | (with_reducible refine Gx.alloc ?_) | (with_reducible refine Gx.drew ?_) | (with_reducible refine Gx.drewN ?_) | (with_reducible refine Gx.setRow ?_ (by first | omega | (simp; done) | (simp <;> omega))) | (with_reducible refine Gx.setCell ?_ (by first | omega | (simp; done) | (simp <;> omega)))))).mono ?_; rintro e w' ⟨rfl, x2, rfl⟩) | (go_at_call 30; with_reducible refine (G0.out _).mono ?_; rintro e w' ⟨rfl, rfl⟩) | (go_at_call 30; with_reducible refine (G1.out _).mono ?_; rintro e w' ⟨rfl, rfl⟩) | (go_at_call 30; with_reducible refine (G2.out _).mono ?_; rintro e w' ⟨rfl, rfl⟩) | (go_at_call 30; with_reducible refine (G3.out _).mono ?_; rintro e w' ⟨rfl, rfl⟩))
  go_ret
  exact ⟨rfl, (by repeat (first | (with_reducible exact Gx.refl _) | (with_reducible assumption) | (with_reducible refine Gx.gx ?_) | (with_reducible refine Gx.alloc ?_) | (with_reducible refine Gx.drew ?_) | (with_reducible refine Gx.drewN ?_) | (with_reducible refine Gx.setRow ?_ (by first | omega | (simp; done) | (simp <;> omega))) | (with_reducible refine Gx.setCell ?_ (by first | omega | (simp; done) | (simp <;> omega)))))⟩
set_option maxHeartbeats 4000000 in
set_option maxRecDepth 100000 in
theorem Rins_j34 (kd : Int) (nm tr : ByteArray) (pl lo hi st : Int) (Z : Option Addr) (zn zc : Nat) (op nn : Int) (lt : Bool) (sz : Int) (NB : Bool) (U : Bool) (w : World)
    (H1 : Hid (∀ W, (∃ x, W = gx w x) → Calls Tryz.prog 31 #[.string nm] W fun e W' => e = .returned (.bool NB) ∧ ∃ x, W' = gx W x))
    (H2 : Hid (∀ W, (∃ x, W = gx w x) → Calls Tryz.prog 32 #[inV kd nm tr pl lo hi st Z zn zc op nn lt sz] W fun e W' => e = .returned (.bool U) ∧ ∃ x, W' = gx W x))
    (hc : kd = 3 ∧ NB = true ∧ 0 < tr.size ∧ tr.size ≤ 30 ∧ U = false ∧ 0 ≤ pl ∧ pl ≤ 6 ∧ 1 ≤ op ∧ op ≤ 6 ∧ 1125899906842624 < nn) :
    Calls Tryz.prog 8 #[inV kd nm tr pl lo hi st Z zn zc op nn lt sz] w fun e w' => e = .returned (.int .i64 9) ∧ ∃ x, w' = gx w x := by
  obtain ⟨rfl, rfl, h2, h3, rfl, h5, h6, h7, h8, h9⟩ := hc
  have G0 := Lib.hid (fun W => outsideP_any 3 1 6 false (.inl ⟨rfl, by omega, by omega⟩) W)
  have G1 := Lib.hid (fun W => outsideP_any pl 0 6 false (.inl ⟨rfl, by omega, by omega⟩) W)
  have G2 := Lib.hid (fun W => outsideP_any op 1 6 false (.inl ⟨rfl, by omega, by omega⟩) W)
  have G3 := Lib.hid (fun W => outsideP_any nn (-1125899906842624) 1125899906842624 true (.inr (.inr ⟨rfl, by omega, by omega⟩)) W)
  obtain ⟨s1, s2⟩ := str_some (s := tr) (by omega)
  have k1 : decide (30 < (tr.size : Int)) = false := decide_eq_false (by omega)
  clear h2 h3 h5 h6 h7 h8 h9
  go_enter Tryz.func8, Tryz.ntmps8
  go_wp2_with (first | go_skip | (go_at_call 31; refine (H1.out _ (by repeat (first | (with_reducible exact Gx.refl _) | (with_reducible assumption) | (with_reducible refine Gx.gx ?_) | (with_reducible refine Gx.alloc ?_) | (with_reducible refine Gx.drew ?_) | (with_reducible refine Gx.drewN ?_) | (with_reducible refine Gx.setRow ?_ (by first | omega | (simp; done) | (simp <;> omega))) | (with_reducible refine Gx.setCell ?_ (by first | omega | (simp; done) | (simp <;> omega)))))).mono ?_; rintro e w' ⟨rfl, x1, rfl⟩) | (go_at_call 32; refine (H2.out _ (by repeat (first | (with_reducible exact Gx.refl _) | (with_reducible assumption) | (with_reducible refine Gx.gx ?_) | (with_reducible refine Gx.alloc ?_) | (with_reducible refine Gx.drew ?_) | (with_reducible refine Gx.drewN ?_) | (with_reducible refine Gx.setRow ?_ (by first | omega | (simp; done) | (simp <;> omega))) | (with_reducible refine Gx.setCell ?_ (by first | omega | (simp; done) | (simp <;> omega)))))).mono ?_; rintro e w' ⟨rfl, x2, rfl⟩) | (go_at_call 30; with_reducible refine (G0.out _).mono ?_; rintro e w' ⟨rfl, rfl⟩) | (go_at_call 30; with_reducible refine (G1.out _).mono ?_; rintro e w' ⟨rfl, rfl⟩) | (go_at_call 30; with_reducible refine (G2.out _).mono ?_; rintro e w' ⟨rfl, rfl⟩) | (go_at_call 30; with_reducible refine (G3.out _).mono ?_; rintro e w' ⟨rfl, rfl⟩))
  go_ret
  exact ⟨rfl, (by repeat (first | (with_reducible exact Gx.refl _) | (with_reducible assumption) | (with_reducible refine Gx.gx ?_) | (with_reducible refine Gx.alloc ?_) | (with_reducible refine Gx.drew ?_) | (with_reducible refine Gx.drewN ?_) | (with_reducible refine Gx.setRow ?_ (by first | omega | (simp; done) | (simp <;> omega))) | (with_reducible refine Gx.setCell ?_ (by first | omega | (simp; done) | (simp <;> omega)))))⟩
set_option maxHeartbeats 4000000 in
set_option maxRecDepth 100000 in
theorem Rins_j35 (kd : Int) (nm tr : ByteArray) (pl lo hi st : Int) (Z : Option Addr) (zn zc : Nat) (op nn : Int) (lt : Bool) (sz : Int) (NB : Bool) (U : Bool) (w : World)
    (H1 : Hid (∀ W, (∃ x, W = gx w x) → Calls Tryz.prog 31 #[.string nm] W fun e W' => e = .returned (.bool NB) ∧ ∃ x, W' = gx W x))
    (H2 : Hid (∀ W, (∃ x, W = gx w x) → Calls Tryz.prog 32 #[inV kd nm tr pl lo hi st Z zn zc op nn lt sz] W fun e W' => e = .returned (.bool U) ∧ ∃ x, W' = gx W x))
    (hc : kd = 3 ∧ NB = true ∧ 0 < tr.size ∧ tr.size ≤ 30 ∧ U = false ∧ 0 ≤ pl ∧ pl ≤ 6 ∧ 1 ≤ op ∧ op ≤ 6 ∧ -1125899906842624 ≤ nn ∧ nn ≤ 1125899906842624) :
    Calls Tryz.prog 8 #[inV kd nm tr pl lo hi st Z zn zc op nn lt sz] w fun e w' => e = .returned (.int .i64 0) ∧ ∃ x, w' = gx w x := by
  obtain ⟨rfl, rfl, h2, h3, rfl, h5, h6, h7, h8, h9, h10⟩ := hc
  have G0 := Lib.hid (fun W => outsideP_any 3 1 6 false (.inl ⟨rfl, by omega, by omega⟩) W)
  have G1 := Lib.hid (fun W => outsideP_any pl 0 6 false (.inl ⟨rfl, by omega, by omega⟩) W)
  have G2 := Lib.hid (fun W => outsideP_any op 1 6 false (.inl ⟨rfl, by omega, by omega⟩) W)
  have G3 := Lib.hid (fun W => outsideP_any nn (-1125899906842624) 1125899906842624 false (.inl ⟨rfl, by omega, by omega⟩) W)
  obtain ⟨s1, s2⟩ := str_some (s := tr) (by omega)
  have k1 : decide (30 < (tr.size : Int)) = false := decide_eq_false (by omega)
  clear h2 h3 h5 h6 h7 h8 h9 h10
  go_enter Tryz.func8, Tryz.ntmps8
  go_wp2_with (first | go_skip | (go_at_call 31; refine (H1.out _ (by repeat (first | (with_reducible exact Gx.refl _) | (with_reducible assumption) | (with_reducible refine Gx.gx ?_) | (with_reducible refine Gx.alloc ?_) | (with_reducible refine Gx.drew ?_) | (with_reducible refine Gx.drewN ?_) | (with_reducible refine Gx.setRow ?_ (by first | omega | (simp; done) | (simp <;> omega))) | (with_reducible refine Gx.setCell ?_ (by first | omega | (simp; done) | (simp <;> omega)))))).mono ?_; rintro e w' ⟨rfl, x1, rfl⟩) | (go_at_call 32; refine (H2.out _ (by repeat (first | (with_reducible exact Gx.refl _) | (with_reducible assumption) | (with_reducible refine Gx.gx ?_) | (with_reducible refine Gx.alloc ?_) | (with_reducible refine Gx.drew ?_) | (with_reducible refine Gx.drewN ?_) | (with_reducible refine Gx.setRow ?_ (by first | omega | (simp; done) | (simp <;> omega))) | (with_reducible refine Gx.setCell ?_ (by first | omega | (simp; done) | (simp <;> omega)))))).mono ?_; rintro e w' ⟨rfl, x2, rfl⟩) | (go_at_call 30; with_reducible refine (G0.out _).mono ?_; rintro e w' ⟨rfl, rfl⟩) | (go_at_call 30; with_reducible refine (G1.out _).mono ?_; rintro e w' ⟨rfl, rfl⟩) | (go_at_call 30; with_reducible refine (G2.out _).mono ?_; rintro e w' ⟨rfl, rfl⟩) | (go_at_call 30; with_reducible refine (G3.out _).mono ?_; rintro e w' ⟨rfl, rfl⟩))
  go_ret
  exact ⟨rfl, (by repeat (first | (with_reducible exact Gx.refl _) | (with_reducible assumption) | (with_reducible refine Gx.gx ?_) | (with_reducible refine Gx.alloc ?_) | (with_reducible refine Gx.drew ?_) | (with_reducible refine Gx.drewN ?_) | (with_reducible refine Gx.setRow ?_ (by first | omega | (simp; done) | (simp <;> omega))) | (with_reducible refine Gx.setCell ?_ (by first | omega | (simp; done) | (simp <;> omega)))))⟩
set_option maxHeartbeats 4000000 in
set_option maxRecDepth 100000 in
theorem Rins_j51 (kd : Int) (nm tr : ByteArray) (pl lo hi st : Int) (Z : Option Addr) (zn zc : Nat) (op nn : Int) (lt : Bool) (sz : Int) (NB : Bool) (U : Bool) (w : World)
    (H1 : Hid (∀ W, (∃ x, W = gx w x) → Calls Tryz.prog 31 #[.string nm] W fun e W' => e = .returned (.bool NB) ∧ ∃ x, W' = gx W x))
    (H2 : Hid (∀ W, (∃ x, W = gx w x) → Calls Tryz.prog 32 #[inV kd nm tr pl lo hi st Z zn zc op nn lt sz] W fun e W' => e = .returned (.bool U) ∧ ∃ x, W' = gx W x))
    (hc : kd = 5 ∧ NB = true ∧ 0 < tr.size ∧ tr.size ≤ 30 ∧ U = false ∧ 0 ≤ pl ∧ pl ≤ 6 ∧ op < 1) :
    Calls Tryz.prog 8 #[inV kd nm tr pl lo hi st Z zn zc op nn lt sz] w fun e w' => e = .returned (.int .i64 7) ∧ ∃ x, w' = gx w x := by
  obtain ⟨rfl, rfl, h2, h3, rfl, h5, h6, h7⟩ := hc
  have G0 := Lib.hid (fun W => outsideP_any 5 1 6 false (.inl ⟨rfl, by omega, by omega⟩) W)
  have G1 := Lib.hid (fun W => outsideP_any pl 0 6 false (.inl ⟨rfl, by omega, by omega⟩) W)
  have G2 := Lib.hid (fun W => outsideP_any op 1 6 true (.inr (.inl ⟨rfl, by omega⟩)) W)
  obtain ⟨s1, s2⟩ := str_some (s := tr) (by omega)
  have k1 : decide (30 < (tr.size : Int)) = false := decide_eq_false (by omega)
  clear h2 h3 h5 h6 h7
  go_enter Tryz.func8, Tryz.ntmps8
  go_wp2_with (first | go_skip | (go_at_call 31; refine (H1.out _ (by repeat (first | (with_reducible exact Gx.refl _) | (with_reducible assumption) | (with_reducible refine Gx.gx ?_) | (with_reducible refine Gx.alloc ?_) | (with_reducible refine Gx.drew ?_) | (with_reducible refine Gx.drewN ?_) | (with_reducible refine Gx.setRow ?_ (by first | omega | (simp; done) | (simp <;> omega))) | (with_reducible refine Gx.setCell ?_ (by first | omega | (simp; done) | (simp <;> omega)))))).mono ?_; rintro e w' ⟨rfl, x1, rfl⟩) | (go_at_call 32; refine (H2.out _ (by repeat (first | (with_reducible exact Gx.refl _) | (with_reducible assumption) | (with_reducible refine Gx.gx ?_) | (with_reducible refine Gx.alloc ?_) | (with_reducible refine Gx.drew ?_) | (with_reducible refine Gx.drewN ?_) | (with_reducible refine Gx.setRow ?_ (by first | omega | (simp; done) | (simp <;> omega))) | (with_reducible refine Gx.setCell ?_ (by first | omega | (simp; done) | (simp <;> omega)))))).mono ?_; rintro e w' ⟨rfl, x2, rfl⟩) | (go_at_call 30; with_reducible refine (G0.out _).mono ?_; rintro e w' ⟨rfl, rfl⟩) | (go_at_call 30; with_reducible refine (G1.out _).mono ?_; rintro e w' ⟨rfl, rfl⟩) | (go_at_call 30; with_reducible refine (G2.out _).mono ?_; rintro e w' ⟨rfl, rfl⟩))
  go_ret
  exact ⟨rfl, (by repeat (first | (with_reducible exact Gx.refl _) | (with_reducible assumption) | (with_reducible refine Gx.gx ?_) | (with_reducible refine Gx.alloc ?_) | (with_reducible refine Gx.drew ?_) | (with_reducible refine Gx.drewN ?_) | (with_reducible refine Gx.setRow ?_ (by first | omega | (simp; done) | (simp <;> omega))) | (with_reducible refine Gx.setCell ?_ (by first | omega | (simp; done) | (simp <;> omega)))))⟩
set_option maxHeartbeats 4000000 in
set_option maxRecDepth 100000 in
theorem Rins_j52 (kd : Int) (nm tr : ByteArray) (pl lo hi st : Int) (Z : Option Addr) (zn zc : Nat) (op nn : Int) (lt : Bool) (sz : Int) (NB : Bool) (U : Bool) (w : World)
    (H1 : Hid (∀ W, (∃ x, W = gx w x) → Calls Tryz.prog 31 #[.string nm] W fun e W' => e = .returned (.bool NB) ∧ ∃ x, W' = gx W x))
    (H2 : Hid (∀ W, (∃ x, W = gx w x) → Calls Tryz.prog 32 #[inV kd nm tr pl lo hi st Z zn zc op nn lt sz] W fun e W' => e = .returned (.bool U) ∧ ∃ x, W' = gx W x))
    (hc : kd = 5 ∧ NB = true ∧ 0 < tr.size ∧ tr.size ≤ 30 ∧ U = false ∧ 0 ≤ pl ∧ pl ≤ 6 ∧ 6 < op) :
    Calls Tryz.prog 8 #[inV kd nm tr pl lo hi st Z zn zc op nn lt sz] w fun e w' => e = .returned (.int .i64 7) ∧ ∃ x, w' = gx w x := by
  obtain ⟨rfl, rfl, h2, h3, rfl, h5, h6, h7⟩ := hc
  have G0 := Lib.hid (fun W => outsideP_any 5 1 6 false (.inl ⟨rfl, by omega, by omega⟩) W)
  have G1 := Lib.hid (fun W => outsideP_any pl 0 6 false (.inl ⟨rfl, by omega, by omega⟩) W)
  have G2 := Lib.hid (fun W => outsideP_any op 1 6 true (.inr (.inr ⟨rfl, by omega, by omega⟩)) W)
  obtain ⟨s1, s2⟩ := str_some (s := tr) (by omega)
  have k1 : decide (30 < (tr.size : Int)) = false := decide_eq_false (by omega)
  clear h2 h3 h5 h6 h7
  go_enter Tryz.func8, Tryz.ntmps8
  go_wp2_with (first | go_skip | (go_at_call 31; refine (H1.out _ (by repeat (first | (with_reducible exact Gx.refl _) | (with_reducible assumption) | (with_reducible refine Gx.gx ?_) | (with_reducible refine Gx.alloc ?_) | (with_reducible refine Gx.drew ?_) | (with_reducible refine Gx.drewN ?_) | (with_reducible refine Gx.setRow ?_ (by first | omega | (simp; done) | (simp <;> omega))) | (with_reducible refine Gx.setCell ?_ (by first | omega | (simp; done) | (simp <;> omega)))))).mono ?_; rintro e w' ⟨rfl, x1, rfl⟩) | (go_at_call 32; refine (H2.out _ (by repeat (first | (with_reducible exact Gx.refl _) | (with_reducible assumption) | (with_reducible refine Gx.gx ?_) | (with_reducible refine Gx.alloc ?_) | (with_reducible refine Gx.drew ?_) | (with_reducible refine Gx.drewN ?_) | (with_reducible refine Gx.setRow ?_ (by first | omega | (simp; done) | (simp <;> omega))) | (with_reducible refine Gx.setCell ?_ (by first | omega | (simp; done) | (simp <;> omega)))))).mono ?_; rintro e w' ⟨rfl, x2, rfl⟩) | (go_at_call 30; with_reducible refine (G0.out _).mono ?_; rintro e w' ⟨rfl, rfl⟩) | (go_at_call 30; with_reducible refine (G1.out _).mono ?_; rintro e w' ⟨rfl, rfl⟩) | (go_at_call 30; with_reducible refine (G2.out _).mono ?_; rintro e w' ⟨rfl, rfl⟩))
  go_ret
  exact ⟨rfl, (by repeat (first | (with_reducible exact Gx.refl _) | (with_reducible assumption) | (with_reducible refine Gx.gx ?_) | (with_reducible refine Gx.alloc ?_) | (with_reducible refine Gx.drew ?_) | (with_reducible refine Gx.drewN ?_) | (with_reducible refine Gx.setRow ?_ (by first | omega | (simp; done) | (simp <;> omega))) | (with_reducible refine Gx.setCell ?_ (by first | omega | (simp; done) | (simp <;> omega)))))⟩
set_option maxHeartbeats 4000000 in
set_option maxRecDepth 100000 in
theorem Rins_j53 (kd : Int) (nm tr : ByteArray) (pl lo hi st : Int) (Z : Option Addr) (zn zc : Nat) (op nn : Int) (lt : Bool) (sz : Int) (NB : Bool) (U : Bool) (w : World)
    (H1 : Hid (∀ W, (∃ x, W = gx w x) → Calls Tryz.prog 31 #[.string nm] W fun e W' => e = .returned (.bool NB) ∧ ∃ x, W' = gx W x))
    (H2 : Hid (∀ W, (∃ x, W = gx w x) → Calls Tryz.prog 32 #[inV kd nm tr pl lo hi st Z zn zc op nn lt sz] W fun e W' => e = .returned (.bool U) ∧ ∃ x, W' = gx W x))
    (hc : kd = 5 ∧ NB = true ∧ 0 < tr.size ∧ tr.size ≤ 30 ∧ U = false ∧ 0 ≤ pl ∧ pl ≤ 6 ∧ 1 ≤ op ∧ op ≤ 6 ∧ nn < -1125899906842624) :
    Calls Tryz.prog 8 #[inV kd nm tr pl lo hi st Z zn zc op nn lt sz] w fun e w' => e = .returned (.int .i64 9) ∧ ∃ x, w' = gx w x := by
  obtain ⟨rfl, rfl, h2, h3, rfl, h5, h6, h7, h8, h9⟩ := hc
  have G0 := Lib.hid (fun W => outsideP_any 5 1 6 false (.inl ⟨rfl, by omega, by omega⟩) W)
  have G1 := Lib.hid (fun W => outsideP_any pl 0 6 false (.inl ⟨rfl, by omega, by omega⟩) W)
  have G2 := Lib.hid (fun W => outsideP_any op 1 6 false (.inl ⟨rfl, by omega, by omega⟩) W)
  have G3 := Lib.hid (fun W => outsideP_any nn (-1125899906842624) 1125899906842624 true (.inr (.inl ⟨rfl, by omega⟩)) W)
  obtain ⟨s1, s2⟩ := str_some (s := tr) (by omega)
  have k1 : decide (30 < (tr.size : Int)) = false := decide_eq_false (by omega)
  clear h2 h3 h5 h6 h7 h8 h9
  go_enter Tryz.func8, Tryz.ntmps8
  go_wp2_with (first | go_skip | (go_at_call 31; refine (H1.out _ (by repeat (first | (with_reducible exact Gx.refl _) | (with_reducible assumption) | (with_reducible refine Gx.gx ?_) | (with_reducible refine Gx.alloc ?_) | (with_reducible refine Gx.drew ?_) | (with_reducible refine Gx.drewN ?_) | (with_reducible refine Gx.setRow ?_ (by first | omega | (simp; done) | (simp <;> omega))) | (with_reducible refine Gx.setCell ?_ (by first | omega | (simp; done) | (simp <;> omega)))))).mono ?_; rintro e w' ⟨rfl, x1, rfl⟩) | (go_at_call 32; refine (H2.out _ (by repeat (first | (with_reducible exact Gx.refl _) | (with_reducible assumption) | (with_reducible refine Gx.gx ?_) | (with_reducible refine Gx.alloc ?_) | (with_reducible refine Gx.drew ?_) | (with_reducible refine Gx.drewN ?_) | (with_reducible refine Gx.setRow ?_ (by first | omega | (simp; done) | (simp <;> omega))) | (with_reducible refine Gx.setCell ?_ (by first | omega | (simp; done) | (simp <;> omega)))))).mono ?_; rintro e w' ⟨rfl, x2, rfl⟩) | (go_at_call 30; with_reducible refine (G0.out _).mono ?_; rintro e w' ⟨rfl, rfl⟩) | (go_at_call 30; with_reducible refine (G1.out _).mono ?_; rintro e w' ⟨rfl, rfl⟩) | (go_at_call 30; with_reducible refine (G2.out _).mono ?_; rintro e w' ⟨rfl, rfl⟩) | (go_at_call 30; with_reducible refine (G3.out _).mono ?_; rintro e w' ⟨rfl, rfl⟩))
  go_ret
  exact ⟨rfl, (by repeat (first | (with_reducible exact Gx.refl _) | (with_reducible assumption) | (with_reducible refine Gx.gx ?_) | (with_reducible refine Gx.alloc ?_) | (with_reducible refine Gx.drew ?_) | (with_reducible refine Gx.drewN ?_) | (with_reducible refine Gx.setRow ?_ (by first | omega | (simp; done) | (simp <;> omega))) | (with_reducible refine Gx.setCell ?_ (by first | omega | (simp; done) | (simp <;> omega)))))⟩
set_option maxHeartbeats 4000000 in
set_option maxRecDepth 100000 in
theorem Rins_j54 (kd : Int) (nm tr : ByteArray) (pl lo hi st : Int) (Z : Option Addr) (zn zc : Nat) (op nn : Int) (lt : Bool) (sz : Int) (NB : Bool) (U : Bool) (w : World)
    (H1 : Hid (∀ W, (∃ x, W = gx w x) → Calls Tryz.prog 31 #[.string nm] W fun e W' => e = .returned (.bool NB) ∧ ∃ x, W' = gx W x))
    (H2 : Hid (∀ W, (∃ x, W = gx w x) → Calls Tryz.prog 32 #[inV kd nm tr pl lo hi st Z zn zc op nn lt sz] W fun e W' => e = .returned (.bool U) ∧ ∃ x, W' = gx W x))
    (hc : kd = 5 ∧ NB = true ∧ 0 < tr.size ∧ tr.size ≤ 30 ∧ U = false ∧ 0 ≤ pl ∧ pl ≤ 6 ∧ 1 ≤ op ∧ op ≤ 6 ∧ 1125899906842624 < nn) :
    Calls Tryz.prog 8 #[inV kd nm tr pl lo hi st Z zn zc op nn lt sz] w fun e w' => e = .returned (.int .i64 9) ∧ ∃ x, w' = gx w x := by
  obtain ⟨rfl, rfl, h2, h3, rfl, h5, h6, h7, h8, h9⟩ := hc
  have G0 := Lib.hid (fun W => outsideP_any 5 1 6 false (.inl ⟨rfl, by omega, by omega⟩) W)
  have G1 := Lib.hid (fun W => outsideP_any pl 0 6 false (.inl ⟨rfl, by omega, by omega⟩) W)
  have G2 := Lib.hid (fun W => outsideP_any op 1 6 false (.inl ⟨rfl, by omega, by omega⟩) W)
  have G3 := Lib.hid (fun W => outsideP_any nn (-1125899906842624) 1125899906842624 true (.inr (.inr ⟨rfl, by omega, by omega⟩)) W)
  obtain ⟨s1, s2⟩ := str_some (s := tr) (by omega)
  have k1 : decide (30 < (tr.size : Int)) = false := decide_eq_false (by omega)
  clear h2 h3 h5 h6 h7 h8 h9
  go_enter Tryz.func8, Tryz.ntmps8
  go_wp2_with (first | go_skip | (go_at_call 31; refine (H1.out _ (by repeat (first | (with_reducible exact Gx.refl _) | (with_reducible assumption) | (with_reducible refine Gx.gx ?_) | (with_reducible refine Gx.alloc ?_) | (with_reducible refine Gx.drew ?_) | (with_reducible refine Gx.drewN ?_) | (with_reducible refine Gx.setRow ?_ (by first | omega | (simp; done) | (simp <;> omega))) | (with_reducible refine Gx.setCell ?_ (by first | omega | (simp; done) | (simp <;> omega)))))).mono ?_; rintro e w' ⟨rfl, x1, rfl⟩) | (go_at_call 32; refine (H2.out _ (by repeat (first | (with_reducible exact Gx.refl _) | (with_reducible assumption) | (with_reducible refine Gx.gx ?_) | (with_reducible refine Gx.alloc ?_) | (with_reducible refine Gx.drew ?_) | (with_reducible refine Gx.drewN ?_) | (with_reducible refine Gx.setRow ?_ (by first | omega | (simp; done) | (simp <;> omega))) | (with_reducible refine Gx.setCell ?_ (by first | omega | (simp; done) | (simp <;> omega)))))).mono ?_; rintro e w' ⟨rfl, x2, rfl⟩) | (go_at_call 30; with_reducible refine (G0.out _).mono ?_; rintro e w' ⟨rfl, rfl⟩) | (go_at_call 30; with_reducible refine (G1.out _).mono ?_; rintro e w' ⟨rfl, rfl⟩) | (go_at_call 30; with_reducible refine (G2.out _).mono ?_; rintro e w' ⟨rfl, rfl⟩) | (go_at_call 30; with_reducible refine (G3.out _).mono ?_; rintro e w' ⟨rfl, rfl⟩))
  go_ret
  exact ⟨rfl, (by repeat (first | (with_reducible exact Gx.refl _) | (with_reducible assumption) | (with_reducible refine Gx.gx ?_) | (with_reducible refine Gx.alloc ?_) | (with_reducible refine Gx.drew ?_) | (with_reducible refine Gx.drewN ?_) | (with_reducible refine Gx.setRow ?_ (by first | omega | (simp; done) | (simp <;> omega))) | (with_reducible refine Gx.setCell ?_ (by first | omega | (simp; done) | (simp <;> omega)))))⟩
set_option maxHeartbeats 4000000 in
set_option maxRecDepth 100000 in
theorem Rins_j55 (kd : Int) (nm tr : ByteArray) (pl lo hi st : Int) (Z : Option Addr) (zn zc : Nat) (op nn : Int) (lt : Bool) (sz : Int) (NB : Bool) (U : Bool) (w : World)
    (H1 : Hid (∀ W, (∃ x, W = gx w x) → Calls Tryz.prog 31 #[.string nm] W fun e W' => e = .returned (.bool NB) ∧ ∃ x, W' = gx W x))
    (H2 : Hid (∀ W, (∃ x, W = gx w x) → Calls Tryz.prog 32 #[inV kd nm tr pl lo hi st Z zn zc op nn lt sz] W fun e W' => e = .returned (.bool U) ∧ ∃ x, W' = gx W x))
    (hc : kd = 5 ∧ NB = true ∧ 0 < tr.size ∧ tr.size ≤ 30 ∧ U = false ∧ 0 ≤ pl ∧ pl ≤ 6 ∧ 1 ≤ op ∧ op ≤ 6 ∧ -1125899906842624 ≤ nn ∧ nn ≤ 1125899906842624) :
    Calls Tryz.prog 8 #[inV kd nm tr pl lo hi st Z zn zc op nn lt sz] w fun e w' => e = .returned (.int .i64 0) ∧ ∃ x, w' = gx w x := by
  obtain ⟨rfl, rfl, h2, h3, rfl, h5, h6, h7, h8, h9, h10⟩ := hc
  have G0 := Lib.hid (fun W => outsideP_any 5 1 6 false (.inl ⟨rfl, by omega, by omega⟩) W)
  have G1 := Lib.hid (fun W => outsideP_any pl 0 6 false (.inl ⟨rfl, by omega, by omega⟩) W)
  have G2 := Lib.hid (fun W => outsideP_any op 1 6 false (.inl ⟨rfl, by omega, by omega⟩) W)
  have G3 := Lib.hid (fun W => outsideP_any nn (-1125899906842624) 1125899906842624 false (.inl ⟨rfl, by omega, by omega⟩) W)
  obtain ⟨s1, s2⟩ := str_some (s := tr) (by omega)
  have k1 : decide (30 < (tr.size : Int)) = false := decide_eq_false (by omega)
  clear h2 h3 h5 h6 h7 h8 h9 h10
  go_enter Tryz.func8, Tryz.ntmps8
  go_wp2_with (first | go_skip | (go_at_call 31; refine (H1.out _ (by repeat (first | (with_reducible exact Gx.refl _) | (with_reducible assumption) | (with_reducible refine Gx.gx ?_) | (with_reducible refine Gx.alloc ?_) | (with_reducible refine Gx.drew ?_) | (with_reducible refine Gx.drewN ?_) | (with_reducible refine Gx.setRow ?_ (by first | omega | (simp; done) | (simp <;> omega))) | (with_reducible refine Gx.setCell ?_ (by first | omega | (simp; done) | (simp <;> omega)))))).mono ?_; rintro e w' ⟨rfl, x1, rfl⟩) | (go_at_call 32; refine (H2.out _ (by repeat (first | (with_reducible exact Gx.refl _) | (with_reducible assumption) | (with_reducible refine Gx.gx ?_) | (with_reducible refine Gx.alloc ?_) | (with_reducible refine Gx.drew ?_) | (with_reducible refine Gx.drewN ?_) | (with_reducible refine Gx.setRow ?_ (by first | omega | (simp; done) | (simp <;> omega))) | (with_reducible refine Gx.setCell ?_ (by first | omega | (simp; done) | (simp <;> omega)))))).mono ?_; rintro e w' ⟨rfl, x2, rfl⟩) | (go_at_call 30; with_reducible refine (G0.out _).mono ?_; rintro e w' ⟨rfl, rfl⟩) | (go_at_call 30; with_reducible refine (G1.out _).mono ?_; rintro e w' ⟨rfl, rfl⟩) | (go_at_call 30; with_reducible refine (G2.out _).mono ?_; rintro e w' ⟨rfl, rfl⟩) | (go_at_call 30; with_reducible refine (G3.out _).mono ?_; rintro e w' ⟨rfl, rfl⟩))
  go_ret
  exact ⟨rfl, (by repeat (first | (with_reducible exact Gx.refl _) | (with_reducible assumption) | (with_reducible refine Gx.gx ?_) | (with_reducible refine Gx.alloc ?_) | (with_reducible refine Gx.drew ?_) | (with_reducible refine Gx.drewN ?_) | (with_reducible refine Gx.setRow ?_ (by first | omega | (simp; done) | (simp <;> omega))) | (with_reducible refine Gx.setCell ?_ (by first | omega | (simp; done) | (simp <;> omega)))))⟩
set_option maxHeartbeats 4000000 in
set_option maxRecDepth 100000 in
theorem Rins_l (kd : Int) (nm tr : ByteArray) (pl lo hi st : Int) (Z : Option Addr) (zn zc : Nat) (op nn : Int) (lt : Bool) (sz : Int) (NB : Bool) (U : Bool) (w : World)
    (H1 : Hid (∀ W, (∃ x, W = gx w x) → Calls Tryz.prog 31 #[.string nm] W fun e W' => e = .returned (.bool NB) ∧ ∃ x, W' = gx W x))
    (H2 : Hid (∀ W, (∃ x, W = gx w x) → Calls Tryz.prog 32 #[inV kd nm tr pl lo hi st Z zn zc op nn lt sz] W fun e W' => e = .returned (.bool U) ∧ ∃ x, W' = gx W x))
    (hc : kd = 6 ∧ NB = true ∧ 0 < tr.size ∧ tr.size ≤ 30 ∧ U = false ∧ 0 ≤ pl ∧ pl ≤ 6 ∧ sz < 1) :
    Calls Tryz.prog 8 #[inV kd nm tr pl lo hi st Z zn zc op nn lt sz] w fun e w' => e = .returned (.int .i64 9) ∧ ∃ x, w' = gx w x := by
  obtain ⟨rfl, rfl, h2, h3, rfl, h5, h6, h7⟩ := hc
  have G0 := Lib.hid (fun W => outsideP_any 6 1 6 false (.inl ⟨rfl, by omega, by omega⟩) W)
  have G1 := Lib.hid (fun W => outsideP_any pl 0 6 false (.inl ⟨rfl, by omega, by omega⟩) W)
  have G2 := Lib.hid (fun W => outsideP_any sz 1 50 true (.inr (.inl ⟨rfl, by omega⟩)) W)
  obtain ⟨s1, s2⟩ := str_some (s := tr) (by omega)
  have k1 : decide (30 < (tr.size : Int)) = false := decide_eq_false (by omega)
  clear h2 h3 h5 h6 h7
  go_enter Tryz.func8, Tryz.ntmps8
  go_wp2_with (first | go_skip | (go_at_call 31; refine (H1.out _ (by repeat (first | (with_reducible exact Gx.refl _) | (with_reducible assumption) | (with_reducible refine Gx.gx ?_) | (with_reducible refine Gx.alloc ?_) | (with_reducible refine Gx.drew ?_) | (with_reducible refine Gx.drewN ?_) | (with_reducible refine Gx.setRow ?_ (by first | omega | (simp; done) | (simp <;> omega))) | (with_reducible refine Gx.setCell ?_ (by first | omega | (simp; done) | (simp <;> omega)))))).mono ?_; rintro e w' ⟨rfl, x1, rfl⟩) | (go_at_call 32; refine (H2.out _ (by repeat (first | (with_reducible exact Gx.refl _) | (with_reducible assumption) | (with_reducible refine Gx.gx ?_) | (with_reducible refine Gx.alloc ?_) | (with_reducible refine Gx.drew ?_) | (with_reducible refine Gx.drewN ?_) | (with_reducible refine Gx.setRow ?_ (by first | omega | (simp; done) | (simp <;> omega))) | (with_reducible refine Gx.setCell ?_ (by first | omega | (simp; done) | (simp <;> omega)))))).mono ?_; rintro e w' ⟨rfl, x2, rfl⟩) | (go_at_call 30; with_reducible refine (G0.out _).mono ?_; rintro e w' ⟨rfl, rfl⟩) | (go_at_call 30; with_reducible refine (G1.out _).mono ?_; rintro e w' ⟨rfl, rfl⟩) | (go_at_call 30; with_reducible refine (G2.out _).mono ?_; rintro e w' ⟨rfl, rfl⟩))
  go_ret
  exact ⟨rfl, (by repeat (first | (with_reducible exact Gx.refl _) | (with_reducible assumption) | (with_reducible refine Gx.gx ?_) | (with_reducible refine Gx.alloc ?_) | (with_reducible refine Gx.drew ?_) | (with_reducible refine Gx.drewN ?_) | (with_reducible refine Gx.setRow ?_ (by first | omega | (simp; done) | (simp <;> omega))) | (with_reducible refine Gx.setCell ?_ (by first | omega | (simp; done) | (simp <;> omega)))))⟩
set_option maxHeartbeats 4000000 in
set_option maxRecDepth 100000 in
theorem Rins_m (kd : Int) (nm tr : ByteArray) (pl lo hi st : Int) (Z : Option Addr) (zn zc : Nat) (op nn : Int) (lt : Bool) (sz : Int) (NB : Bool) (U : Bool) (w : World)
    (H1 : Hid (∀ W, (∃ x, W = gx w x) → Calls Tryz.prog 31 #[.string nm] W fun e W' => e = .returned (.bool NB) ∧ ∃ x, W' = gx W x))
    (H2 : Hid (∀ W, (∃ x, W = gx w x) → Calls Tryz.prog 32 #[inV kd nm tr pl lo hi st Z zn zc op nn lt sz] W fun e W' => e = .returned (.bool U) ∧ ∃ x, W' = gx W x))
    (hc : kd = 6 ∧ NB = true ∧ 0 < tr.size ∧ tr.size ≤ 30 ∧ U = false ∧ 0 ≤ pl ∧ pl ≤ 6 ∧ 50 < sz) :
    Calls Tryz.prog 8 #[inV kd nm tr pl lo hi st Z zn zc op nn lt sz] w fun e w' => e = .returned (.int .i64 9) ∧ ∃ x, w' = gx w x := by
  obtain ⟨rfl, rfl, h2, h3, rfl, h5, h6, h7⟩ := hc
  have G0 := Lib.hid (fun W => outsideP_any 6 1 6 false (.inl ⟨rfl, by omega, by omega⟩) W)
  have G1 := Lib.hid (fun W => outsideP_any pl 0 6 false (.inl ⟨rfl, by omega, by omega⟩) W)
  have G2 := Lib.hid (fun W => outsideP_any sz 1 50 true (.inr (.inr ⟨rfl, by omega, by omega⟩)) W)
  obtain ⟨s1, s2⟩ := str_some (s := tr) (by omega)
  have k1 : decide (30 < (tr.size : Int)) = false := decide_eq_false (by omega)
  clear h2 h3 h5 h6 h7
  go_enter Tryz.func8, Tryz.ntmps8
  go_wp2_with (first | go_skip | (go_at_call 31; refine (H1.out _ (by repeat (first | (with_reducible exact Gx.refl _) | (with_reducible assumption) | (with_reducible refine Gx.gx ?_) | (with_reducible refine Gx.alloc ?_) | (with_reducible refine Gx.drew ?_) | (with_reducible refine Gx.drewN ?_) | (with_reducible refine Gx.setRow ?_ (by first | omega | (simp; done) | (simp <;> omega))) | (with_reducible refine Gx.setCell ?_ (by first | omega | (simp; done) | (simp <;> omega)))))).mono ?_; rintro e w' ⟨rfl, x1, rfl⟩) | (go_at_call 32; refine (H2.out _ (by repeat (first | (with_reducible exact Gx.refl _) | (with_reducible assumption) | (with_reducible refine Gx.gx ?_) | (with_reducible refine Gx.alloc ?_) | (with_reducible refine Gx.drew ?_) | (with_reducible refine Gx.drewN ?_) | (with_reducible refine Gx.setRow ?_ (by first | omega | (simp; done) | (simp <;> omega))) | (with_reducible refine Gx.setCell ?_ (by first | omega | (simp; done) | (simp <;> omega)))))).mono ?_; rintro e w' ⟨rfl, x2, rfl⟩) | (go_at_call 30; with_reducible refine (G0.out _).mono ?_; rintro e w' ⟨rfl, rfl⟩) | (go_at_call 30; with_reducible refine (G1.out _).mono ?_; rintro e w' ⟨rfl, rfl⟩) | (go_at_call 30; with_reducible refine (G2.out _).mono ?_; rintro e w' ⟨rfl, rfl⟩))
  go_ret
  exact ⟨rfl, (by repeat (first | (with_reducible exact Gx.refl _) | (with_reducible assumption) | (with_reducible refine Gx.gx ?_) | (with_reducible refine Gx.alloc ?_) | (with_reducible refine Gx.drew ?_) | (with_reducible refine Gx.drewN ?_) | (with_reducible refine Gx.setRow ?_ (by first | omega | (simp; done) | (simp <;> omega))) | (with_reducible refine Gx.setCell ?_ (by first | omega | (simp; done) | (simp <;> omega)))))⟩
set_option maxHeartbeats 4000000 in
set_option maxRecDepth 100000 in
theorem Rins_n (kd : Int) (nm tr : ByteArray) (pl lo hi st : Int) (Z : Option Addr) (zn zc : Nat) (op nn : Int) (lt : Bool) (sz : Int) (NB : Bool) (U : Bool) (w : World)
    (H1 : Hid (∀ W, (∃ x, W = gx w x) → Calls Tryz.prog 31 #[.string nm] W fun e W' => e = .returned (.bool NB) ∧ ∃ x, W' = gx W x))
    (H2 : Hid (∀ W, (∃ x, W = gx w x) → Calls Tryz.prog 32 #[inV kd nm tr pl lo hi st Z zn zc op nn lt sz] W fun e W' => e = .returned (.bool U) ∧ ∃ x, W' = gx W x))
    (hc : kd = 6 ∧ NB = true ∧ 0 < tr.size ∧ tr.size ≤ 30 ∧ U = false ∧ 0 ≤ pl ∧ pl ≤ 6 ∧ 1 ≤ sz ∧ sz ≤ 50) :
    Calls Tryz.prog 8 #[inV kd nm tr pl lo hi st Z zn zc op nn lt sz] w fun e w' => e = .returned (.int .i64 0) ∧ ∃ x, w' = gx w x := by
  obtain ⟨rfl, rfl, h2, h3, rfl, h5, h6, h7, h8⟩ := hc
  have G0 := Lib.hid (fun W => outsideP_any 6 1 6 false (.inl ⟨rfl, by omega, by omega⟩) W)
  have G1 := Lib.hid (fun W => outsideP_any pl 0 6 false (.inl ⟨rfl, by omega, by omega⟩) W)
  have G2 := Lib.hid (fun W => outsideP_any sz 1 50 false (.inl ⟨rfl, by omega, by omega⟩) W)
  obtain ⟨s1, s2⟩ := str_some (s := tr) (by omega)
  have k1 : decide (30 < (tr.size : Int)) = false := decide_eq_false (by omega)
  clear h2 h3 h5 h6 h7 h8
  go_enter Tryz.func8, Tryz.ntmps8
  go_wp2_with (first | go_skip | (go_at_call 31; refine (H1.out _ (by repeat (first | (with_reducible exact Gx.refl _) | (with_reducible assumption) | (with_reducible refine Gx.gx ?_) | (with_reducible refine Gx.alloc ?_) | (with_reducible refine Gx.drew ?_) | (with_reducible refine Gx.drewN ?_) | (with_reducible refine Gx.setRow ?_ (by first | omega | (simp; done) | (simp <;> omega))) | (with_reducible refine Gx.setCell ?_ (by first | omega | (simp; done) | (simp <;> omega)))))).mono ?_; rintro e w' ⟨rfl, x1, rfl⟩) | (go_at_call 32; refine (H2.out _ (by repeat (first | (with_reducible exact Gx.refl _) | (with_reducible assumption) | (with_reducible refine Gx.gx ?_) | (with_reducible refine Gx.alloc ?_) | (with_reducible refine Gx.drew ?_) | (with_reducible refine Gx.drewN ?_) | (with_reducible refine Gx.setRow ?_ (by first | omega | (simp; done) | (simp <;> omega))) | (with_reducible refine Gx.setCell ?_ (by first | omega | (simp; done) | (simp <;> omega)))))).mono ?_; rintro e w' ⟨rfl, x2, rfl⟩) | (go_at_call 30; with_reducible refine (G0.out _).mono ?_; rintro e w' ⟨rfl, rfl⟩) | (go_at_call 30; with_reducible refine (G1.out _).mono ?_; rintro e w' ⟨rfl, rfl⟩) | (go_at_call 30; with_reducible refine (G2.out _).mono ?_; rintro e w' ⟨rfl, rfl⟩))
  go_ret
  exact ⟨rfl, (by repeat (first | (with_reducible exact Gx.refl _) | (with_reducible assumption) | (with_reducible refine Gx.gx ?_) | (with_reducible refine Gx.alloc ?_) | (with_reducible refine Gx.drew ?_) | (with_reducible refine Gx.drewN ?_) | (with_reducible refine Gx.setRow ?_ (by first | omega | (simp; done) | (simp <;> omega))) | (with_reducible refine Gx.setCell ?_ (by first | omega | (simp; done) | (simp <;> omega)))))⟩
set_option maxHeartbeats 4000000 in
set_option maxRecDepth 100000 in
theorem Rins_o (kd : Int) (nm tr : ByteArray) (pl lo hi st : Int) (Z : Option Addr) (zn zc : Nat) (op nn : Int) (lt : Bool) (sz : Int) (NB : Bool) (U : Bool) (w : World)
    (H1 : Hid (∀ W, (∃ x, W = gx w x) → Calls Tryz.prog 31 #[.string nm] W fun e W' => e = .returned (.bool NB) ∧ ∃ x, W' = gx W x))
    (H2 : Hid (∀ W, (∃ x, W = gx w x) → Calls Tryz.prog 32 #[inV kd nm tr pl lo hi st Z zn zc op nn lt sz] W fun e W' => e = .returned (.bool U) ∧ ∃ x, W' = gx W x))
    (hc : kd = 1 ∧ NB = true ∧ 0 < tr.size ∧ tr.size ≤ 30 ∧ U = false ∧ 0 ≤ pl ∧ pl ≤ 6) :
    Calls Tryz.prog 8 #[inV kd nm tr pl lo hi st Z zn zc op nn lt sz] w fun e w' => e = .returned (.int .i64 0) ∧ ∃ x, w' = gx w x := by
  obtain ⟨rfl, rfl, h2, h3, rfl, h5, h6⟩ := hc
  have G0 := Lib.hid (fun W => outsideP_any 1 1 6 false (.inl ⟨rfl, by omega, by omega⟩) W)
  have G1 := Lib.hid (fun W => outsideP_any pl 0 6 false (.inl ⟨rfl, by omega, by omega⟩) W)
  obtain ⟨s1, s2⟩ := str_some (s := tr) (by omega)
  have k1 : decide (30 < (tr.size : Int)) = false := decide_eq_false (by omega)
  clear h2 h3 h5 h6
  go_enter Tryz.func8, Tryz.ntmps8
  go_wp2_with (first | go_skip | (go_at_call 31; refine (H1.out _ (by repeat (first | (with_reducible exact Gx.refl _) | (with_reducible assumption) | (with_reducible refine Gx.gx ?_) | (with_reducible refine Gx.alloc ?_) | (with_reducible refine Gx.drew ?_) | (with_reducible refine Gx.drewN ?_) | (with_reducible refine Gx.setRow ?_ (by first | omega | (simp; done) | (simp <;> omega))) | (with_reducible refine Gx.setCell ?_ (by first | omega | (simp; done) | (simp <;> omega)))))).mono ?_; rintro e w' ⟨rfl, x1, rfl⟩) | (go_at_call 32; refine (H2.out _ (by repeat (first | (with_reducible exact Gx.refl _) | (with_reducible assumption) | (with_reducible refine Gx.gx ?_) | (with_reducible refine Gx.alloc ?_) | (with_reducible refine Gx.drew ?_) | (with_reducible refine Gx.drewN ?_) | (with_reducible refine Gx.setRow ?_ (by first | omega | (simp; done) | (simp <;> omega))) | (with_reducible refine Gx.setCell ?_ (by first | omega | (simp; done) | (simp <;> omega)))))).mono ?_; rintro e w' ⟨rfl, x2, rfl⟩) | (go_at_call 30; with_reducible refine (G0.out _).mono ?_; rintro e w' ⟨rfl, rfl⟩) | (go_at_call 30; with_reducible refine (G1.out _).mono ?_; rintro e w' ⟨rfl, rfl⟩))
  go_ret
  exact ⟨rfl, (by repeat (first | (with_reducible exact Gx.refl _) | (with_reducible assumption) | (with_reducible refine Gx.gx ?_) | (with_reducible refine Gx.alloc ?_) | (with_reducible refine Gx.drew ?_) | (with_reducible refine Gx.drewN ?_) | (with_reducible refine Gx.setRow ?_ (by first | omega | (simp; done) | (simp <;> omega))) | (with_reducible refine Gx.setCell ?_ (by first | omega | (simp; done) | (simp <;> omega)))))⟩
set_option maxHeartbeats 4000000 in
set_option maxRecDepth 100000 in
theorem Rins_p (kd : Int) (nm tr : ByteArray) (pl lo hi st : Int) (Z : Option Addr) (zn zc : Nat) (op nn : Int) (lt : Bool) (sz : Int) (NB : Bool) (U : Bool) (w : World)
    (H1 : Hid (∀ W, (∃ x, W = gx w x) → Calls Tryz.prog 31 #[.string nm] W fun e W' => e = .returned (.bool NB) ∧ ∃ x, W' = gx W x))
    (H2 : Hid (∀ W, (∃ x, W = gx w x) → Calls Tryz.prog 32 #[inV kd nm tr pl lo hi st Z zn zc op nn lt sz] W fun e W' => e = .returned (.bool U) ∧ ∃ x, W' = gx W x))
    (hc : kd = 4 ∧ NB = true ∧ 0 < tr.size ∧ tr.size ≤ 30 ∧ U = false ∧ 0 ≤ pl ∧ pl ≤ 6) :
    Calls Tryz.prog 8 #[inV kd nm tr pl lo hi st Z zn zc op nn lt sz] w fun e w' => e = .returned (.int .i64 0) ∧ ∃ x, w' = gx w x := by
  obtain ⟨rfl, rfl, h2, h3, rfl, h5, h6⟩ := hc
  have G0 := Lib.hid (fun W => outsideP_any 4 1 6 false (.inl ⟨rfl, by omega, by omega⟩) W)
  have G1 := Lib.hid (fun W => outsideP_any pl 0 6 false (.inl ⟨rfl, by omega, by omega⟩) W)
  obtain ⟨s1, s2⟩ := str_some (s := tr) (by omega)
  have k1 : decide (30 < (tr.size : Int)) = false := decide_eq_false (by omega)
  clear h2 h3 h5 h6
  go_enter Tryz.func8, Tryz.ntmps8
  go_wp2_with (first | go_skip | (go_at_call 31; refine (H1.out _ (by repeat (first | (with_reducible exact Gx.refl _) | (with_reducible assumption) | (with_reducible refine Gx.gx ?_) | (with_reducible refine Gx.alloc ?_) | (with_reducible refine Gx.drew ?_) | (with_reducible refine Gx.drewN ?_) | (with_reducible refine Gx.setRow ?_ (by first | omega | (simp; done) | (simp <;> omega))) | (with_reducible refine Gx.setCell ?_ (by first | omega | (simp; done) | (simp <;> omega)))))).mono ?_; rintro e w' ⟨rfl, x1, rfl⟩) | (go_at_call 32; refine (H2.out _ (by repeat (first | (with_reducible exact Gx.refl _) | (with_reducible assumption) | (with_reducible refine Gx.gx ?_) | (with_reducible refine Gx.alloc ?_) | (with_reducible refine Gx.drew ?_) | (with_reducible refine Gx.drewN ?_) | (with_reducible refine Gx.setRow ?_ (by first | omega | (simp; done) | (simp <;> omega))) | (with_reducible refine Gx.setCell ?_ (by first | omega | (simp; done) | (simp <;> omega)))))).mono ?_; rintro e w' ⟨rfl, x2, rfl⟩) | (go_at_call 30; with_reducible refine (G0.out _).mono ?_; rintro e w' ⟨rfl, rfl⟩) | (go_at_call 30; with_reducible refine (G1.out _).mono ?_; rintro e w' ⟨rfl, rfl⟩))
  go_ret
  exact ⟨rfl, (by repeat (first | (with_reducible exact Gx.refl _) | (with_reducible assumption) | (with_reducible refine Gx.gx ?_) | (with_reducible refine Gx.alloc ?_) | (with_reducible refine Gx.drew ?_) | (with_reducible refine Gx.drewN ?_) | (with_reducible refine Gx.setRow ?_ (by first | omega | (simp; done) | (simp <;> omega))) | (with_reducible refine Gx.setCell ?_ (by first | omega | (simp; done) | (simp <;> omega)))))⟩
end Go.Proofs.YtocaphcnnmcnjaaGreatDoor

/-
  Comparisons: what is wrong with one, and the program's checkComparison.
-/
namespace Go.Proofs.YtocaphcnnmcnjaaGreatDoor
open Go.RowKit
-- AT2
-- AT3

@[irreducible] def compE (op nn : Int) : Int := if op < 1 ∨ 6 < op then 7 else if nn < -1125899906842624 ∨ 1125899906842624 < nn then 9 else 0
set_option maxHeartbeats 2000000 in
theorem checkComparison_1 (kd : Int) (nm tr : ByteArray) (pl lo hi st : Int) (Z : Option Addr) (zn zc : Nat) (op nn : Int) (lt : Bool) (sz : Int) (w : World) (hc : op < 1) :
    Calls Tryz.prog 29 #[inV kd nm tr pl lo hi st Z zn zc op nn lt sz] w fun e w' => e = .returned (.int .i64 7) ∧ ∃ x, w' = gx w x := by
  have G0 := Lib.hid (fun W => isOp_any op false (.inr (.inl ⟨rfl, by omega⟩)) W)
  clear hc
  go_enter Tryz.func29, Tryz.ntmps29
  go_wp2_with (first | go_skip | (go_at_call 54; with_reducible refine (G0.out _).mono ?_; rintro e w' ⟨rfl, rfl⟩))
  go_ret
  exact ⟨rfl, (by repeat (first | (with_reducible exact Gx.refl _) | (with_reducible assumption) | (with_reducible refine Gx.gx ?_) | (with_reducible refine Gx.alloc ?_) | (with_reducible refine Gx.drew ?_) | (with_reducible refine Gx.drewN ?_) | (with_reducible refine Gx.setRow ?_ (by first | omega | (simp; done) | (simp <;> omega))) | (with_reducible refine Gx.setCell ?_ (by first | omega | (simp; done) | (simp <;> omega)))))⟩
set_option maxHeartbeats 2000000 in
theorem checkComparison_2 (kd : Int) (nm tr : ByteArray) (pl lo hi st : Int) (Z : Option Addr) (zn zc : Nat) (op nn : Int) (lt : Bool) (sz : Int) (w : World) (hc : 6 < op) :
    Calls Tryz.prog 29 #[inV kd nm tr pl lo hi st Z zn zc op nn lt sz] w fun e w' => e = .returned (.int .i64 7) ∧ ∃ x, w' = gx w x := by
  have G0 := Lib.hid (fun W => isOp_any op false (.inr (.inr ⟨rfl, by omega⟩)) W)
  clear hc
  go_enter Tryz.func29, Tryz.ntmps29
  go_wp2_with (first | go_skip | (go_at_call 54; with_reducible refine (G0.out _).mono ?_; rintro e w' ⟨rfl, rfl⟩))
  go_ret
  exact ⟨rfl, (by repeat (first | (with_reducible exact Gx.refl _) | (with_reducible assumption) | (with_reducible refine Gx.gx ?_) | (with_reducible refine Gx.alloc ?_) | (with_reducible refine Gx.drew ?_) | (with_reducible refine Gx.drewN ?_) | (with_reducible refine Gx.setRow ?_ (by first | omega | (simp; done) | (simp <;> omega))) | (with_reducible refine Gx.setCell ?_ (by first | omega | (simp; done) | (simp <;> omega)))))⟩
set_option maxHeartbeats 2000000 in
theorem checkComparison_3 (kd : Int) (nm tr : ByteArray) (pl lo hi st : Int) (Z : Option Addr) (zn zc : Nat) (op nn : Int) (lt : Bool) (sz : Int) (w : World) (hc : 1 ≤ op ∧ op ≤ 6 ∧ nn < -1125899906842624) :
    Calls Tryz.prog 29 #[inV kd nm tr pl lo hi st Z zn zc op nn lt sz] w fun e w' => e = .returned (.int .i64 9) ∧ ∃ x, w' = gx w x := by
  have G0 := Lib.hid (fun W => isOp_any op true (.inl ⟨rfl, by omega, by omega⟩) W)
  have G1 := Lib.hid (fun W => pNumber_any nn false (.inr (.inl ⟨rfl, by omega⟩)) W)
  clear hc
  go_enter Tryz.func29, Tryz.ntmps29
  go_wp2_with (first | go_skip | (go_at_call 54; with_reducible refine (G0.out _).mono ?_; rintro e w' ⟨rfl, rfl⟩) | (go_at_call 51; with_reducible refine (G1.out _).mono ?_; rintro e w' ⟨rfl, rfl⟩))
  go_ret
  exact ⟨rfl, (by repeat (first | (with_reducible exact Gx.refl _) | (with_reducible assumption) | (with_reducible refine Gx.gx ?_) | (with_reducible refine Gx.alloc ?_) | (with_reducible refine Gx.drew ?_) | (with_reducible refine Gx.drewN ?_) | (with_reducible refine Gx.setRow ?_ (by first | omega | (simp; done) | (simp <;> omega))) | (with_reducible refine Gx.setCell ?_ (by first | omega | (simp; done) | (simp <;> omega)))))⟩
set_option maxHeartbeats 2000000 in
theorem checkComparison_4 (kd : Int) (nm tr : ByteArray) (pl lo hi st : Int) (Z : Option Addr) (zn zc : Nat) (op nn : Int) (lt : Bool) (sz : Int) (w : World) (hc : 1 ≤ op ∧ op ≤ 6 ∧ 1125899906842624 < nn) :
    Calls Tryz.prog 29 #[inV kd nm tr pl lo hi st Z zn zc op nn lt sz] w fun e w' => e = .returned (.int .i64 9) ∧ ∃ x, w' = gx w x := by
  have G0 := Lib.hid (fun W => isOp_any op true (.inl ⟨rfl, by omega, by omega⟩) W)
  have G1 := Lib.hid (fun W => pNumber_any nn false (.inr (.inr ⟨rfl, by omega⟩)) W)
  clear hc
  go_enter Tryz.func29, Tryz.ntmps29
  go_wp2_with (first | go_skip | (go_at_call 54; with_reducible refine (G0.out _).mono ?_; rintro e w' ⟨rfl, rfl⟩) | (go_at_call 51; with_reducible refine (G1.out _).mono ?_; rintro e w' ⟨rfl, rfl⟩))
  go_ret
  exact ⟨rfl, (by repeat (first | (with_reducible exact Gx.refl _) | (with_reducible assumption) | (with_reducible refine Gx.gx ?_) | (with_reducible refine Gx.alloc ?_) | (with_reducible refine Gx.drew ?_) | (with_reducible refine Gx.drewN ?_) | (with_reducible refine Gx.setRow ?_ (by first | omega | (simp; done) | (simp <;> omega))) | (with_reducible refine Gx.setCell ?_ (by first | omega | (simp; done) | (simp <;> omega)))))⟩
set_option maxHeartbeats 2000000 in
theorem checkComparison_5 (kd : Int) (nm tr : ByteArray) (pl lo hi st : Int) (Z : Option Addr) (zn zc : Nat) (op nn : Int) (lt : Bool) (sz : Int) (w : World) (hc : 1 ≤ op ∧ op ≤ 6 ∧ -1125899906842624 ≤ nn ∧ nn ≤ 1125899906842624) :
    Calls Tryz.prog 29 #[inV kd nm tr pl lo hi st Z zn zc op nn lt sz] w fun e w' => e = .returned (.int .i64 0) ∧ ∃ x, w' = gx w x := by
  have G0 := Lib.hid (fun W => isOp_any op true (.inl ⟨rfl, by omega, by omega⟩) W)
  have G1 := Lib.hid (fun W => pNumber_any nn true (.inl ⟨rfl, by omega, by omega⟩) W)
  clear hc
  go_enter Tryz.func29, Tryz.ntmps29
  go_wp2_with (first | go_skip | (go_at_call 54; with_reducible refine (G0.out _).mono ?_; rintro e w' ⟨rfl, rfl⟩) | (go_at_call 51; with_reducible refine (G1.out _).mono ?_; rintro e w' ⟨rfl, rfl⟩))
  go_ret
  exact ⟨rfl, (by repeat (first | (with_reducible exact Gx.refl _) | (with_reducible assumption) | (with_reducible refine Gx.gx ?_) | (with_reducible refine Gx.alloc ?_) | (with_reducible refine Gx.drew ?_) | (with_reducible refine Gx.drewN ?_) | (with_reducible refine Gx.setRow ?_ (by first | omega | (simp; done) | (simp <;> omega))) | (with_reducible refine Gx.setCell ?_ (by first | omega | (simp; done) | (simp <;> omega)))))⟩
theorem checkComparison_any (kd : Int) (nm tr : ByteArray) (pl lo hi st : Int) (Z : Option Addr) (zn zc : Nat) (op nn : Int) (lt : Bool) (sz : Int) (w : World) :
    Calls Tryz.prog 29 #[inV kd nm tr pl lo hi st Z zn zc op nn lt sz] w fun e w' => e = .returned (.int .i64 (compE op nn)) ∧ ∃ x, w' = gx w x := by
  by_cases h1 : op < 1
  · rw [show compE op nn = 7 by unfold compE; rw [if_pos (by omega)]]; exact checkComparison_1 kd nm tr pl lo hi st Z zn zc op nn lt sz w h1
  by_cases h2 : 6 < op
  · rw [show compE op nn = 7 by unfold compE; rw [if_pos (by omega)]]; exact checkComparison_2 kd nm tr pl lo hi st Z zn zc op nn lt sz w h2
  by_cases h3 : nn < -1125899906842624
  · rw [show compE op nn = 9 by unfold compE; rw [if_neg (by omega), if_pos (by omega)]]; exact checkComparison_3 kd nm tr pl lo hi st Z zn zc op nn lt sz w (by omega)
  by_cases h4 : 1125899906842624 < nn
  · rw [show compE op nn = 9 by unfold compE; rw [if_neg (by omega), if_pos (by omega)]]; exact checkComparison_4 kd nm tr pl lo hi st Z zn zc op nn lt sz w (by omega)
  · rw [show compE op nn = 0 by unfold compE; rw [if_neg (by omega), if_neg (by omega)]]; exact checkComparison_5 kd nm tr pl lo hi st Z zn zc op nn lt sz w (by omega)
end Go.Proofs.YtocaphcnnmcnjaaGreatDoor

/-
  Instruments: CheckInstrument of both sides is insE, over letters.
-/
namespace Go.Proofs.YtocaphcnnmcnjaaGreatDoor
open Go.RowKit

theorem insE_1 {kd : Int} {NB : Bool} {ts : Nat} {MB : Bool} {pl DE CE sz : Int} (h : kd < 1 ∨ 6 < kd) : insE kd NB ts MB pl DE CE sz = 7 := by unfold insE; rw [if_pos h]
theorem insE_2 {kd : Int} {NB : Bool} {ts : Nat} {MB : Bool} {pl DE CE sz : Int} (h : 1 ≤ kd ∧ kd ≤ 6) (h2 : NB = false ∨ ts = 0 ∨ 30 < ts) : insE kd NB ts MB pl DE CE sz = 8 := by unfold insE; rw [if_neg (by omega), if_pos h2]
theorem insE_3 {kd : Int} {ts : Nat} {pl DE CE sz : Int} (h : 1 ≤ kd ∧ kd ≤ 6) (h2 : 0 < ts ∧ ts ≤ 30) : insE kd true ts true pl DE CE sz = 2 := by unfold insE; rw [if_neg (by omega), if_neg (by rintro (e | e | e) <;> first | omega | cases e), if_pos rfl]
theorem insE_4 {kd : Int} {ts : Nat} {pl DE CE sz : Int} (h : 1 ≤ kd ∧ kd ≤ 6) (h2 : 0 < ts ∧ ts ≤ 30) (h3 : pl < 0 ∨ 6 < pl) : insE kd true ts false pl DE CE sz = 9 := by unfold insE; rw [if_neg (by omega), if_neg (by rintro (e | e | e) <;> first | omega | cases e), if_neg (by decide), if_pos h3]
theorem insE_5 {kd : Int} {ts : Nat} {pl DE CE sz : Int} (h : 1 ≤ kd ∧ kd ≤ 6) (h2 : 0 < ts ∧ ts ≤ 30) (h3 : 0 ≤ pl ∧ pl ≤ 6) : insE kd true ts false pl DE CE sz = if kd = 2 then DE else if kd = 3 ∨ kd = 5 then CE else if kd = 6 ∧ (sz < 1 ∨ 50 < sz) then 9 else 0 := by unfold insE; rw [if_neg (by omega), if_neg (by rintro (e | e | e) <;> first | omega | cases e), if_neg (by decide), if_neg (by omega)]
theorem CheckIns_core (kd : Int) (nm tr : ByteArray) (pl lo hi st : Int) (Z : Option Addr) (zn zc : Nat) (op nn : Int) (lt : Bool) (sz : Int) (I : Value) (hI : I = inV kd nm tr pl lo hi st Z zn zc op nn lt sz) (F : List (Bool × List Int)) (NB MB : Bool) (DE CE : Int) (w : World)
    (H1 : Hid (∀ W, (∃ x, W = gx w x) → Calls Tryz.prog 25 #[.string nm] W fun e W' => e = .returned (.bool NB) ∧ ∃ x, W' = gx W x))
    (H2 : Hid (∀ W, (∃ x, W = gx w x) → Calls Tryz.prog 27 #[I] W fun e W' => ∃ A, e = .returned (.slice A 5 5) ∧ FiveAt W' F A ∧ ∃ x, W' = gx W x))
    (H3 : Hid (∀ W A, FiveAt W F A → (∃ x, W = gx w x) → Calls Tryz.prog 26 #[.int .i64 kd, .slice A 5 5] W fun e W' => e = .returned (.bool MB) ∧ ∃ x, W' = gx W x))
    (H4 : Hid (∀ W, (∃ x, W = gx w x) → Calls Tryz.prog 28 #[I] W fun e W' => e = .returned (.int .i64 DE) ∧ ∃ x, W' = gx W x))
    (H5 : Hid (∀ W, (∃ x, W = gx w x) → Calls Tryz.prog 29 #[I] W fun e W' => e = .returned (.int .i64 CE) ∧ ∃ x, W' = gx W x)) :
    Calls Tryz.prog 7 #[I] w fun e w' => e = .returned (.int .i64 (insE kd NB tr.size MB pl DE CE sz)) ∧ ∃ x, w' = gx w x := by
  by_cases g1 : kd < 1
  · rw [insE_1 (by omega)]; exact ins_a kd nm tr pl lo hi st Z zn zc op nn lt sz I hI w g1
  by_cases g2 : 6 < kd
  · rw [insE_1 (by omega)]; exact ins_b kd nm tr pl lo hi st Z zn zc op nn lt sz I hI w g2
  cases NB with
  | false => rw [insE_2 (by omega) (.inl rfl)]; exact ins_c kd nm tr pl lo hi st Z zn zc op nn lt sz I hI _ w H1 ⟨by omega, by omega, rfl⟩
  | true =>
    by_cases g3 : tr.size = 0
    · rw [insE_2 (by omega) (.inr (.inl g3))]; exact ins_d kd nm tr pl lo hi st Z zn zc op nn lt sz I hI _ w H1 ⟨by omega, by omega, rfl, g3⟩
    by_cases g4 : 30 < tr.size
    · rw [insE_2 (by omega) (.inr (.inr g4))]; exact ins_e kd nm tr pl lo hi st Z zn zc op nn lt sz I hI _ w H1 ⟨by omega, by omega, rfl, g4⟩
    cases MB with
    | true => rw [insE_3 (by omega) (by omega)]; exact ins_f kd nm tr pl lo hi st Z zn zc op nn lt sz I hI F _ _ w H1 H2 H3 ⟨by omega, by omega, rfl, by omega, by omega, rfl⟩
    | false =>
      by_cases g5 : pl < 0
      · rw [insE_4 (by omega) (by omega) (.inl g5)]; exact ins_g kd nm tr pl lo hi st Z zn zc op nn lt sz I hI F _ _ w H1 H2 H3 ⟨by omega, by omega, rfl, by omega, by omega, rfl, g5⟩
      by_cases g6 : 6 < pl
      · rw [insE_4 (by omega) (by omega) (.inr g6)]; exact ins_h kd nm tr pl lo hi st Z zn zc op nn lt sz I hI F _ _ w H1 H2 H3 ⟨by omega, by omega, rfl, by omega, by omega, rfl, g6⟩
      rw [insE_5 (by omega) (by omega) (by omega)]
      by_cases q2 : kd = 2
      · rw [if_pos q2]; exact ins_i kd nm tr pl lo hi st Z zn zc op nn lt sz I hI F _ _ DE w H1 H2 H3 H4 ⟨by omega, rfl, by omega, by omega, rfl, by omega, by omega⟩
      rw [if_neg q2]
      by_cases q3 : kd = 3
      · rw [if_pos (.inl q3)]; exact ins_j kd nm tr pl lo hi st Z zn zc op nn lt sz I hI F _ _ CE w H1 H2 H3 H5 ⟨by omega, rfl, by omega, by omega, rfl, by omega, by omega⟩
      by_cases q5 : kd = 5
      · rw [if_pos (.inr q5)]; exact ins_k kd nm tr pl lo hi st Z zn zc op nn lt sz I hI F _ _ CE w H1 H2 H3 H5 ⟨by omega, rfl, by omega, by omega, rfl, by omega, by omega⟩
      rw [if_neg (by omega)]
      by_cases q6 : kd = 6
      · by_cases z1 : sz < 1
        · rw [if_pos ⟨q6, .inl z1⟩]; exact ins_l kd nm tr pl lo hi st Z zn zc op nn lt sz I hI F _ _ w H1 H2 H3 ⟨by omega, rfl, by omega, by omega, rfl, by omega, by omega, by omega⟩
        by_cases z2 : 50 < sz
        · rw [if_pos ⟨q6, .inr z2⟩]; exact ins_m kd nm tr pl lo hi st Z zn zc op nn lt sz I hI F _ _ w H1 H2 H3 ⟨by omega, rfl, by omega, by omega, rfl, by omega, by omega, by omega⟩
        rw [if_neg (by omega)]; exact ins_n kd nm tr pl lo hi st Z zn zc op nn lt sz I hI F _ _ w H1 H2 H3 ⟨by omega, rfl, by omega, by omega, rfl, by omega, by omega, by omega, by omega⟩
      rw [if_neg (by omega)]
      by_cases q1 : kd = 1
      · exact ins_o kd nm tr pl lo hi st Z zn zc op nn lt sz I hI F _ _ w H1 H2 H3 ⟨by omega, rfl, by omega, by omega, rfl, by omega, by omega⟩
      · exact ins_p kd nm tr pl lo hi st Z zn zc op nn lt sz I hI F _ _ w H1 H2 H3 ⟨by omega, rfl, by omega, by omega, rfl, by omega, by omega⟩
theorem RCheckIns_core (kd : Int) (nm tr : ByteArray) (pl lo hi st : Int) (Z : Option Addr) (zn zc : Nat) (op nn : Int) (lt : Bool) (sz : Int) (NB MB : Bool) (DE : Int) (w : World)
    (H1 : Hid (∀ W, (∃ x, W = gx w x) → Calls Tryz.prog 31 #[.string nm] W fun e W' => e = .returned (.bool NB) ∧ ∃ x, W' = gx W x))
    (H2 : Hid (∀ W, (∃ x, W = gx w x) → Calls Tryz.prog 32 #[inV kd nm tr pl lo hi st Z zn zc op nn lt sz] W fun e W' => e = .returned (.bool MB) ∧ ∃ x, W' = gx W x))
    (H3 : Hid (∀ W, (∃ x, W = gx w x) → Calls Tryz.prog 33 #[inV kd nm tr pl lo hi st Z zn zc op nn lt sz] W fun e W' => e = .returned (.int .i64 DE) ∧ ∃ x, W' = gx W x)) :
    Calls Tryz.prog 8 #[inV kd nm tr pl lo hi st Z zn zc op nn lt sz] w fun e w' => e = .returned (.int .i64 (insE kd NB tr.size MB pl DE (compE op nn) sz)) ∧ ∃ x, w' = gx w x := by
  by_cases g1 : kd < 1
  · rw [insE_1 (by omega)]; exact Rins_a kd nm tr pl lo hi st Z zn zc op nn lt sz w g1
  by_cases g2 : 6 < kd
  · rw [insE_1 (by omega)]; exact Rins_b kd nm tr pl lo hi st Z zn zc op nn lt sz w g2
  cases NB with
  | false => rw [insE_2 (by omega) (.inl rfl)]; exact Rins_c kd nm tr pl lo hi st Z zn zc op nn lt sz _ w H1 ⟨by omega, by omega, rfl⟩
  | true =>
    by_cases g3 : tr.size = 0
    · rw [insE_2 (by omega) (.inr (.inl g3))]; exact Rins_d kd nm tr pl lo hi st Z zn zc op nn lt sz _ w H1 ⟨by omega, by omega, rfl, g3⟩
    by_cases g4 : 30 < tr.size
    · rw [insE_2 (by omega) (.inr (.inr g4))]; exact Rins_e kd nm tr pl lo hi st Z zn zc op nn lt sz _ w H1 ⟨by omega, by omega, rfl, g4⟩
    cases MB with
    | true => rw [insE_3 (by omega) (by omega)]; exact Rins_f kd nm tr pl lo hi st Z zn zc op nn lt sz _ _ w H1 H2 ⟨by omega, by omega, rfl, by omega, by omega, rfl⟩
    | false =>
      by_cases g5 : pl < 0
      · rw [insE_4 (by omega) (by omega) (.inl g5)]; exact Rins_g kd nm tr pl lo hi st Z zn zc op nn lt sz _ _ w H1 H2 ⟨by omega, by omega, rfl, by omega, by omega, rfl, g5⟩
      by_cases g6 : 6 < pl
      · rw [insE_4 (by omega) (by omega) (.inr g6)]; exact Rins_h kd nm tr pl lo hi st Z zn zc op nn lt sz _ _ w H1 H2 ⟨by omega, by omega, rfl, by omega, by omega, rfl, g6⟩
      rw [insE_5 (by omega) (by omega) (by omega)]
      by_cases q2 : kd = 2
      · rw [if_pos q2]; exact Rins_i kd nm tr pl lo hi st Z zn zc op nn lt sz _ _ DE w H1 H2 H3 ⟨by omega, rfl, by omega, by omega, rfl, by omega, by omega⟩
      rw [if_neg q2]
      by_cases q3 : kd = 3
      · rw [if_pos (.inl q3)]
        by_cases p1 : op < 1
        · rw [show compE op nn = 7 by unfold compE; rw [if_pos (by omega)]]; exact Rins_j31 kd nm tr pl lo hi st Z zn zc op nn lt sz _ _ w H1 H2 ⟨by omega, rfl, by omega, by omega, rfl, by omega, by omega, by omega⟩
        by_cases p2 : 6 < op
        · rw [show compE op nn = 7 by unfold compE; rw [if_pos (by omega)]]; exact Rins_j32 kd nm tr pl lo hi st Z zn zc op nn lt sz _ _ w H1 H2 ⟨by omega, rfl, by omega, by omega, rfl, by omega, by omega, by omega⟩
        by_cases p3 : nn < -1125899906842624
        · rw [show compE op nn = 9 by unfold compE; rw [if_neg (by omega), if_pos (by omega)]]; exact Rins_j33 kd nm tr pl lo hi st Z zn zc op nn lt sz _ _ w H1 H2 ⟨by omega, rfl, by omega, by omega, rfl, by omega, by omega, by omega, by omega, by omega⟩
        by_cases p4 : 1125899906842624 < nn
        · rw [show compE op nn = 9 by unfold compE; rw [if_neg (by omega), if_pos (by omega)]]; exact Rins_j34 kd nm tr pl lo hi st Z zn zc op nn lt sz _ _ w H1 H2 ⟨by omega, rfl, by omega, by omega, rfl, by omega, by omega, by omega, by omega, by omega⟩
        · rw [show compE op nn = 0 by unfold compE; rw [if_neg (by omega), if_neg (by omega)]]; exact Rins_j35 kd nm tr pl lo hi st Z zn zc op nn lt sz _ _ w H1 H2 ⟨by omega, rfl, by omega, by omega, rfl, by omega, by omega, by omega, by omega, by omega, by omega⟩
      by_cases q5 : kd = 5
      · rw [if_pos (.inr q5)]
        by_cases p1 : op < 1
        · rw [show compE op nn = 7 by unfold compE; rw [if_pos (by omega)]]; exact Rins_j51 kd nm tr pl lo hi st Z zn zc op nn lt sz _ _ w H1 H2 ⟨by omega, rfl, by omega, by omega, rfl, by omega, by omega, by omega⟩
        by_cases p2 : 6 < op
        · rw [show compE op nn = 7 by unfold compE; rw [if_pos (by omega)]]; exact Rins_j52 kd nm tr pl lo hi st Z zn zc op nn lt sz _ _ w H1 H2 ⟨by omega, rfl, by omega, by omega, rfl, by omega, by omega, by omega⟩
        by_cases p3 : nn < -1125899906842624
        · rw [show compE op nn = 9 by unfold compE; rw [if_neg (by omega), if_pos (by omega)]]; exact Rins_j53 kd nm tr pl lo hi st Z zn zc op nn lt sz _ _ w H1 H2 ⟨by omega, rfl, by omega, by omega, rfl, by omega, by omega, by omega, by omega, by omega⟩
        by_cases p4 : 1125899906842624 < nn
        · rw [show compE op nn = 9 by unfold compE; rw [if_neg (by omega), if_pos (by omega)]]; exact Rins_j54 kd nm tr pl lo hi st Z zn zc op nn lt sz _ _ w H1 H2 ⟨by omega, rfl, by omega, by omega, rfl, by omega, by omega, by omega, by omega, by omega⟩
        · rw [show compE op nn = 0 by unfold compE; rw [if_neg (by omega), if_neg (by omega)]]; exact Rins_j55 kd nm tr pl lo hi st Z zn zc op nn lt sz _ _ w H1 H2 ⟨by omega, rfl, by omega, by omega, rfl, by omega, by omega, by omega, by omega, by omega, by omega⟩
      rw [if_neg (by omega)]
      by_cases q6 : kd = 6
      · by_cases z1 : sz < 1
        · rw [if_pos ⟨q6, .inl z1⟩]; exact Rins_l kd nm tr pl lo hi st Z zn zc op nn lt sz _ _ w H1 H2 ⟨by omega, rfl, by omega, by omega, rfl, by omega, by omega, by omega⟩
        by_cases z2 : 50 < sz
        · rw [if_pos ⟨q6, .inr z2⟩]; exact Rins_m kd nm tr pl lo hi st Z zn zc op nn lt sz _ _ w H1 H2 ⟨by omega, rfl, by omega, by omega, rfl, by omega, by omega, by omega⟩
        rw [if_neg (by omega)]; exact Rins_n kd nm tr pl lo hi st Z zn zc op nn lt sz _ _ w H1 H2 ⟨by omega, rfl, by omega, by omega, rfl, by omega, by omega, by omega, by omega⟩
      rw [if_neg (by omega)]
      by_cases q1 : kd = 1
      · exact Rins_o kd nm tr pl lo hi st Z zn zc op nn lt sz _ _ w H1 H2 ⟨by omega, rfl, by omega, by omega, rfl, by omega, by omega⟩
      · exact Rins_p kd nm tr pl lo hi st Z zn zc op nn lt sz _ _ w H1 H2 ⟨by omega, rfl, by omega, by omega, rfl, by omega, by omega⟩
end Go.Proofs.YtocaphcnnmcnjaaGreatDoor

/-
  Is a kind among some? The reference's has, at any list of numbers.
-/
namespace Go.Proofs.YtocaphcnnmcnjaaGreatDoor
open Go.RowKit
-- AT2
-- AT3

set_option maxHeartbeats 1000000 in
theorem RHas_any (ks : List Int) (gk c : Nat) (v : Int) (w : World) (h : NsAt w gk ks) (hl : ks.length ≤ 100) :
    Calls Tryz.prog 61 #[.int .i64 v, .slice (some ⟨gk, 0, none⟩) ks.length c] w fun e w' => e = .returned (.bool (inI ks v)) ∧ w = w' := by
  obtain ⟨hg, hc⟩ := h.out
  have HC := Lib.hid hc
  clear h hc
  go_enter Tryz.func61, Tryz.ntmps61
  go_wp2
  go_loop [9] (fun i => ∃ k : Nat, k ≤ ks.length ∧ i = .int .i64 k ∧ Hid (∀ j, j < k → ks.getD j 0 ≠ v)) (fun i => ks.length - (intOf i).toNat)
  case atStart => exact ⟨0, Nat.zero_le _, rfl, Lib.hid (fun j hj => by omega)⟩
  case round =>
    obtain ⟨k, hk, rfl, HN⟩ := hrel
    by_cases hlt : k < ks.length
    · have ck := HC.out k hlt
      have hlt' : (k : Int) < (ks.length : Int) := by omega
      by_cases hv : ks.getD k 0 = v
      · have HI := Lib.hid (in_at hlt hv)
        have hv2 : (ks.getD k 0 == v) = true := by rw [beq_iff_eq]; exact hv
        clear hv
        generalize ks.getD k 0 = u at *
        go_wp2
        go_ret
        exact ⟨by rw [HI.out]; rfl, rfl⟩
      · have HM := Lib.hid (notIn_step HN.out hv)
        have hv2 : (ks.getD k 0 == v) = false := by rw [beq_eq_false_iff_ne]; exact hv
        clear hv
        generalize ks.getD k 0 = u at *
        go_wp2
        go_round
        case rel => exact ⟨k + 1, by omega, by go_num, HM⟩
        case measure => simp [intOf]; omega
    · obtain rfl : k = ks.length := by omega
      have HI := Lib.hid (notIn_all HN.out)
      go_wp2
      go_ret
      exact ⟨by rw [HI.out]; rfl, rfl⟩
end Go.Proofs.YtocaphcnnmcnjaaGreatDoor
