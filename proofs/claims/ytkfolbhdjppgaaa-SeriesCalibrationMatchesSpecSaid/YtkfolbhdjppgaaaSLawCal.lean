/-
  The law SeriesCalibrationMatchesSpec, walked.
-/
import Derived.Test.YtkfolbhdjppgaaaSRNear
namespace Go.Proofs.Ytkfolbhdjppgaaa
open Go.RowKit
-- AT2

theorem GrainIs.ex (den : Int) (g : Nat → Ln) (n : Nat) (lo hi : Int) : ∃ v er, GrainIs den g n lo hi v er := by
  by_cases h : calE den g n lo hi = 0
  · exact ⟨_, _, .inr ⟨h, rfl, rfl⟩⟩
  · exact ⟨_, _, .inl ⟨h, rfl, rfl⟩⟩
set_option maxHeartbeats 2000000 in
set_option maxRecDepth 100000 in
theorem calLaw_core (V : Value) (den : Int) (A : Option Addr) (n c : Nat) (lo hi v x : Int) (hV : V = calV den A n c lo hi) (w : World) (cE m er u er2 gr er3 : Int) (is : Bool)
    (H1 : Hid (∀ W, (∃ x, W = gx w x) → Calls Try.prog 8 #[V, .int .i64 v] W fun e w' => e = .returned (.tuple #[.int .i64 m, .bool is, .int .i64 er]) ∧ ∃ x, w' = gx W x))
    (H2 : Hid (∀ W, (∃ x, W = gx w x) → Calls Try.prog 9 #[V, .int .i64 v] W fun e w' => e = .returned (.tuple #[.int .i64 m, .bool is, .int .i64 er]) ∧ ∃ x, w' = gx W x))
    (H3 : Hid (∀ W, (∃ x, W = gx w x) → Calls Try.prog 10 #[V] W fun e w' => e = .returned (.int .i64 cE) ∧ ∃ x, w' = gx W x))
    (H4 : Hid (∀ W, (∃ x, W = gx w x) → Calls Try.prog 11 #[V] W fun e w' => e = .returned (.int .i64 cE) ∧ ∃ x, w' = gx W x))
    (H5 : Hid (∀ W, (∃ x, W = gx w x) → Calls Try.prog 12 #[V, .int .i64 x] W fun e w' => e = .returned (.tuple #[.int .i64 u, .int .i64 er2]) ∧ ∃ x, w' = gx W x))
    (H6 : Hid (∀ W, (∃ x, W = gx w x) → Calls Try.prog 13 #[V, .int .i64 x] W fun e w' => e = .returned (.tuple #[.int .i64 u, .int .i64 er2]) ∧ ∃ x, w' = gx W x))
    (H7 : Hid (∀ W, (∃ x, W = gx w x) → Calls Try.prog 14 #[V] W fun e w' => e = .returned (.tuple #[.int .i64 gr, .int .i64 er3]) ∧ ∃ x, w' = gx W x))
    (H8 : Hid (∀ W, (∃ x, W = gx w x) → Calls Try.prog 15 #[V] W fun e w' => e = .returned (.tuple #[.int .i64 gr, .int .i64 er3]) ∧ ∃ x, w' = gx W x)) :
    Calls Try.prog 3 #[V, .int .i64 v, .int .i64 x] w fun e w' => e = .returned (.bool true) ∧ ∃ x, w' = gx w x := by
  subst hV
  have e1 : (cE != cE) = false := by simp
  have e2 : (m != m) = false := by simp
  have e3 : (is != is) = false := by simp
  have e4 : (er != er) = false := by simp
  go_enter Try.func3, Try.ntmps3
  go_wp2_with first
    | (go_at_call 8; refine (H1.out _ (by repeat (first | (with_reducible exact Gx.refl _) | (with_reducible assumption) | (with_reducible refine Gx.gx ?_) | (with_reducible refine Gx.alloc ?_) | (with_reducible refine Gx.drew ?_) | (with_reducible refine Gx.drewN ?_) | (with_reducible refine Gx.setRow ?_ (by simp)) | (with_reducible refine Gx.setCell ?_ (by simp))))).mono ?_; rintro e w' ⟨rfl, x1, rfl⟩)
    | (go_at_call 9; refine (H2.out _ (by repeat (first | (with_reducible exact Gx.refl _) | (with_reducible assumption) | (with_reducible refine Gx.gx ?_) | (with_reducible refine Gx.alloc ?_) | (with_reducible refine Gx.drew ?_) | (with_reducible refine Gx.drewN ?_) | (with_reducible refine Gx.setRow ?_ (by simp)) | (with_reducible refine Gx.setCell ?_ (by simp))))).mono ?_; rintro e w' ⟨rfl, x1, rfl⟩)
  first | (with_reducible refine region_gxx (by kernel_rfl) (by kernel_rfl) ?_) | (with_reducible refine region_gx (by kernel_rfl) (by kernel_rfl) ?_)
  repeat (any_goals (first | (refine quiet_fr rfl _ rfl _ rfl ?_ ?_ ?_ ?_; rotate_left; (focus (rintro _ ⟨x, rfl⟩; (focus (repeat (first | (with_reducible assumption) | (with_reducible exact At.new _ _) | (with_reducible refine At.row ?_) | (with_reducible refine At.app ?_) | (with_reducible refine At.tick ?_) | (with_reducible refine At.gx ?_) | ((with_reducible refine At.new' ?_); focus (simp; done)) | (with_reducible refine At.alloc ?_) | (with_reducible refine At.drew ?_) | (with_reducible exact Is.new _ _ _) | (with_reducible refine Is.row ?_) | (with_reducible refine Is.gx ?_) | ((with_reducible refine Is.new' ?_); focus (simp; done)) | (with_reducible refine Is.alloc ?_) | (with_reducible refine Is.drew ?_)))))); (focus (with_reducible (first | exact hl | exact hl1 | exact hl2 | exact hl3 | exact hl4 | exact zeroF_len)))) | go_big_quiet_step ((first | (go_at_call 10; exact calls_gx (H3.out _ (by repeat (first | (with_reducible exact Gx.refl _) | (with_reducible assumption) | (with_reducible refine Gx.gx ?_) | (with_reducible refine Gx.alloc ?_) | (with_reducible refine Gx.drew ?_) | (with_reducible refine Gx.drewN ?_) | (with_reducible refine Gx.setRow ?_ (by simp)) | (with_reducible refine Gx.setCell ?_ (by simp)))))) | (go_at_call 11; exact calls_gx (H4.out _ (by repeat (first | (with_reducible exact Gx.refl _) | (with_reducible assumption) | (with_reducible refine Gx.gx ?_) | (with_reducible refine Gx.alloc ?_) | (with_reducible refine Gx.drew ?_) | (with_reducible refine Gx.drewN ?_) | (with_reducible refine Gx.setRow ?_ (by simp)) | (with_reducible refine Gx.setCell ?_ (by simp)))))))) | quiet_step ((first | (go_at_call 10; exact calls_gx (H3.out _ (by repeat (first | (with_reducible exact Gx.refl _) | (with_reducible assumption) | (with_reducible refine Gx.gx ?_) | (with_reducible refine Gx.alloc ?_) | (with_reducible refine Gx.drew ?_) | (with_reducible refine Gx.drewN ?_) | (with_reducible refine Gx.setRow ?_ (by simp)) | (with_reducible refine Gx.setCell ?_ (by simp)))))) | (go_at_call 11; exact calls_gx (H4.out _ (by repeat (first | (with_reducible exact Gx.refl _) | (with_reducible assumption) | (with_reducible refine Gx.gx ?_) | (with_reducible refine Gx.alloc ?_) | (with_reducible refine Gx.drew ?_) | (with_reducible refine Gx.drewN ?_) | (with_reducible refine Gx.setRow ?_ (by simp)) | (with_reducible refine Gx.setCell ?_ (by simp))))))))))
  refine wpQuiet_nil ?_
  rintro _ ⟨x, rfl⟩
  go_wp2_with first
    | (go_at_call 12; refine (H5.out _ (by repeat (first | (with_reducible exact Gx.refl _) | (with_reducible assumption) | (with_reducible refine Gx.gx ?_) | (with_reducible refine Gx.alloc ?_) | (with_reducible refine Gx.drew ?_) | (with_reducible refine Gx.drewN ?_) | (with_reducible refine Gx.setRow ?_ (by simp)) | (with_reducible refine Gx.setCell ?_ (by simp))))).mono ?_; rintro e w' ⟨rfl, x1, rfl⟩)
    | (go_at_call 13; refine (H6.out _ (by repeat (first | (with_reducible exact Gx.refl _) | (with_reducible assumption) | (with_reducible refine Gx.gx ?_) | (with_reducible refine Gx.alloc ?_) | (with_reducible refine Gx.drew ?_) | (with_reducible refine Gx.drewN ?_) | (with_reducible refine Gx.setRow ?_ (by simp)) | (with_reducible refine Gx.setCell ?_ (by simp))))).mono ?_; rintro e w' ⟨rfl, x1, rfl⟩)
    | (go_at_call 14; refine (H7.out _ (by repeat (first | (with_reducible exact Gx.refl _) | (with_reducible assumption) | (with_reducible refine Gx.gx ?_) | (with_reducible refine Gx.alloc ?_) | (with_reducible refine Gx.drew ?_) | (with_reducible refine Gx.drewN ?_) | (with_reducible refine Gx.setRow ?_ (by simp)) | (with_reducible refine Gx.setCell ?_ (by simp))))).mono ?_; rintro e w' ⟨rfl, x1, rfl⟩)
    | (go_at_call 15; refine (H8.out _ (by repeat (first | (with_reducible exact Gx.refl _) | (with_reducible assumption) | (with_reducible refine Gx.gx ?_) | (with_reducible refine Gx.alloc ?_) | (with_reducible refine Gx.drew ?_) | (with_reducible refine Gx.drewN ?_) | (with_reducible refine Gx.setRow ?_ (by simp)) | (with_reducible refine Gx.setCell ?_ (by simp))))).mono ?_; rintro e w' ⟨rfl, x1, rfl⟩)
    | (go_at_call 16; refine (holds_any _).mono ?_; rintro e w' ⟨rfl, x2, rfl⟩)
  go_ret
  exact ⟨rfl, (by repeat (first | (with_reducible exact Gx.refl _) | (with_reducible assumption) | (with_reducible refine Gx.gx ?_) | (with_reducible refine Gx.alloc ?_) | (with_reducible refine Gx.drew ?_) | (with_reducible refine Gx.drewN ?_) | (with_reducible refine Gx.setRow ?_ (by simp)) | (with_reducible refine Gx.setCell ?_ (by simp))))⟩
theorem calLaw (den : Int) (g : Nat → Ln) (n c : Nat) (A : Option Addr) (lo hi v x : Int) (w : World) (hL : LnAt w g n A) :
    Calls Try.prog 3 #[calV den A n c lo hi, .int .i64 v, .int .i64 x] w fun e w' => e = .returned (.bool true) ∧ ∃ x, w' = gx w x := by
  obtain ⟨m, is, er, h1⟩ := ApplyIs.ex den g n lo hi v
  obtain ⟨u, er2, h2⟩ := NearIs.ex den g n lo hi x
  obtain ⟨gr, er3, h3⟩ := GrainIs.ex den g n lo hi
  refine calLaw_core _ den A n c lo hi v x rfl w (calE den g n lo hi) m er u er2 gr er3 is ?_ ?_ ?_ ?_ ?_ ?_ ?_ ?_
  · rintro W ⟨y, rfl⟩; exact Apply_is _ hL.gx h1
  · rintro W ⟨y, rfl⟩
    exact (RApply_any den g n c A lo hi v _ hL.gx).mono fun e w' ⟨m', is', er', he, h', hx⟩ => by
      obtain ⟨rfl, rfl, rfl⟩ := h'.eq h1; exact ⟨he, hx⟩
  · rintro W ⟨y, rfl⟩; exact CheckCal_any den g n c A lo hi _ hL.gx
  · rintro W ⟨y, rfl⟩; exact RCheckCal_any den g n c A lo hi _ hL.gx
  · rintro W ⟨y, rfl⟩; exact Nearest_is _ hL.gx h2
  · rintro W ⟨y, rfl⟩
    exact (RNearest_any den g n c A lo hi x _ hL.gx).mono fun e w' ⟨v', er', he, h', hx⟩ => by
      obtain ⟨rfl, rfl⟩ := h'.eq h2; exact ⟨he, hx⟩
  · rintro W ⟨y, rfl⟩
    exact (Grain_any den g n c A lo hi _ hL.gx).mono fun e w' ⟨v', er', he, h', hx⟩ => by
      obtain ⟨rfl, rfl⟩ := h'.eq h3; exact ⟨he, hx⟩
  · rintro W ⟨y, rfl⟩
    exact (RGrain_any den g n c A lo hi _ hL.gx).mono fun e w' ⟨v', er', he, h', hx⟩ => by
      obtain ⟨rfl, rfl⟩ := h'.eq h3; exact ⟨he, hx⟩
end Go.Proofs.Ytkfolbhdjppgaaa
