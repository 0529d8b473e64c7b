/-
  Texts that this claim leans on, merged: PLawNd, PLift, PLiftD, POpT, PCkL, POpI.
-/
import Derived.Test.YtocaphcnnmcnjaaGreatDoorRows
import Derived.ProofKit
import Derived.OpenShut
import Derived.Deep.Slices
import Derived.Deep.Fields
import Derived.ChangeSame
import Derived.Lib.SmallJoins
import Derived.Test.YtocaphcnnmcnjaaGreatDoorCards
import Derived.Test.YtocaphcnnmcnjaaGreatDoorTie
import Derived.Deep.DeepHandedRow
import Derived.Lib.LaidTab
import Derived.LaidSub
import Derived.ChangeMaps5
import Derived.Test.YtocaphcnnmcnjaaGreatDoorM10
import Derived.Test.YtocaphcnnmcnjaaGreatDoorM2
import Derived.Test.YtocaphcnnmcnjaaGreatDoorM5

/-
  PanelDialMatchesSpec: the law's walk.
-/
namespace Go.Proofs.YtocaphcnnmcnjaaGreatDoor
open Go.RowKit
-- AT2
-- AT3

set_option maxHeartbeats 4000000 in
set_option maxRecDepth 100000 in
theorem dl_a (kd : Int) (nm tr : ByteArray) (pl lo hi st : Int) (Z : Option Addr) (zn zc : Nat) (op nn : Int) (lt : Bool) (sz : Int) (n m R R2 : Int) (S : ByteArray) (E E2 : Int) (w : World)
    (H1 : Hid (∀ W, (∃ x, W = gx w x) → Calls Tryz.prog 17 #[inV kd nm tr pl lo hi st Z zn zc op nn lt sz, .int .i64 n] W fun e W' => e = .returned (.tuple #[.int .i64 R, .int .i64 E]) ∧ ∃ x, W' = gx W x))
    (H2 : Hid (∀ W, (∃ x, W = gx w x) → Calls Tryz.prog 18 #[inV kd nm tr pl lo hi st Z zn zc op nn lt sz, .int .i64 n] W fun e W' => e = .returned (.tuple #[.int .i64 R, .int .i64 E]) ∧ ∃ x, W' = gx W x))
    (H3 : Hid (∀ W, (∃ x, W = gx w x) → Calls Tryz.prog 19 #[inV kd nm tr pl lo hi st Z zn zc op nn lt sz, .int .i64 n] W fun e W' => e = .returned (.tuple #[.string S, .int .i64 E]) ∧ ∃ x, W' = gx W x))
    (H4 : Hid (∀ W, (∃ x, W = gx w x) → Calls Tryz.prog 20 #[inV kd nm tr pl lo hi st Z zn zc op nn lt sz, .int .i64 n] W fun e W' => e = .returned (.tuple #[.string S, .int .i64 E]) ∧ ∃ x, W' = gx W x))
    (H5 : Hid (∀ W, (∃ x, W = gx w x) → Calls Tryz.prog 17 #[inV kd nm tr pl lo hi st Z zn zc op nn lt sz, .int .i64 m] W fun e W' => e = .returned (.tuple #[.int .i64 R2, .int .i64 E2]) ∧ ∃ x, W' = gx W x))
    (h0 : E ≠ 0) :
    Calls Tryz.prog 5 #[inV kd nm tr pl lo hi st Z zn zc op nn lt sz, .int .i64 n, .int .i64 m] w fun e w' => e = .returned (.bool true) ∧ ∃ x, w' = gx w x := by
  have k0 := beq0 h0
  have k1 := bne0 h0
  have k2 := ne0t h0
  clear h0
  go_enter Tryz.func5, Tryz.ntmps5
  go_wp2_with (first
    | go_skip
    | (go_at_call 17; with_reducible refine (H1.out _ (by repeat (first | (with_reducible exact Gx.refl _) | (with_reducible assumption) | (with_reducible refine Gx.gx ?_) | (with_reducible refine Gx.alloc ?_) | (with_reducible refine Gx.drew ?_) | (with_reducible refine Gx.drewN ?_) | (with_reducible refine Gx.setRow ?_ (by first | omega | (simp; done) | (simp <;> omega))) | (with_reducible refine Gx.setCell ?_ (by first | omega | (simp; done) | (simp <;> omega)))))).mono ?_; rintro e w' ⟨rfl, x1, rfl⟩)
    | (go_at_call 17; with_reducible refine (H5.out _ (by repeat (first | (with_reducible exact Gx.refl _) | (with_reducible assumption) | (with_reducible refine Gx.gx ?_) | (with_reducible refine Gx.alloc ?_) | (with_reducible refine Gx.drew ?_) | (with_reducible refine Gx.drewN ?_) | (with_reducible refine Gx.setRow ?_ (by first | omega | (simp; done) | (simp <;> omega))) | (with_reducible refine Gx.setCell ?_ (by first | omega | (simp; done) | (simp <;> omega)))))).mono ?_; rintro e w' ⟨rfl, x1, rfl⟩)
    | (go_at_call 18; with_reducible refine (H2.out _ (by repeat (first | (with_reducible exact Gx.refl _) | (with_reducible assumption) | (with_reducible refine Gx.gx ?_) | (with_reducible refine Gx.alloc ?_) | (with_reducible refine Gx.drew ?_) | (with_reducible refine Gx.drewN ?_) | (with_reducible refine Gx.setRow ?_ (by first | omega | (simp; done) | (simp <;> omega))) | (with_reducible refine Gx.setCell ?_ (by first | omega | (simp; done) | (simp <;> omega)))))).mono ?_; rintro e w' ⟨rfl, x2, rfl⟩)
    | (go_at_call 19; with_reducible refine (H3.out _ (by repeat (first | (with_reducible exact Gx.refl _) | (with_reducible assumption) | (with_reducible refine Gx.gx ?_) | (with_reducible refine Gx.alloc ?_) | (with_reducible refine Gx.drew ?_) | (with_reducible refine Gx.drewN ?_) | (with_reducible refine Gx.setRow ?_ (by first | omega | (simp; done) | (simp <;> omega))) | (with_reducible refine Gx.setCell ?_ (by first | omega | (simp; done) | (simp <;> omega)))))).mono ?_; rintro e w' ⟨rfl, x3, rfl⟩)
    | (go_at_call 20; with_reducible refine (H4.out _ (by repeat (first | (with_reducible exact Gx.refl _) | (with_reducible assumption) | (with_reducible refine Gx.gx ?_) | (with_reducible refine Gx.alloc ?_) | (with_reducible refine Gx.drew ?_) | (with_reducible refine Gx.drewN ?_) | (with_reducible refine Gx.setRow ?_ (by first | omega | (simp; done) | (simp <;> omega))) | (with_reducible refine Gx.setCell ?_ (by first | omega | (simp; done) | (simp <;> omega)))))).mono ?_; rintro e w' ⟨rfl, x4, rfl⟩)
    | (go_at_call 14; refine (shown_any _).mono ?_; rintro e w' ⟨rfl, x5, rfl⟩))
  go_ret
  exact ⟨rfl, (by repeat (first | (with_reducible exact Gx.refl _) | (with_reducible assumption) | (with_reducible refine Gx.gx ?_) | (with_reducible refine Gx.alloc ?_) | (with_reducible refine Gx.drew ?_) | (with_reducible refine Gx.drewN ?_) | (with_reducible refine Gx.setRow ?_ (by first | omega | (simp; done) | (simp <;> omega))) | (with_reducible refine Gx.setCell ?_ (by first | omega | (simp; done) | (simp <;> omega)))))⟩
set_option maxHeartbeats 4000000 in
set_option maxRecDepth 100000 in
theorem dl_b (kd : Int) (nm tr : ByteArray) (pl lo hi st : Int) (Z : Option Addr) (zn zc : Nat) (op nn : Int) (lt : Bool) (sz : Int) (n m R R2 : Int) (S : ByteArray) (E2 : Int) (w : World)
    (H1 : Hid (∀ W, (∃ x, W = gx w x) → Calls Tryz.prog 17 #[inV kd nm tr pl lo hi st Z zn zc op nn lt sz, .int .i64 n] W fun e W' => e = .returned (.tuple #[.int .i64 R, .int .i64 0]) ∧ ∃ x, W' = gx W x))
    (H2 : Hid (∀ W, (∃ x, W = gx w x) → Calls Tryz.prog 18 #[inV kd nm tr pl lo hi st Z zn zc op nn lt sz, .int .i64 n] W fun e W' => e = .returned (.tuple #[.int .i64 R, .int .i64 0]) ∧ ∃ x, W' = gx W x))
    (H3 : Hid (∀ W, (∃ x, W = gx w x) → Calls Tryz.prog 19 #[inV kd nm tr pl lo hi st Z zn zc op nn lt sz, .int .i64 n] W fun e W' => e = .returned (.tuple #[.string S, .int .i64 0]) ∧ ∃ x, W' = gx W x))
    (H4 : Hid (∀ W, (∃ x, W = gx w x) → Calls Tryz.prog 20 #[inV kd nm tr pl lo hi st Z zn zc op nn lt sz, .int .i64 n] W fun e W' => e = .returned (.tuple #[.string S, .int .i64 0]) ∧ ∃ x, W' = gx W x))
    (H5 : Hid (∀ W, (∃ x, W = gx w x) → Calls Tryz.prog 17 #[inV kd nm tr pl lo hi st Z zn zc op nn lt sz, .int .i64 m] W fun e W' => e = .returned (.tuple #[.int .i64 R2, .int .i64 E2]) ∧ ∃ x, W' = gx W x))
    (h0 : E2 ≠ 0) :
    Calls Tryz.prog 5 #[inV kd nm tr pl lo hi st Z zn zc op nn lt sz, .int .i64 n, .int .i64 m] w fun e w' => e = .returned (.bool true) ∧ ∃ x, w' = gx w x := by
  have k0 := beq0 h0
  have k1 := bne0 h0
  have k2 := ne0t h0
  clear h0
  go_enter Tryz.func5, Tryz.ntmps5
  go_wp2_with (first
    | go_skip
    | (go_at_call 17; with_reducible refine (H1.out _ (by repeat (first | (with_reducible exact Gx.refl _) | (with_reducible assumption) | (with_reducible refine Gx.gx ?_) | (with_reducible refine Gx.alloc ?_) | (with_reducible refine Gx.drew ?_) | (with_reducible refine Gx.drewN ?_) | (with_reducible refine Gx.setRow ?_ (by first | omega | (simp; done) | (simp <;> omega))) | (with_reducible refine Gx.setCell ?_ (by first | omega | (simp; done) | (simp <;> omega)))))).mono ?_; rintro e w' ⟨rfl, x1, rfl⟩)
    | (go_at_call 17; with_reducible refine (H5.out _ (by repeat (first | (with_reducible exact Gx.refl _) | (with_reducible assumption) | (with_reducible refine Gx.gx ?_) | (with_reducible refine Gx.alloc ?_) | (with_reducible refine Gx.drew ?_) | (with_reducible refine Gx.drewN ?_) | (with_reducible refine Gx.setRow ?_ (by first | omega | (simp; done) | (simp <;> omega))) | (with_reducible refine Gx.setCell ?_ (by first | omega | (simp; done) | (simp <;> omega)))))).mono ?_; rintro e w' ⟨rfl, x1, rfl⟩)
    | (go_at_call 18; with_reducible refine (H2.out _ (by repeat (first | (with_reducible exact Gx.refl _) | (with_reducible assumption) | (with_reducible refine Gx.gx ?_) | (with_reducible refine Gx.alloc ?_) | (with_reducible refine Gx.drew ?_) | (with_reducible refine Gx.drewN ?_) | (with_reducible refine Gx.setRow ?_ (by first | omega | (simp; done) | (simp <;> omega))) | (with_reducible refine Gx.setCell ?_ (by first | omega | (simp; done) | (simp <;> omega)))))).mono ?_; rintro e w' ⟨rfl, x2, rfl⟩)
    | (go_at_call 19; with_reducible refine (H3.out _ (by repeat (first | (with_reducible exact Gx.refl _) | (with_reducible assumption) | (with_reducible refine Gx.gx ?_) | (with_reducible refine Gx.alloc ?_) | (with_reducible refine Gx.drew ?_) | (with_reducible refine Gx.drewN ?_) | (with_reducible refine Gx.setRow ?_ (by first | omega | (simp; done) | (simp <;> omega))) | (with_reducible refine Gx.setCell ?_ (by first | omega | (simp; done) | (simp <;> omega)))))).mono ?_; rintro e w' ⟨rfl, x3, rfl⟩)
    | (go_at_call 20; with_reducible refine (H4.out _ (by repeat (first | (with_reducible exact Gx.refl _) | (with_reducible assumption) | (with_reducible refine Gx.gx ?_) | (with_reducible refine Gx.alloc ?_) | (with_reducible refine Gx.drew ?_) | (with_reducible refine Gx.drewN ?_) | (with_reducible refine Gx.setRow ?_ (by first | omega | (simp; done) | (simp <;> omega))) | (with_reducible refine Gx.setCell ?_ (by first | omega | (simp; done) | (simp <;> omega)))))).mono ?_; rintro e w' ⟨rfl, x4, rfl⟩)
    | (go_at_call 14; refine (shown_any _).mono ?_; rintro e w' ⟨rfl, x5, rfl⟩))
  go_ret
  exact ⟨rfl, (by repeat (first | (with_reducible exact Gx.refl _) | (with_reducible assumption) | (with_reducible refine Gx.gx ?_) | (with_reducible refine Gx.alloc ?_) | (with_reducible refine Gx.drew ?_) | (with_reducible refine Gx.drewN ?_) | (with_reducible refine Gx.setRow ?_ (by first | omega | (simp; done) | (simp <;> omega))) | (with_reducible refine Gx.setCell ?_ (by first | omega | (simp; done) | (simp <;> omega)))))⟩
set_option maxHeartbeats 4000000 in
set_option maxRecDepth 100000 in
theorem dl_c (kd : Int) (nm tr : ByteArray) (pl lo hi st : Int) (Z : Option Addr) (zn zc : Nat) (op nn : Int) (lt : Bool) (sz : Int) (n m R R2 : Int) (S : ByteArray) (w : World)
    (H1 : Hid (∀ W, (∃ x, W = gx w x) → Calls Tryz.prog 17 #[inV kd nm tr pl lo hi st Z zn zc op nn lt sz, .int .i64 n] W fun e W' => e = .returned (.tuple #[.int .i64 R, .int .i64 0]) ∧ ∃ x, W' = gx W x))
    (H2 : Hid (∀ W, (∃ x, W = gx w x) → Calls Tryz.prog 18 #[inV kd nm tr pl lo hi st Z zn zc op nn lt sz, .int .i64 n] W fun e W' => e = .returned (.tuple #[.int .i64 R, .int .i64 0]) ∧ ∃ x, W' = gx W x))
    (H3 : Hid (∀ W, (∃ x, W = gx w x) → Calls Tryz.prog 19 #[inV kd nm tr pl lo hi st Z zn zc op nn lt sz, .int .i64 n] W fun e W' => e = .returned (.tuple #[.string S, .int .i64 0]) ∧ ∃ x, W' = gx W x))
    (H4 : Hid (∀ W, (∃ x, W = gx w x) → Calls Tryz.prog 20 #[inV kd nm tr pl lo hi st Z zn zc op nn lt sz, .int .i64 n] W fun e W' => e = .returned (.tuple #[.string S, .int .i64 0]) ∧ ∃ x, W' = gx W x))
    (H5 : Hid (∀ W, (∃ x, W = gx w x) → Calls Tryz.prog 17 #[inV kd nm tr pl lo hi st Z zn zc op nn lt sz, .int .i64 m] W fun e W' => e = .returned (.tuple #[.int .i64 R2, .int .i64 0]) ∧ ∃ x, W' = gx W x))
    (h0 : decide (0 ≤ R2) = true) (h1 : decide (R2 ≤ st) = true) (h2 : decide (R ≤ R2) = true) (h3 : decide (R2 ≤ R) = true) :
    Calls Tryz.prog 5 #[inV kd nm tr pl lo hi st Z zn zc op nn lt sz, .int .i64 n, .int .i64 m] w fun e w' => e = .returned (.bool true) ∧ ∃ x, w' = gx w x := by
  go_enter Tryz.func5, Tryz.ntmps5
  go_wp2_with (first
    | go_skip
    | (go_at_call 17; with_reducible refine (H1.out _ (by repeat (first | (with_reducible exact Gx.refl _) | (with_reducible assumption) | (with_reducible refine Gx.gx ?_) | (with_reducible refine Gx.alloc ?_) | (with_reducible refine Gx.drew ?_) | (with_reducible refine Gx.drewN ?_) | (with_reducible refine Gx.setRow ?_ (by first | omega | (simp; done) | (simp <;> omega))) | (with_reducible refine Gx.setCell ?_ (by first | omega | (simp; done) | (simp <;> omega)))))).mono ?_; rintro e w' ⟨rfl, x1, rfl⟩)
    | (go_at_call 17; with_reducible refine (H5.out _ (by repeat (first | (with_reducible exact Gx.refl _) | (with_reducible assumption) | (with_reducible refine Gx.gx ?_) | (with_reducible refine Gx.alloc ?_) | (with_reducible refine Gx.drew ?_) | (with_reducible refine Gx.drewN ?_) | (with_reducible refine Gx.setRow ?_ (by first | omega | (simp; done) | (simp <;> omega))) | (with_reducible refine Gx.setCell ?_ (by first | omega | (simp; done) | (simp <;> omega)))))).mono ?_; rintro e w' ⟨rfl, x1, rfl⟩)
    | (go_at_call 18; with_reducible refine (H2.out _ (by repeat (first | (with_reducible exact Gx.refl _) | (with_reducible assumption) | (with_reducible refine Gx.gx ?_) | (with_reducible refine Gx.alloc ?_) | (with_reducible refine Gx.drew ?_) | (with_reducible refine Gx.drewN ?_) | (with_reducible refine Gx.setRow ?_ (by first | omega | (simp; done) | (simp <;> omega))) | (with_reducible refine Gx.setCell ?_ (by first | omega | (simp; done) | (simp <;> omega)))))).mono ?_; rintro e w' ⟨rfl, x2, rfl⟩)
    | (go_at_call 19; with_reducible refine (H3.out _ (by repeat (first | (with_reducible exact Gx.refl _) | (with_reducible assumption) | (with_reducible refine Gx.gx ?_) | (with_reducible refine Gx.alloc ?_) | (with_reducible refine Gx.drew ?_) | (with_reducible refine Gx.drewN ?_) | (with_reducible refine Gx.setRow ?_ (by first | omega | (simp; done) | (simp <;> omega))) | (with_reducible refine Gx.setCell ?_ (by first | omega | (simp; done) | (simp <;> omega)))))).mono ?_; rintro e w' ⟨rfl, x3, rfl⟩)
    | (go_at_call 20; with_reducible refine (H4.out _ (by repeat (first | (with_reducible exact Gx.refl _) | (with_reducible assumption) | (with_reducible refine Gx.gx ?_) | (with_reducible refine Gx.alloc ?_) | (with_reducible refine Gx.drew ?_) | (with_reducible refine Gx.drewN ?_) | (with_reducible refine Gx.setRow ?_ (by first | omega | (simp; done) | (simp <;> omega))) | (with_reducible refine Gx.setCell ?_ (by first | omega | (simp; done) | (simp <;> omega)))))).mono ?_; rintro e w' ⟨rfl, x4, rfl⟩)
    | (go_at_call 14; refine (shown_any _).mono ?_; rintro e w' ⟨rfl, x5, rfl⟩))
  go_ret
  exact ⟨rfl, (by repeat (first | (with_reducible exact Gx.refl _) | (with_reducible assumption) | (with_reducible refine Gx.gx ?_) | (with_reducible refine Gx.alloc ?_) | (with_reducible refine Gx.drew ?_) | (with_reducible refine Gx.drewN ?_) | (with_reducible refine Gx.setRow ?_ (by first | omega | (simp; done) | (simp <;> omega))) | (with_reducible refine Gx.setCell ?_ (by first | omega | (simp; done) | (simp <;> omega)))))⟩
set_option maxHeartbeats 4000000 in
set_option maxRecDepth 100000 in
theorem dl_d (kd : Int) (nm tr : ByteArray) (pl lo hi st : Int) (Z : Option Addr) (zn zc : Nat) (op nn : Int) (lt : Bool) (sz : Int) (n m R R2 : Int) (S : ByteArray) (w : World)
    (H1 : Hid (∀ W, (∃ x, W = gx w x) → Calls Tryz.prog 17 #[inV kd nm tr pl lo hi st Z zn zc op nn lt sz, .int .i64 n] W fun e W' => e = .returned (.tuple #[.int .i64 R, .int .i64 0]) ∧ ∃ x, W' = gx W x))
    (H2 : Hid (∀ W, (∃ x, W = gx w x) → Calls Tryz.prog 18 #[inV kd nm tr pl lo hi st Z zn zc op nn lt sz, .int .i64 n] W fun e W' => e = .returned (.tuple #[.int .i64 R, .int .i64 0]) ∧ ∃ x, W' = gx W x))
    (H3 : Hid (∀ W, (∃ x, W = gx w x) → Calls Tryz.prog 19 #[inV kd nm tr pl lo hi st Z zn zc op nn lt sz, .int .i64 n] W fun e W' => e = .returned (.tuple #[.string S, .int .i64 0]) ∧ ∃ x, W' = gx W x))
    (H4 : Hid (∀ W, (∃ x, W = gx w x) → Calls Tryz.prog 20 #[inV kd nm tr pl lo hi st Z zn zc op nn lt sz, .int .i64 n] W fun e W' => e = .returned (.tuple #[.string S, .int .i64 0]) ∧ ∃ x, W' = gx W x))
    (H5 : Hid (∀ W, (∃ x, W = gx w x) → Calls Tryz.prog 17 #[inV kd nm tr pl lo hi st Z zn zc op nn lt sz, .int .i64 m] W fun e W' => e = .returned (.tuple #[.int .i64 R2, .int .i64 0]) ∧ ∃ x, W' = gx W x))
    (h0 : decide (0 ≤ R2) = true) (h1 : decide (R2 ≤ st) = true) (h2 : decide (R ≤ R2) = true) (h3 : decide (R2 ≤ R) = false) (h4 : decide (n < m) = true) :
    Calls Tryz.prog 5 #[inV kd nm tr pl lo hi st Z zn zc op nn lt sz, .int .i64 n, .int .i64 m] w fun e w' => e = .returned (.bool true) ∧ ∃ x, w' = gx w x := by
  go_enter Tryz.func5, Tryz.ntmps5
  go_wp2_with (first
    | go_skip
    | (go_at_call 17; with_reducible refine (H1.out _ (by repeat (first | (with_reducible exact Gx.refl _) | (with_reducible assumption) | (with_reducible refine Gx.gx ?_) | (with_reducible refine Gx.alloc ?_) | (with_reducible refine Gx.drew ?_) | (with_reducible refine Gx.drewN ?_) | (with_reducible refine Gx.setRow ?_ (by first | omega | (simp; done) | (simp <;> omega))) | (with_reducible refine Gx.setCell ?_ (by first | omega | (simp; done) | (simp <;> omega)))))).mono ?_; rintro e w' ⟨rfl, x1, rfl⟩)
    | (go_at_call 17; with_reducible refine (H5.out _ (by repeat (first | (with_reducible exact Gx.refl _) | (with_reducible assumption) | (with_reducible refine Gx.gx ?_) | (with_reducible refine Gx.alloc ?_) | (with_reducible refine Gx.drew ?_) | (with_reducible refine Gx.drewN ?_) | (with_reducible refine Gx.setRow ?_ (by first | omega | (simp; done) | (simp <;> omega))) | (with_reducible refine Gx.setCell ?_ (by first | omega | (simp; done) | (simp <;> omega)))))).mono ?_; rintro e w' ⟨rfl, x1, rfl⟩)
    | (go_at_call 18; with_reducible refine (H2.out _ (by repeat (first | (with_reducible exact Gx.refl _) | (with_reducible assumption) | (with_reducible refine Gx.gx ?_) | (with_reducible refine Gx.alloc ?_) | (with_reducible refine Gx.drew ?_) | (with_reducible refine Gx.drewN ?_) | (with_reducible refine Gx.setRow ?_ (by first | omega | (simp; done) | (simp <;> omega))) | (with_reducible refine Gx.setCell ?_ (by first | omega | (simp; done) | (simp <;> omega)))))).mono ?_; rintro e w' ⟨rfl, x2, rfl⟩)
    | (go_at_call 19; with_reducible refine (H3.out _ (by repeat (first | (with_reducible exact Gx.refl _) | (with_reducible assumption) | (with_reducible refine Gx.gx ?_) | (with_reducible refine Gx.alloc ?_) | (with_reducible refine Gx.drew ?_) | (with_reducible refine Gx.drewN ?_) | (with_reducible refine Gx.setRow ?_ (by first | omega | (simp; done) | (simp <;> omega))) | (with_reducible refine Gx.setCell ?_ (by first | omega | (simp; done) | (simp <;> omega)))))).mono ?_; rintro e w' ⟨rfl, x3, rfl⟩)
    | (go_at_call 20; with_reducible refine (H4.out _ (by repeat (first | (with_reducible exact Gx.refl _) | (with_reducible assumption) | (with_reducible refine Gx.gx ?_) | (with_reducible refine Gx.alloc ?_) | (with_reducible refine Gx.drew ?_) | (with_reducible refine Gx.drewN ?_) | (with_reducible refine Gx.setRow ?_ (by first | omega | (simp; done) | (simp <;> omega))) | (with_reducible refine Gx.setCell ?_ (by first | omega | (simp; done) | (simp <;> omega)))))).mono ?_; rintro e w' ⟨rfl, x4, rfl⟩)
    | (go_at_call 14; refine (shown_any _).mono ?_; rintro e w' ⟨rfl, x5, rfl⟩))
  go_ret
  exact ⟨rfl, (by repeat (first | (with_reducible exact Gx.refl _) | (with_reducible assumption) | (with_reducible refine Gx.gx ?_) | (with_reducible refine Gx.alloc ?_) | (with_reducible refine Gx.drew ?_) | (with_reducible refine Gx.drewN ?_) | (with_reducible refine Gx.setRow ?_ (by first | omega | (simp; done) | (simp <;> omega))) | (with_reducible refine Gx.setCell ?_ (by first | omega | (simp; done) | (simp <;> omega)))))⟩
set_option maxHeartbeats 4000000 in
set_option maxRecDepth 100000 in
theorem dl_e (kd : Int) (nm tr : ByteArray) (pl lo hi st : Int) (Z : Option Addr) (zn zc : Nat) (op nn : Int) (lt : Bool) (sz : Int) (n m R R2 : Int) (S : ByteArray) (w : World)
    (H1 : Hid (∀ W, (∃ x, W = gx w x) → Calls Tryz.prog 17 #[inV kd nm tr pl lo hi st Z zn zc op nn lt sz, .int .i64 n] W fun e W' => e = .returned (.tuple #[.int .i64 R, .int .i64 0]) ∧ ∃ x, W' = gx W x))
    (H2 : Hid (∀ W, (∃ x, W = gx w x) → Calls Tryz.prog 18 #[inV kd nm tr pl lo hi st Z zn zc op nn lt sz, .int .i64 n] W fun e W' => e = .returned (.tuple #[.int .i64 R, .int .i64 0]) ∧ ∃ x, W' = gx W x))
    (H3 : Hid (∀ W, (∃ x, W = gx w x) → Calls Tryz.prog 19 #[inV kd nm tr pl lo hi st Z zn zc op nn lt sz, .int .i64 n] W fun e W' => e = .returned (.tuple #[.string S, .int .i64 0]) ∧ ∃ x, W' = gx W x))
    (H4 : Hid (∀ W, (∃ x, W = gx w x) → Calls Tryz.prog 20 #[inV kd nm tr pl lo hi st Z zn zc op nn lt sz, .int .i64 n] W fun e W' => e = .returned (.tuple #[.string S, .int .i64 0]) ∧ ∃ x, W' = gx W x))
    (H5 : Hid (∀ W, (∃ x, W = gx w x) → Calls Tryz.prog 17 #[inV kd nm tr pl lo hi st Z zn zc op nn lt sz, .int .i64 m] W fun e W' => e = .returned (.tuple #[.int .i64 R2, .int .i64 0]) ∧ ∃ x, W' = gx W x))
    (h0 : decide (0 ≤ R2) = true) (h1 : decide (R2 ≤ st) = true) (h2 : decide (R ≤ R2) = false) (h3 : decide (R2 ≤ R) = true) (h4 : decide (m < n) = true) :
    Calls Tryz.prog 5 #[inV kd nm tr pl lo hi st Z zn zc op nn lt sz, .int .i64 n, .int .i64 m] w fun e w' => e = .returned (.bool true) ∧ ∃ x, w' = gx w x := by
  go_enter Tryz.func5, Tryz.ntmps5
  go_wp2_with (first
    | go_skip
    | (go_at_call 17; with_reducible refine (H1.out _ (by repeat (first | (with_reducible exact Gx.refl _) | (with_reducible assumption) | (with_reducible refine Gx.gx ?_) | (with_reducible refine Gx.alloc ?_) | (with_reducible refine Gx.drew ?_) | (with_reducible refine Gx.drewN ?_) | (with_reducible refine Gx.setRow ?_ (by first | omega | (simp; done) | (simp <;> omega))) | (with_reducible refine Gx.setCell ?_ (by first | omega | (simp; done) | (simp <;> omega)))))).mono ?_; rintro e w' ⟨rfl, x1, rfl⟩)
    | (go_at_call 17; with_reducible refine (H5.out _ (by repeat (first | (with_reducible exact Gx.refl _) | (with_reducible assumption) | (with_reducible refine Gx.gx ?_) | (with_reducible refine Gx.alloc ?_) | (with_reducible refine Gx.drew ?_) | (with_reducible refine Gx.drewN ?_) | (with_reducible refine Gx.setRow ?_ (by first | omega | (simp; done) | (simp <;> omega))) | (with_reducible refine Gx.setCell ?_ (by first | omega | (simp; done) | (simp <;> omega)))))).mono ?_; rintro e w' ⟨rfl, x1, rfl⟩)
    | (go_at_call 18; with_reducible refine (H2.out _ (by repeat (first | (with_reducible exact Gx.refl _) | (with_reducible assumption) | (with_reducible refine Gx.gx ?_) | (with_reducible refine Gx.alloc ?_) | (with_reducible refine Gx.drew ?_) | (with_reducible refine Gx.drewN ?_) | (with_reducible refine Gx.setRow ?_ (by first | omega | (simp; done) | (simp <;> omega))) | (with_reducible refine Gx.setCell ?_ (by first | omega | (simp; done) | (simp <;> omega)))))).mono ?_; rintro e w' ⟨rfl, x2, rfl⟩)
    | (go_at_call 19; with_reducible refine (H3.out _ (by repeat (first | (with_reducible exact Gx.refl _) | (with_reducible assumption) | (with_reducible refine Gx.gx ?_) | (with_reducible refine Gx.alloc ?_) | (with_reducible refine Gx.drew ?_) | (with_reducible refine Gx.drewN ?_) | (with_reducible refine Gx.setRow ?_ (by first | omega | (simp; done) | (simp <;> omega))) | (with_reducible refine Gx.setCell ?_ (by first | omega | (simp; done) | (simp <;> omega)))))).mono ?_; rintro e w' ⟨rfl, x3, rfl⟩)
    | (go_at_call 20; with_reducible refine (H4.out _ (by repeat (first | (with_reducible exact Gx.refl _) | (with_reducible assumption) | (with_reducible refine Gx.gx ?_) | (with_reducible refine Gx.alloc ?_) | (with_reducible refine Gx.drew ?_) | (with_reducible refine Gx.drewN ?_) | (with_reducible refine Gx.setRow ?_ (by first | omega | (simp; done) | (simp <;> omega))) | (with_reducible refine Gx.setCell ?_ (by first | omega | (simp; done) | (simp <;> omega)))))).mono ?_; rintro e w' ⟨rfl, x4, rfl⟩)
    | (go_at_call 14; refine (shown_any _).mono ?_; rintro e w' ⟨rfl, x5, rfl⟩))
  go_ret
  exact ⟨rfl, (by repeat (first | (with_reducible exact Gx.refl _) | (with_reducible assumption) | (with_reducible refine Gx.gx ?_) | (with_reducible refine Gx.alloc ?_) | (with_reducible refine Gx.drew ?_) | (with_reducible refine Gx.drewN ?_) | (with_reducible refine Gx.setRow ?_ (by first | omega | (simp; done) | (simp <;> omega))) | (with_reducible refine Gx.setCell ?_ (by first | omega | (simp; done) | (simp <;> omega)))))⟩
theorem dialLaw (J : InR) (hJ : J.fits) (n m : Int) (w : World) (hL : ZnAt w J.z J.zn J.Z) :
    Calls Tryz.prog 5 #[J.v, .int .i64 n, .int .i64 m] w fun e w' => e = .returned (.bool true) ∧ ∃ x, w' = gx w x := by
  obtain ⟨E, hg, hD⟩ := Dial_both J hJ
  obtain ⟨R, S, hR, C1, C2, C3, C4⟩ := hD n
  obtain ⟨R2, S2, hR2, C5, -, -, -⟩ := hD m
  clear hD hJ
  obtain ⟨kd, nm, tr, pl, lo, hi, st, Z, zn, zc, op, nn, lt, sz, z⟩ := J
  dsimp only at *
  by_cases h0 : askE kd E n = 0
  · by_cases h1 : askE kd E m = 0
    · obtain ⟨he, hk⟩ := askE_0 h0
      obtain ⟨g1, g2⟩ := hg he hk
      have e1 := hR h0
      have e2 := hR2 h1
      rw [h0] at C1 C2 C3 C4
      rw [h1] at C5
      have hi2 := need_in (n := m) (hi := hi) g1 g2
      rw [← e2] at hi2
      have b0 := decide_eq_true hi2.1
      have b1 := decide_eq_true hi2.2
      have m1 : n ≤ m → R ≤ R2 := fun h => by rw [e1, e2]; exact need_mono g1 g2 h
      have m2 : m ≤ n → R2 ≤ R := fun h => by rw [e1, e2]; exact need_mono g1 g2 h
      by_cases a1 : R ≤ R2
      · by_cases a2 : R2 ≤ R
        · exact dl_c kd nm tr pl lo hi st Z zn zc op nn lt sz n m R R2 S w (Lib.hid fun W' hW' => C1 W' (by obtain ⟨x, rfl⟩ := hW'; exact hL.gx)) (Lib.hid fun W' hW' => C2 W' (by obtain ⟨x, rfl⟩ := hW'; exact hL.gx)) (Lib.hid fun W' hW' => C3 W' (by obtain ⟨x, rfl⟩ := hW'; exact hL.gx)) (Lib.hid fun W' hW' => C4 W' (by obtain ⟨x, rfl⟩ := hW'; exact hL.gx)) (Lib.hid fun W' hW' => C5 W' (by obtain ⟨x, rfl⟩ := hW'; exact hL.gx)) b0 b1 (decide_eq_true a1) (decide_eq_true a2)
        · exact dl_d kd nm tr pl lo hi st Z zn zc op nn lt sz n m R R2 S w (Lib.hid fun W' hW' => C1 W' (by obtain ⟨x, rfl⟩ := hW'; exact hL.gx)) (Lib.hid fun W' hW' => C2 W' (by obtain ⟨x, rfl⟩ := hW'; exact hL.gx)) (Lib.hid fun W' hW' => C3 W' (by obtain ⟨x, rfl⟩ := hW'; exact hL.gx)) (Lib.hid fun W' hW' => C4 W' (by obtain ⟨x, rfl⟩ := hW'; exact hL.gx)) (Lib.hid fun W' hW' => C5 W' (by obtain ⟨x, rfl⟩ := hW'; exact hL.gx)) b0 b1 (decide_eq_true a1) (decide_eq_false a2) (decide_eq_true (by by_cases h : n < m; exact h; exact absurd (m2 (by omega)) a2))
      · have a2 : R2 ≤ R := by omega
        exact dl_e kd nm tr pl lo hi st Z zn zc op nn lt sz n m R R2 S w (Lib.hid fun W' hW' => C1 W' (by obtain ⟨x, rfl⟩ := hW'; exact hL.gx)) (Lib.hid fun W' hW' => C2 W' (by obtain ⟨x, rfl⟩ := hW'; exact hL.gx)) (Lib.hid fun W' hW' => C3 W' (by obtain ⟨x, rfl⟩ := hW'; exact hL.gx)) (Lib.hid fun W' hW' => C4 W' (by obtain ⟨x, rfl⟩ := hW'; exact hL.gx)) (Lib.hid fun W' hW' => C5 W' (by obtain ⟨x, rfl⟩ := hW'; exact hL.gx)) b0 b1 (decide_eq_false a1) (decide_eq_true a2) (decide_eq_true (by by_cases h : m < n; exact h; exact absurd (m1 (by omega)) a1))
    · rw [h0] at C1 C2 C3 C4
      exact dl_b kd nm tr pl lo hi st Z zn zc op nn lt sz n m R R2 S _ w (Lib.hid fun W' hW' => C1 W' (by obtain ⟨x, rfl⟩ := hW'; exact hL.gx)) (Lib.hid fun W' hW' => C2 W' (by obtain ⟨x, rfl⟩ := hW'; exact hL.gx)) (Lib.hid fun W' hW' => C3 W' (by obtain ⟨x, rfl⟩ := hW'; exact hL.gx)) (Lib.hid fun W' hW' => C4 W' (by obtain ⟨x, rfl⟩ := hW'; exact hL.gx)) (Lib.hid fun W' hW' => C5 W' (by obtain ⟨x, rfl⟩ := hW'; exact hL.gx)) h1
  · exact dl_a kd nm tr pl lo hi st Z zn zc op nn lt sz n m R R2 S _ _ w (Lib.hid fun W' hW' => C1 W' (by obtain ⟨x, rfl⟩ := hW'; exact hL.gx)) (Lib.hid fun W' hW' => C2 W' (by obtain ⟨x, rfl⟩ := hW'; exact hL.gx)) (Lib.hid fun W' hW' => C3 W' (by obtain ⟨x, rfl⟩ := hW'; exact hL.gx)) (Lib.hid fun W' hW' => C4 W' (by obtain ⟨x, rfl⟩ := hW'; exact hL.gx)) (Lib.hid fun W' hW' => C5 W' (by obtain ⟨x, rfl⟩ := hW'; exact hL.gx)) h0
end Go.Proofs.YtocaphcnnmcnjaaGreatDoor

/-
  What every law's lifting needs here: calibrations, series and numbers that are handed in.
-/
namespace Go.Proofs.YtocaphcnnmcnjaaGreatDoor
open Go.ChangeShapes Go.WideShapes Go.ChangeAt Go.RowKit Go.Deep Go.Joins

theorem own : ownKnob Tryz.prog.godebug = none := by kernel_rfl
theorem laidOut : laidOutB Tryz.prog = true := by kernel_rfl

theorem below_trodAll {H : Type} {enc : TypeId × Value → H} {W W' : World} (hb : Below W.heap.size W W') :
    ∀ {ts : List TypeId} {vs : List Value} {ds : List (DataW H)} {ps : List MemPlace}, (∀ t ∈ ts, Tryz.prog.readableRec t = true ∧ t < Tryz.prog.types.size) → (∀ x ∈ ps, x.block < W.heap.size) →
      DataW.TrodAll enc Tryz.prog W 0 (fun _ => true) true ts vs ds ps → DataW.TrodAll enc Tryz.prog W' 0 (fun b => decide (b < W.heap.size)) true ts vs ds ps
  | [], [], [], _, _, _, h => h
  | [], [], _ :: _, _, _, _, h => h.elim
  | [], _ :: _, _, _, _, _, h => h.elim
  | _ :: _, [], _, _, _, _, h => h.elim
  | _ :: _, _ :: _, [], _, _, _, h => h.elim
  | t :: ts, v :: vs, d :: ds, ps, hT, hlt, ⟨p, q, h1, h2, e⟩ => by
    have ht := hT t (by simp)
    refine ⟨p, q, Below.trod laidOut ht.1 ht.2 h1 hb (fun x hx => hlt x (by rw [e]; exact List.mem_append_left _ hx)), ?_, e⟩
    exact below_trodAll hb (fun u hu => hT u (by simp [hu])) (fun x hx => hlt x (by rw [e]; exact List.mem_append_right _ hx)) h2

/-- A law's end: it has returned true, and of what was there nothing has turned. -/
theorem law_post {H : Type} {enc : TypeId × Value → H} {f : Func} {s : ChangeSpec} {W W' : World} {args : Array Value} {ds gs : List (DataW H)} {before : List MemPlace}
    (hrt : f.resultTypes = #[4]) (hvars : s.vars = []) (hT : ∀ t ∈ f.params.toList, Tryz.prog.readableRec t = true ∧ t < Tryz.prog.types.size)
    (hW : DataW.Whole enc Tryz.prog f.params.toList s.vars false W args.toList ds gs before) (hb : Below W.heap.size W W')
    (hfn : s.fn H (ds ++ gs) = { results := [.lit (.bool true)], args := ds }) : s.post enc Tryz.prog f false true false false W args (.bool true) W' := by
  have hW' := hW
  have hlt : ∀ x ∈ before, x.block < W.heap.size := fun x hx => by simpa using hW.lt x hx
  obtain ⟨p, q, hA, hV, rfl, _, _⟩ := hW
  rw [hvars] at hV
  obtain ⟨rfl, rfl⟩ := trodVars_none hV
  refine ⟨ds, [], p ++ [], [], p, [], hW', ?_, ?_, ?_, hb.frame _, fun h => by cases h⟩
  · rw [hfn, hrt]
    exact trodAll_cons_mk (shut_bool Tryz.underlying4 _) trodAll_mk0
  · rw [hfn]
    exact below_trodAll hb hT (fun x hx => hlt x (by simp [hx])) hA
  · rw [hfn, hvars]
    rfl

section
variable {H : Type} {enc : TypeId × Value → H} {P : Program} {w : World} {base : Nat} {spare : Nat → Bool} {held : Bool}
/-- A slice of structs of one-cell fields. -/
theorem open_rows {t e : TypeId} {fs : Array Field} {fuel : Nat} {cs : List Value} {x : DataW H × List MemPlace} (ht : P.underlying t = some (.slice e)) (he : P.underlying e = some (.struct fs))
    (hone : oneCellFields P fs = true) (hC : P.cellsOf e = fs.size) (h : DataW.trod enc P w base spare held fuel t cs = some x) :
    (cs = [.slice none 0 0]) ∨
    ∃ (a : Addr) (len cap : Nat), cs = [.slice (some a) len cap] ∧ len ≤ cap ∧ cap ≤ maxLen ∧
      ∀ i, i < len → ∀ (j : Nat) (f : Field), fs[j]? = some f → ∃ (n : Nat) (v : Value) (y : DataW H × List MemPlace), w.cell? (a.add (i * fs.size + j)) = some v ∧ DataW.trod enc P w base spare held n f.type [v] = some y := by
  rcases open_slice ht h with h0 | ⟨a, len, cap, m, n, D, Pl, hcs, hb, hl, hm, hmm, hx, hi⟩
  · exact .inl h0.1
  · refine .inr ⟨a, len, cap, hcs, hl, hm, fun i him j f hj => ?_⟩
    obtain ⟨cs', hc, ht'⟩ := hi i (by rw [hmm]; split <;> omega)
    rw [hC] at hc
    obtain ⟨ys, n', hn', hy, hlen, hyl, hf⟩ := DataW.trod_struct he ht'
    obtain ⟨_, hcl, hat⟩ := World.cells?_some hc
    obtain ⟨ho, hk⟩ := hone_of hone j f hj
    have hjl : j < fs.size := (Array.getElem?_eq_some_iff.1 hj).1
    have hcell := hat j hjl
    have hv : cs'[j]? = some (cs'[j]'(by omega)) := List.getElem?_eq_getElem (by omega)
    have h1 := hf j f hj
    rw [ho, hk] at h1
    have hone' : (cs'.drop j).take 1 = [cs'[j]'(by omega)] := by
      rw [List.drop_eq_getElem_cons (by omega)]
      rfl
    rw [hone'] at h1
    have hys : ys[j]? = some (ys[j]'(by omega)) := List.getElem?_eq_getElem (by omega)
    refine ⟨n', _, _, ?_, h1.trans hys⟩
    rw [← Go.Deep.add_add, hcell, hv]
end

def cellI (W : World) (p : Addr) : Int := match W.cell? p with | some v => intOf v | none => 0
theorem cellI_of {W : World} {p : Addr} {k : IntKind} {n : Int} (h : W.cell? p = some (.int k n)) : cellI W p = n := by unfold cellI; rw [h]; rfl
theorem sampleCells : Tryz.prog.cellsOf 45 = 3 := by kernel_rfl
theorem sampleFields : ∃ f0 f1 f2 : Field, Tryz.prog.underlying 45 = some (.struct #[f0, f1, f2]) ∧ oneCellFields Tryz.prog #[f0, f1, f2] = true ∧ f0.type = 3 ∧ f1.type = 3 ∧ f2.type = 3 :=
  ⟨_, _, _, Tryz.underlying45, by kernel_rfl, rfl, rfl, rfl⟩
theorem open_samples {H : Type} {enc : TypeId × Value → H} {W : World} {base fuel : Nat} {spare : Nat → Bool} {held : Bool} {v : Value} {y : DataW H × List MemPlace}
    (h : DataW.trod enc Tryz.prog W base spare held fuel 39 [v] = some y) : ∃ A len cap g, v = .slice A len cap ∧ len ≤ cap ∧ cap ≤ maxLen ∧ SmAt W g len A ∧ (A = none → len = 0 ∧ cap = 0) := by
  obtain ⟨f0, f1, f2, hu, hone, e0, e1, e2⟩ := sampleFields
  rcases open_rows Tryz.underlying39 hu hone sampleCells h with h0 | ⟨a, len, cap, h0, hl, hm, hf⟩
  · obtain rfl : v = .slice none 0 0 := by simpa using h0
    exact ⟨none, 0, 0, fun _ => default, rfl, Nat.le_refl _, Nat.zero_le _, by unfold SmAt; intro h; omega, fun _ => ⟨rfl, rfl⟩⟩
  · obtain rfl : v = .slice (some a) len cap := by simpa using h0
    refine ⟨some a, len, cap, fun i => ⟨cellI W (a.add (i * 3)), cellI W (a.add (i * 3 + 1)), cellI W (a.add (i * 3 + 2))⟩, rfl, hl, hm, ?_, fun h => by cases h⟩
    unfold SmAt
    intro hpos
    have key : ∀ i, i < len → ∀ j (f : Field), (#[f0, f1, f2] : Array Field)[j]? = some f → f.type = 3 → W.cell? (a.add (i * 3 + j)) = some (.int .i64 (cellI W (a.add (i * 3 + j)))) := by
      intro i hi j f hj hty
      obtain ⟨n, v, y, hc, ht⟩ := hf i hi j f hj
      rw [hty] at ht
      obtain ⟨z, hz, _, _⟩ := DataW.trod_int Tryz.underlying3 ht
      simp only [List.cons.injEq, and_true] at hz
      subst hz
      have hc' : W.cell? (a.add (i * 3 + j)) = some (.int .i64 z) := hc
      rw [cellI_of hc']; exact hc'
    obtain ⟨b, o, sp⟩ := a
    have hsp : sp = none := by
      have := key 0 hpos 0 f0 rfl e0
      simpa [Addr.add] using World.cell?_spot this
    subst hsp
    refine ⟨b, o, rfl, fun k hk => ?_⟩
    have k0 := key k hk 0 f0 rfl e0
    have k1 := key k hk 1 f1 rfl e1
    have k2 := key k hk 2 f2 rfl e2
    simp only [Addr.add_lit, Nat.add_zero, ← Nat.add_assoc] at k0 k1 k2 ⊢
    exact ⟨k0, k1, k2⟩
theorem open_i {H : Type} {enc : TypeId × Value → H} {W : World} {base fuel : Nat} {spare : Nat → Bool} {held : Bool} {v : Value} {y : DataW H × List MemPlace}
    (h : DataW.trod enc Tryz.prog W base spare held fuel 3 [v] = some y) : ∃ n, v = .int .i64 n := by
  obtain ⟨z, hz, _, _⟩ := DataW.trod_int Tryz.underlying3 h
  simp only [List.cons.injEq, and_true] at hz
  exact ⟨z, hz⟩
theorem serFields : ∃ f0 f1 : Field, Tryz.prog.underlying 41 = some (.struct #[f0, f1]) ∧ oneCellFields Tryz.prog #[f0, f1] = true ∧ Tryz.prog.cellsOf 41 = 2 ∧ f0.type = 3 ∧ f1.type = 39 :=
  ⟨_, _, Tryz.underlying41, by kernel_rfl, by kernel_rfl, rfl, rfl⟩
set_option maxRecDepth 100000 in
/-- A series that is handed in. -/
theorem open_ser {H : Type} {enc : TypeId × Value → H} {W : World} {r : Reach} {b0 base : Nat} {spare : Nat → Bool} {held : Bool} {v : Value} {d : DataW H} {p : List MemPlace}
    (hv : Value.okWide Tryz.prog W r b0 41 v) (h : DataW.Trod enc Tryz.prog W base spare held 41 v d p) : ∃ den A n c g, v = serV den A n c ∧ n ≤ c ∧ c ≤ maxLen ∧ SmAt W g n A ∧ (A = none → n = 0 ∧ c = 0) := by
  obtain ⟨f0, f1, hu, hone, hC, e0, e1⟩ := serFields
  obtain ⟨v0, v1, y0, y1, n, rfl, _, _, t0, t1⟩ := open_agg2 hu hone hC hv h
  rw [e0] at t0; rw [e1] at t1
  obtain ⟨den, rfl⟩ := open_i t0
  obtain ⟨A, len, cap, g, rfl, h1, h2, h3, h4⟩ := open_samples t1
  exact ⟨den, A, len, cap, g, rfl, h1, h2, h3, h4⟩
end Go.Proofs.YtocaphcnnmcnjaaGreatDoor

/-
  What every law's lifting needs where texts of numbers are compared: the shelf's tables, and a world that holds them.
-/
namespace Go.Proofs.YtocaphcnnmcnjaaGreatDoor
open Go.ChangeShapes Go.WideShapes Go.ChangeAt Go.RowKit

theorem gPow : Tryz.prog.globalNamed "internal/strconv.uint64pow10" = some 2 := by kernel_rfl
theorem gPowType : (Tryz.prog.globals[2]?).map (·.type) = some 187 := by kernel_rfl
theorem cellsPow : Tryz.prog.cellsOf 187 = 20 := by kernel_rfl
theorem cells64 : Tryz.prog.cellsOf 163 = 1 := by kernel_rfl
theorem powData : (Rows.laid_internal_strconv_uint64pow10 : DataW Unit) = Lib.tabData .u64 Lib.pow10Tab := by kernel_rfl
/-- What the rows list: the tables. -/
abbrev tabs : List (String × DataW Unit) := [("math/bits.deBruijn32tab", Rows.laid_math_bits_deBruijn32tab), ("math/bits.deBruijn64tab", Rows.laid_math_bits_deBruijn64tab), ("internal/strconv.uint64pow10", Rows.laid_internal_strconv_uint64pow10), ("unicode/utf8.acceptRanges", Rows.laid_unicode_utf8_acceptRanges), ("unicode/utf8.first", Rows.laid_unicode_utf8_first)]
theorem pow_of {W : World} (h : laidMetH Tryz.prog tabs W) : Pow W := by
  have h1 : laidMet Tryz.prog [("internal/strconv.uint64pow10", Rows.laid_internal_strconv_uint64pow10)] W := by
    have h2 : laidMet Tryz.prog tabs W := h
    have h3 := h2.filter (fun x => x.1 == "internal/strconv.uint64pow10")
    exact h3
  rw [powData] at h1
  exact Lib.tabIs_of_head (rest := []) gPow gPowType Tryz.underlying187 Tryz.underlying163 cells64 cellsPow h1

/-- A world for the witness: the settled one, the tables holding what their initialisers lay. -/
noncomputable def laidWorld (os : Os) : World :=
  { World.holding Tryz.prog os ⟨#[], #[], []⟩ with heap := Array.modify (Array.modify (Array.modify (Array.modify (Array.modify ((World.holding Tryz.prog os ⟨#[], #[], []⟩).heap) 4 (fun o => match o with | Obj.cells _ t frozen => Obj.cells #[.int .u8 0, .int .u8 1, .int .u8 28, .int .u8 2, .int .u8 29, .int .u8 14, .int .u8 24, .int .u8 3, .int .u8 30, .int .u8 22, .int .u8 20, .int .u8 15, .int .u8 25, .int .u8 17, .int .u8 4, .int .u8 8, .int .u8 31, .int .u8 27, .int .u8 13, .int .u8 23, .int .u8 21, .int .u8 19, .int .u8 16, .int .u8 7, .int .u8 26, .int .u8 12, .int .u8 18, .int .u8 6, .int .u8 11, .int .u8 5, .int .u8 10, .int .u8 9] t frozen | o => o)) 5 (fun o => match o with | Obj.cells _ t frozen => Obj.cells #[.int .u8 0, .int .u8 1, .int .u8 56, .int .u8 2, .int .u8 57, .int .u8 49, .int .u8 28, .int .u8 3, .int .u8 61, .int .u8 58, .int .u8 42, .int .u8 50, .int .u8 38, .int .u8 29, .int .u8 17, .int .u8 4, .int .u8 62, .int .u8 47, .int .u8 59, .int .u8 36, .int .u8 45, .int .u8 43, .int .u8 51, .int .u8 22, .int .u8 53, .int .u8 39, .int .u8 33, .int .u8 30, .int .u8 24, .int .u8 18, .int .u8 12, .int .u8 5, .int .u8 63, .int .u8 55, .int .u8 48, .int .u8 27, .int .u8 60, .int .u8 41, .int .u8 37, .int .u8 16, .int .u8 46, .int .u8 35, .int .u8 44, .int .u8 21, .int .u8 52, .int .u8 32, .int .u8 23, .int .u8 11, .int .u8 54, .int .u8 26, .int .u8 40, .int .u8 15, .int .u8 34, .int .u8 20, .int .u8 31, .int .u8 10, .int .u8 25, .int .u8 14, .int .u8 19, .int .u8 9, .int .u8 13, .int .u8 8, .int .u8 7, .int .u8 6] t frozen | o => o)) 2 (fun o => match o with | Obj.cells _ t frozen => Obj.cells #[.int .u64 1, .int .u64 10, .int .u64 100, .int .u64 1000, .int .u64 10000, .int .u64 100000, .int .u64 1000000, .int .u64 10000000, .int .u64 100000000, .int .u64 1000000000, .int .u64 10000000000, .int .u64 100000000000, .int .u64 1000000000000, .int .u64 10000000000000, .int .u64 100000000000000, .int .u64 1000000000000000, .int .u64 10000000000000000, .int .u64 100000000000000000, .int .u64 1000000000000000000, .int .u64 10000000000000000000] t frozen | o => o)) 1 (fun o => match o with | Obj.cells _ t frozen => Obj.cells #[.int .u8 128, .int .u8 191, .int .u8 160, .int .u8 191, .int .u8 128, .int .u8 159, .int .u8 144, .int .u8 191, .int .u8 128, .int .u8 143, .int .u8 0, .int .u8 0, .int .u8 0, .int .u8 0, .int .u8 0, .int .u8 0, .int .u8 0, .int .u8 0, .int .u8 0, .int .u8 0, .int .u8 0, .int .u8 0, .int .u8 0, .int .u8 0, .int .u8 0, .int .u8 0, .int .u8 0, .int .u8 0, .int .u8 0, .int .u8 0, .int .u8 0, .int .u8 0] t frozen | o => o)) 0 (fun o => match o with | Obj.cells _ t frozen => Obj.cells (Go.Pinned.utf8FirstZ.map fun z => Value.int .u8 (z : Nat)).toArray t frozen | o => o) }
end Go.Proofs.YtocaphcnnmcnjaaGreatDoor

/-
  A track that is handed in.
-/
namespace Go.Proofs.YtocaphcnnmcnjaaGreatDoor
open Go.ChangeShapes Go.WideShapes Go.ChangeAt Go.RowKit Go.Deep Go.Joins

theorem trackFields : ∃ f0 f1 f2 : Field, Tryz.prog.underlying 43 = some (.struct #[f0, f1, f2]) ∧ Tryz.prog.cellsOf 43 = 4 ∧ f0.type = 9 ∧ f1.type = 41 ∧ f2.type = 3 ∧ f0.offset = 0 ∧ f1.offset = 1 ∧ f2.offset = 3 :=
  ⟨_, _, _, Tryz.underlying43, by kernel_rfl, rfl, rfl, rfl, rfl, rfl, rfl⟩
theorem strCells : Tryz.prog.cellsOf 9 = 1 := by kernel_rfl
theorem serCells : Tryz.prog.cellsOf 41 = 2 := by kernel_rfl
theorem intCells1 : Tryz.prog.cellsOf 3 = 1 := by kernel_rfl
theorem serFields2 : ∃ f0 f1 : Field, Tryz.prog.underlying 41 = some (.struct #[f0, f1]) ∧ f0.type = 3 ∧ f1.type = 39 ∧ f0.offset = 0 ∧ f1.offset = 1 ∧ Tryz.prog.cellsOf 39 = 1 :=
  ⟨_, _, Tryz.underlying41, rfl, rfl, rfl, rfl, by kernel_rfl⟩
set_option maxRecDepth 100000 in
/-- A track that is handed in. -/
theorem open_track {H : Type} {enc : TypeId × Value → H} {W : World} {r : Reach} {b0 base : Nat} {spare : Nat → Bool} {held : Bool} {v : Value} {d : DataW H} {p : List MemPlace}
    (hv : Value.okWide Tryz.prog W r b0 43 v) (h : DataW.Trod enc Tryz.prog W base spare held 43 v d p) : ∃ s den A n c lg g, v = trV s den A n c lg ∧ s.size ≤ maxLen ∧ n ≤ c ∧ c ≤ maxLen ∧ SmAt W g n A ∧ (A = none → n = 0 ∧ c = 0) := by
  obtain ⟨f0, f1, f2, hu, hC, t0, t1, t2, o0, o1, o2⟩ := trackFields
  obtain ⟨cs, rfl, hsz⟩ := okWide_struct hu hv
  obtain ⟨c0, c1, c2, c3, rfl⟩ := array4 (hsz.trans hC)
  obtain ⟨fuel, hf⟩ := h
  obtain ⟨y0, y1, y2, m, _, _, h0, h1, h2⟩ := trod_struct3 hu hf
  rw [t0, o0, strCells] at h0
  rw [t1, o1, serCells] at h1
  rw [t2, o2, intCells1] at h2
  simp only [Value.cells, List.drop_zero, List.drop_succ_cons, List.take_succ_cons, List.take_zero] at h0 h1 h2
  obtain ⟨s, hs, _, hl⟩ := DataW.trod_string Tryz.underlying9 h0
  obtain ⟨g0, g1, hu2, e0, e1, p0, p1, hc1⟩ := serFields2
  obtain ⟨z0, z1, m2, _, _, k0, k1⟩ := trod_struct2 hu2 h1
  rw [e0, p0, intCells1] at k0
  rw [e1, p1, hc1] at k1
  simp only [List.drop_zero, List.drop_succ_cons, List.take_succ_cons, List.take_zero] at k0 k1
  obtain ⟨den, rfl⟩ := open_i k0
  obtain ⟨lg, rfl⟩ := open_i h2
  obtain ⟨A, len, cap, g, rfl, h1', h2', h3', h4'⟩ := open_samples k1
  simp only [List.cons.injEq, and_true] at hs
  subst hs
  exact ⟨s, den, A, len, cap, lg, g, rfl, hl, h1', h2', h3', h4'⟩
end Go.Proofs.YtocaphcnnmcnjaaGreatDoor

/-
  Panels: what is wrong with a list of instruments, both sides, over letters.
-/
namespace Go.Proofs.YtocaphcnnmcnjaaGreatDoor
open Go.RowKit
-- AT2
-- AT3

/-- The instruments J 0 .. J (n - 1) lie at A, each with its zones. -/
@[irreducible] def InsAt (w : World) (J : Nat → InR) (n : Nat) (A : Option Addr) : Prop := 0 < n → ∃ b o, A = some ⟨b, o, none⟩ ∧ ∀ k, k < n → (w.cell? ⟨b, o + k * 12, none⟩ = some (.int .i64 (J k).kd) ∧ w.cell? ⟨b, o + k * 12 + 1, none⟩ = some (.string (J k).nm) ∧ w.cell? ⟨b, o + k * 12 + 2, none⟩ = some (.string (J k).tr) ∧ w.cell? ⟨b, o + k * 12 + 3, none⟩ = some (.int .i64 (J k).pl) ∧ w.cell? ⟨b, o + k * 12 + 4, none⟩ = some (.int .i64 (J k).lo) ∧ w.cell? ⟨b, o + k * 12 + 5, none⟩ = some (.int .i64 (J k).hi) ∧ w.cell? ⟨b, o + k * 12 + 6, none⟩ = some (.int .i64 (J k).st) ∧ w.cell? ⟨b, o + k * 12 + 7, none⟩ = some (.slice (J k).Z (J k).zn (J k).zc) ∧ w.cell? ⟨b, o + k * 12 + 8, none⟩ = some (.int .i64 (J k).op) ∧ w.cell? ⟨b, o + k * 12 + 9, none⟩ = some (.int .i64 (J k).nn) ∧ w.cell? ⟨b, o + k * 12 + 10, none⟩ = some (.bool (J k).lt) ∧ w.cell? ⟨b, o + k * 12 + 11, none⟩ = some (.int .i64 (J k).sz)) ∧ ZnAt w (J k).z (J k).zn (J k).Z
theorem InsAt.get {w : World} {J : Nat → InR} {n : Nat} {A : Option Addr} (h : InsAt w J n A) (h0 : 0 < n) : ∃ b o, A = some ⟨b, o, none⟩ ∧ b < w.heap.size ∧ Hid (∀ k, k < n → w.cell? ⟨b, o + k * 12, none⟩ = some (.int .i64 (J k).kd) ∧ w.cell? ⟨b, o + k * 12 + 1, none⟩ = some (.string (J k).nm) ∧ w.cell? ⟨b, o + k * 12 + 2, none⟩ = some (.string (J k).tr) ∧ w.cell? ⟨b, o + k * 12 + 3, none⟩ = some (.int .i64 (J k).pl) ∧ w.cell? ⟨b, o + k * 12 + 4, none⟩ = some (.int .i64 (J k).lo) ∧ w.cell? ⟨b, o + k * 12 + 5, none⟩ = some (.int .i64 (J k).hi) ∧ w.cell? ⟨b, o + k * 12 + 6, none⟩ = some (.int .i64 (J k).st) ∧ w.cell? ⟨b, o + k * 12 + 7, none⟩ = some (.slice (J k).Z (J k).zn (J k).zc) ∧ w.cell? ⟨b, o + k * 12 + 8, none⟩ = some (.int .i64 (J k).op) ∧ w.cell? ⟨b, o + k * 12 + 9, none⟩ = some (.int .i64 (J k).nn) ∧ w.cell? ⟨b, o + k * 12 + 10, none⟩ = some (.bool (J k).lt) ∧ w.cell? ⟨b, o + k * 12 + 11, none⟩ = some (.int .i64 (J k).sz)) ∧ Hid (∀ k, k < n → ZnAt w (J k).z (J k).zn (J k).Z) := by
  unfold InsAt at h
  obtain ⟨b, o, e, hc⟩ := h h0
  exact ⟨b, o, e, World.block_lt_of_cell? w _ (hc 0 h0).1.1, Lib.hid fun k hk => (hc k hk).1, Lib.hid fun k hk => (hc k hk).2⟩
theorem InsAt.gx {w : World} {J : Nat → InR} {n : Nat} {A : Option Addr} {x : Ext} (h : InsAt w J n A) : InsAt (gx w x) J n A := by
  unfold InsAt at *
  intro h0
  obtain ⟨b, o, e, hc⟩ := h h0
  refine ⟨b, o, e, fun k hk => ?_⟩
  obtain ⟨⟨c0, c1, c2, c3, c4, c5, c6, c7, c8, c9, c10, c11⟩, hz⟩ := hc k hk
  exact ⟨⟨cell_keep_gx c0, cell_keep_gx c1, cell_keep_gx c2, cell_keep_gx c3, cell_keep_gx c4, cell_keep_gx c5, cell_keep_gx c6, cell_keep_gx c7, cell_keep_gx c8, cell_keep_gx c9, cell_keep_gx c10, cell_keep_gx c11⟩, hz.gx⟩
theorem InsAt.less {w : World} {J : Nat → InR} {n m : Nat} {A : Option Addr} (h : InsAt w J n A) (hm : m ≤ n) : InsAt w J m A := by
  unfold InsAt at *
  intro h0
  obtain ⟨b, o, e, hc⟩ := h (by omega)
  exact ⟨b, o, e, fun k hk => hc k (by omega)⟩
theorem toL_inj {a b : ByteArray} (h : a.toList = b.toList) : a = b := by
  rw [ByteArray.toList_eq, ByteArray.toList_eq] at h
  exact ByteArray.ext (Array.ext' h)
theorem eqS {a b : ByteArray} (h : a = b) : (a.toList == b.toList) = true := by rw [h]; exact beq_self_eq_true _
theorem neS {a b : ByteArray} (h : a ≠ b) : (a.toList == b.toList) = false := beq_eq_false_iff_ne.2 fun e => h (toL_inj e)
/-- What is wrong with the instrument k, nothing being wrong with those before. -/
def badI (E : Nat → Int) (D : Nat → Bool) (k : Nat) : Int := if E k ≠ 0 then E k else if D k = true then 5 else 0
theorem badI_1 {E : Nat → Int} {D : Nat → Bool} {k : Nat} (h : E k ≠ 0) : badI E D k = E k := by unfold badI; rw [if_pos h]
theorem badI_2 {E : Nat → Int} {D : Nat → Bool} {k : Nat} (h : E k = 0) (h2 : D k = true) : badI E D k = 5 := by unfold badI; rw [if_neg (by rw [h]; decide), if_pos h2]
theorem badI_0 {E : Nat → Int} {D : Nat → Bool} {k : Nat} (h : E k = 0) (h2 : D k = false) : badI E D k = 0 := by unfold badI; rw [if_neg (by rw [h]; decide), if_neg (by rw [h2]; decide)]
@[irreducible] def chkP (E : Nat → Int) (D : Nat → Bool) (n : Nat) : Int := if 100 < n then 3 else firstOf (badI E D) n
/-- Has one before the same name? -/
theorem dup_is (J : Nat → InR) : ∃ D : Nat → Bool, ∀ k, (D k = true ∧ ∃ j, j < k ∧ (J j).nm = (J k).nm ∧ ∀ i, i < j → (J i).nm ≠ (J k).nm) ∨ (D k = false ∧ ∀ j, j < k → (J j).nm ≠ (J k).nm) := by
  classical
  refine ⟨fun k => decide (∃ j, j < k ∧ (J j).nm = (J k).nm), fun k => ?_⟩
  rcases first_of (fun j => (J j).nm = (J k).nm) k with ⟨j, hj, he, hn⟩ | hn
  · exact .inl ⟨decide_eq_true ⟨j, hj, he⟩, j, hj, he, hn⟩
  · exact .inr ⟨decide_eq_false fun ⟨j, hj, he⟩ => hn j hj he, hn⟩
set_option maxHeartbeats 4000000 in
set_option maxRecDepth 100000 in
theorem eqN_any (kd : Int) (nm tr : ByteArray) (pl lo hi st : Int) (Z : Option Addr) (zn zc : Nat) (op nn : Int) (lt : Bool) (sz : Int) (gi : Nat) (b : ByteArray) (B : Bool) (w : World) (hv : w.cell? ⟨gi, 1, none⟩ = some (.string b)) (h1 : (nm.toList == b.toList) = B) :
    Calls Tryz.prog 35 #[inV kd nm tr pl lo hi st Z zn zc op nn lt sz, .pointer (some ⟨gi, 0, none⟩)] w fun e w' => e = .returned (.bool B) ∧ ∃ x, w' = gx w x := by
  have hg : gi < w.heap.size := World.block_lt_of_cell? w _ hv
  go_enter Tryz.func35, Tryz.ntmps35
  go_wp2
  go_ret
  exact ⟨by first | rfl | (rw [h1]; done) | simp [h1], (by repeat (first | (with_reducible exact Gx.refl _) | (with_reducible assumption) | (with_reducible refine Gx.gx ?_) | (with_reducible refine Gx.alloc ?_) | (with_reducible refine Gx.drew ?_) | (with_reducible refine Gx.drewN ?_) | (with_reducible refine Gx.setRow ?_ (by first | omega | (simp; done) | (simp <;> omega))) | (with_reducible refine Gx.setCell ?_ (by first | omega | (simp; done) | (simp <;> omega)))))⟩
set_option maxHeartbeats 4000000 in
set_option maxRecDepth 100000 in
theorem IndexN_any (J : Nat → InR) (A : Option Addr) (k c gi : Nat) (b : ByteArray) (w : World) (hL : InsAt w J k A) (hk : k ≤ 100) (hv : w.cell? ⟨gi, 1, none⟩ = some (.string b)) (K : Nat) (hK : K ≤ k) (HN : Hid (∀ j, j < K → (J j).nm ≠ b)) (r : Int) (HR : Hid ((K = k ∧ r = -1) ∨ (K < k ∧ (J K).nm = b ∧ r = K))) :
    Calls Tryz.prog 62 #[.slice A k c, .func (.func 35) #[] #[.pointer (some ⟨gi, 0, none⟩)]] w fun e w' => e = .returned (.int .i64 r) ∧ ∃ x, w' = gx w x := by
  have HV := Lib.hid hv
  clear hv
  go_enter Tryz.func62, Tryz.ntmps62
  go_wp2
  go_loopw [8] (fun i wr => ∃ j : Nat, j ≤ K ∧ i = .int .i64 j ∧ ∃ x, wr = gx w x) (fun i _ => k - (intOf i).toNat)
  case atStart => exact ⟨0, Nat.zero_le _, rfl, (by repeat (first | (with_reducible exact Gx.refl _) | (with_reducible assumption) | (with_reducible refine Gx.gx ?_) | (with_reducible refine Gx.alloc ?_) | (with_reducible refine Gx.drew ?_) | (with_reducible refine Gx.drewN ?_) | (with_reducible refine Gx.setRow ?_ (by first | omega | (simp; done) | (simp <;> omega))) | (with_reducible refine Gx.setCell ?_ (by first | omega | (simp; done) | (simp <;> omega)))))⟩
  case round =>
    obtain ⟨j, hj, rfl, y, rfl⟩ := hrel
    by_cases hlt : j < k
    · obtain ⟨b0, o0, rfl, hbw, HC, HZ⟩ := hL.get (by omega)
      obtain ⟨c0, c1, c2, c3, c4, c5, c6, c7, c8, c9, c10, c11⟩ := HC.out j hlt
      have HB : ∃ B : Bool, Hid ((((J j).nm.toList == b.toList) = B) ∧ ((B = false ∧ j < K) ∨ (B = true ∧ r = j))) := by
        by_cases hjK : j < K
        · exact ⟨false, Lib.hid ⟨neS (HN.out j hjK), .inl ⟨rfl, hjK⟩⟩⟩
        · obtain rfl : j = K := by omega
          rcases HR.out with ⟨h, -⟩ | ⟨-, h1, h2⟩
          · omega
          · exact ⟨true, Lib.hid ⟨eqS h1, .inr ⟨rfl, h2⟩⟩⟩
      obtain ⟨B, HB⟩ := HB
      generalize J j = I at *
      obtain ⟨kd, nm, tr, pl, lo, hi, st, Z, zn, zc, op, nn, lt, sz, z⟩ := I
      dsimp only at *
      have HM := Lib.hid (fun W (hW : ∃ x, W = gx w x) => eqN_any kd nm tr pl lo hi st Z zn zc op nn lt sz gi b B W (by obtain ⟨x, rfl⟩ := hW; exact cell_keep_gx HV.out) HB.out.1)
      have hkI : (j : Int) < 9223372036854775807 := by omega
      rcases HB.out.2 with ⟨rfl, hjK⟩ | ⟨rfl, hr⟩
      · clear HB
        go_wp2_with (first | (go_at_call 35; refine (HM.out _ (by repeat (first | (with_reducible exact Gx.refl _) | (with_reducible assumption) | (with_reducible refine Gx.gx ?_) | (with_reducible refine Gx.alloc ?_) | (with_reducible refine Gx.drew ?_) | (with_reducible refine Gx.drewN ?_) | (with_reducible refine Gx.setRow ?_ (by first | omega | (simp; done) | (simp <;> omega))) | (with_reducible refine Gx.setCell ?_ (by first | omega | (simp; done) | (simp <;> omega)))))).mono ?_; rintro e w' ⟨rfl, x1, rfl⟩))
        go_roundw
        case rel => exact ⟨j + 1, by omega, by go_num, (by repeat (first | (with_reducible exact Gx.refl _) | (with_reducible assumption) | (with_reducible refine Gx.gx ?_) | (with_reducible refine Gx.alloc ?_) | (with_reducible refine Gx.drew ?_) | (with_reducible refine Gx.drewN ?_) | (with_reducible refine Gx.setRow ?_ (by first | omega | (simp; done) | (simp <;> omega))) | (with_reducible refine Gx.setCell ?_ (by first | omega | (simp; done) | (simp <;> omega)))))⟩
        case measure => simp [intOf]; omega
      · clear HB
        go_wp2_with (first | (go_at_call 35; refine (HM.out _ (by repeat (first | (with_reducible exact Gx.refl _) | (with_reducible assumption) | (with_reducible refine Gx.gx ?_) | (with_reducible refine Gx.alloc ?_) | (with_reducible refine Gx.drew ?_) | (with_reducible refine Gx.drewN ?_) | (with_reducible refine Gx.setRow ?_ (by first | omega | (simp; done) | (simp <;> omega))) | (with_reducible refine Gx.setCell ?_ (by first | omega | (simp; done) | (simp <;> omega)))))).mono ?_; rintro e w' ⟨rfl, x1, rfl⟩))
        go_ret
        exact ⟨by rw [hr]; first | done | rfl, (by repeat (first | (with_reducible exact Gx.refl _) | (with_reducible assumption) | (with_reducible refine Gx.gx ?_) | (with_reducible refine Gx.alloc ?_) | (with_reducible refine Gx.drew ?_) | (with_reducible refine Gx.drewN ?_) | (with_reducible refine Gx.setRow ?_ (by first | omega | (simp; done) | (simp <;> omega))) | (with_reducible refine Gx.setCell ?_ (by first | omega | (simp; done) | (simp <;> omega)))))⟩
    · obtain rfl : j = k := by omega
      obtain rfl : j = K := by omega
      obtain rfl : r = -1 := by
        rcases HR.out with ⟨-, h⟩ | ⟨h, -⟩
        · exact h
        · omega
      go_wp2
      go_ret
      exact ⟨rfl, (by repeat (first | (with_reducible exact Gx.refl _) | (with_reducible assumption) | (with_reducible refine Gx.gx ?_) | (with_reducible refine Gx.alloc ?_) | (with_reducible refine Gx.drew ?_) | (with_reducible refine Gx.drewN ?_) | (with_reducible refine Gx.setRow ?_ (by first | omega | (simp; done) | (simp <;> omega))) | (with_reducible refine Gx.setCell ?_ (by first | omega | (simp; done) | (simp <;> omega)))))⟩
set_option maxHeartbeats 4000000 in
set_option maxRecDepth 100000 in
theorem ContainsN_any (J : Nat → InR) (A : Option Addr) (k c gi : Nat) (b : ByteArray) (B : Bool) (w : World) (hL : InsAt w J k A) (hk : k ≤ 100) (hv : w.cell? ⟨gi, 1, none⟩ = some (.string b)) (hB : (B = true ∧ ∃ j, j < k ∧ (J j).nm = b ∧ ∀ i, i < j → (J i).nm ≠ b) ∨ (B = false ∧ ∀ j, j < k → (J j).nm ≠ b)) :
    Calls Tryz.prog 34 #[.slice A k c, .func (.func 35) #[] #[.pointer (some ⟨gi, 0, none⟩)]] w fun e w' => e = .returned (.bool B) ∧ ∃ x, w' = gx w x := by
  obtain ⟨r, hr, HI⟩ : ∃ r : Int, decide (0 ≤ r) = B ∧ Hid (∀ W, (∃ x, W = gx w x) → Calls Tryz.prog 62 #[.slice A k c, .func (.func 35) #[] #[.pointer (some ⟨gi, 0, none⟩)]] W fun e W' => e = .returned (.int .i64 r) ∧ ∃ x, W' = gx W x) := by
    rcases hB with ⟨rfl, j, hj, he, hn⟩ | ⟨rfl, hn⟩
    · exact ⟨j, decide_eq_true (by omega), Lib.hid fun W hW => IndexN_any J A k c gi b W (by obtain ⟨x, rfl⟩ := hW; exact hL.gx) hk (by obtain ⟨x, rfl⟩ := hW; exact cell_keep_gx hv) j (by omega) (Lib.hid hn) _ (Lib.hid (.inr ⟨hj, he, rfl⟩))⟩
    · exact ⟨-1, rfl, Lib.hid fun W hW => IndexN_any J A k c gi b W (by obtain ⟨x, rfl⟩ := hW; exact hL.gx) hk (by obtain ⟨x, rfl⟩ := hW; exact cell_keep_gx hv) k (by omega) (Lib.hid hn) _ (Lib.hid (.inl ⟨rfl, rfl⟩))⟩
  clear hL hv hB
  go_enter Tryz.func34, Tryz.ntmps34
  go_wp2_with (first | (go_at_call 62; refine (HI.out _ (by repeat (first | (with_reducible exact Gx.refl _) | (with_reducible assumption) | (with_reducible refine Gx.gx ?_) | (with_reducible refine Gx.alloc ?_) | (with_reducible refine Gx.drew ?_) | (with_reducible refine Gx.drewN ?_) | (with_reducible refine Gx.setRow ?_ (by first | omega | (simp; done) | (simp <;> omega))) | (with_reducible refine Gx.setCell ?_ (by first | omega | (simp; done) | (simp <;> omega)))))).mono ?_; rintro e w' ⟨rfl, x1, rfl⟩))
  go_ret
  exact ⟨by first | rfl | (rw [hr]; done) | simp [hr], (by repeat (first | (with_reducible exact Gx.refl _) | (with_reducible assumption) | (with_reducible refine Gx.gx ?_) | (with_reducible refine Gx.alloc ?_) | (with_reducible refine Gx.drew ?_) | (with_reducible refine Gx.drewN ?_) | (with_reducible refine Gx.setRow ?_ (by first | omega | (simp; done) | (simp <;> omega))) | (with_reducible refine Gx.setCell ?_ (by first | omega | (simp; done) | (simp <;> omega)))))⟩
set_option maxHeartbeats 4000000 in
set_option maxRecDepth 100000 in
theorem Check_big (A : Option Addr) (n c : Nat) (w : World) (hn : 100 < n) :
    Calls Tryz.prog 11 #[.agg #[.slice A n c]] w fun e w' => e = .returned (.int .i64 3) ∧ ∃ x, w' = gx w x := by
  have k0 : decide (100 < (n : Int)) = true := decide_eq_true (by omega)
  clear hn
  go_enter Tryz.func11, Tryz.ntmps11
  go_wp2_with go_skip
  go_ret
  exact ⟨rfl, (by repeat (first | (with_reducible exact Gx.refl _) | (with_reducible assumption) | (with_reducible refine Gx.gx ?_) | (with_reducible refine Gx.alloc ?_) | (with_reducible refine Gx.drew ?_) | (with_reducible refine Gx.drewN ?_) | (with_reducible refine Gx.setRow ?_ (by first | omega | (simp; done) | (simp <;> omega))) | (with_reducible refine Gx.setCell ?_ (by first | omega | (simp; done) | (simp <;> omega)))))⟩
set_option maxHeartbeats 4000000 in
set_option maxRecDepth 100000 in
theorem RCheck_big (A : Option Addr) (n c : Nat) (w : World) (hn : 100 < n) :
    Calls Tryz.prog 12 #[.agg #[.slice A n c]] w fun e w' => e = .returned (.int .i64 3) ∧ ∃ x, w' = gx w x := by
  have k0 : decide (100 < (n : Int)) = true := decide_eq_true (by omega)
  clear hn
  go_enter Tryz.func12, Tryz.ntmps12
  go_wp2_with go_skip
  go_ret
  exact ⟨rfl, (by repeat (first | (with_reducible exact Gx.refl _) | (with_reducible assumption) | (with_reducible refine Gx.gx ?_) | (with_reducible refine Gx.alloc ?_) | (with_reducible refine Gx.drew ?_) | (with_reducible refine Gx.drewN ?_) | (with_reducible refine Gx.setRow ?_ (by first | omega | (simp; done) | (simp <;> omega))) | (with_reducible refine Gx.setCell ?_ (by first | omega | (simp; done) | (simp <;> omega)))))⟩
set_option maxHeartbeats 4000000 in
set_option maxRecDepth 100000 in
theorem Check_loop (J : Nat → InR) (A : Option Addr) (n c : Nat) (hnc : n ≤ c) (E : Nat → Int) (D : Nat → Bool) (w : World) (hL : InsAt w J n A) (hn : n ≤ 100) (HI : Hid (∀ k, k < n → ∀ W, (∃ x, W = gx w x) → Calls Tryz.prog 7 #[(J k).v] W fun e W' => e = .returned (.int .i64 (E k)) ∧ ∃ x, W' = gx W x)) (HC : Hid (∀ k, k < n → ∀ W gi, (∃ x, W = gx w x) → W.cell? ⟨gi, 1, none⟩ = some (.string (J k).nm) → Calls Tryz.prog 34 #[.slice A k c, .func (.func 35) #[] #[.pointer (some ⟨gi, 0, none⟩)]] W fun e W' => e = .returned (.bool (D k)) ∧ ∃ x, W' = gx W x)) :
    Calls Tryz.prog 11 #[.agg #[.slice A n c]] w fun e w' => e = .returned (.int .i64 (firstOf (badI E D) n)) ∧ ∃ x, w' = gx w x := by
  have k0 : decide (100 < (n : Int)) = false := decide_eq_false (by omega)
  go_enter Tryz.func11, Tryz.ntmps11
  go_wp2_with go_skip
  clear k0
  go_loopw [13] (fun i wr => ∃ k : Nat, k ≤ n ∧ i = .int .i64 k ∧ firstOf (badI E D) k = 0 ∧ ∃ x, wr = gx (w.alloc (.cells #[.slice A n c] 24)) x) (fun i _ => n - (intOf i).toNat)
  case atStart => exact ⟨0, Nat.zero_le _, rfl, firstOf_0 _, Gx.refl _⟩
  case round =>
    obtain ⟨k, hk, rfl, hck, y, rfl⟩ := hrel
    have HCK := Lib.hid hck
    clear hck
    by_cases hlt : k < n
    · obtain ⟨b0, o0, rfl, hbw, HK, HZ⟩ := hL.get (by omega)
      obtain ⟨c0, c1, c2, c3, c4, c5, c6, c7, c8, c9, c10, c11⟩ := HK.out k hlt
      have HIk := Lib.hid (HI.out k hlt)
      have HCk := Lib.hid (HC.out k hlt)
      have hkc : (k : Int) ≤ (c : Int) := by omega
      generalize J k = I at *
      obtain ⟨kd, nm, tr, pl, lo, hi, st, Z, zn, zc, op, nn, lt, sz, z⟩ := I
      dsimp only at *
      by_cases he : E k = 0
      · have he1 := he
        rw [he] at HIk
        cases hd : D k with
        | true =>
          have HE := Lib.hid (firstOf_bad HCK.out hlt (badI_2 he1 hd) (by decide))
          rw [hd] at HCk
          clear hd he he1
          go_wp2_with (first | (go_at_call 7; refine (HIk.out _ (by repeat (first | (with_reducible exact Gx.refl _) | (with_reducible assumption) | (with_reducible refine Gx.gx ?_) | (with_reducible refine Gx.alloc ?_) | (with_reducible refine Gx.drew ?_) | (with_reducible refine Gx.drewN ?_) | (with_reducible refine Gx.setRow ?_ (by first | omega | (simp; done) | (simp <;> omega))) | (with_reducible refine Gx.setCell ?_ (by first | omega | (simp; done) | (simp <;> omega)))))).mono ?_; rintro e w' ⟨rfl, x1, rfl⟩) | (go_at_call 34; refine (HCk.out _ _ (by repeat (first | (with_reducible exact Gx.refl _) | (with_reducible assumption) | (with_reducible refine Gx.gx ?_) | (with_reducible refine Gx.alloc ?_) | (with_reducible refine Gx.drew ?_) | (with_reducible refine Gx.drewN ?_) | (with_reducible refine Gx.setRow ?_ (by first | omega | (simp; done) | (simp <;> omega))) | (with_reducible refine Gx.setCell ?_ (by first | omega | (simp; done) | (simp <;> omega))))) (by first | assumption | exact cell_keep_gx ‹_› | go_keep | (simp [go_sem]; done))).mono ?_; rintro e w' ⟨rfl, x2, rfl⟩))
          go_ret
          exact ⟨by rw [HE.out]; first | done | rfl, (by repeat (first | (with_reducible exact Gx.refl _) | (with_reducible assumption) | (with_reducible refine Gx.gx ?_) | (with_reducible refine Gx.alloc ?_) | (with_reducible refine Gx.drew ?_) | (with_reducible refine Gx.drewN ?_) | (with_reducible refine Gx.setRow ?_ (by first | omega | (simp; done) | (simp <;> omega))) | (with_reducible refine Gx.setCell ?_ (by first | omega | (simp; done) | (simp <;> omega)))))⟩
        | false =>
          have HE := Lib.hid ((firstOf_succ HCK.out).trans (badI_0 he1 hd))
          rw [hd] at HCk
          clear hd he he1
          go_wp2_with (first | (go_at_call 7; refine (HIk.out _ (by repeat (first | (with_reducible exact Gx.refl _) | (with_reducible assumption) | (with_reducible refine Gx.gx ?_) | (with_reducible refine Gx.alloc ?_) | (with_reducible refine Gx.drew ?_) | (with_reducible refine Gx.drewN ?_) | (with_reducible refine Gx.setRow ?_ (by first | omega | (simp; done) | (simp <;> omega))) | (with_reducible refine Gx.setCell ?_ (by first | omega | (simp; done) | (simp <;> omega)))))).mono ?_; rintro e w' ⟨rfl, x1, rfl⟩) | (go_at_call 34; refine (HCk.out _ _ (by repeat (first | (with_reducible exact Gx.refl _) | (with_reducible assumption) | (with_reducible refine Gx.gx ?_) | (with_reducible refine Gx.alloc ?_) | (with_reducible refine Gx.drew ?_) | (with_reducible refine Gx.drewN ?_) | (with_reducible refine Gx.setRow ?_ (by first | omega | (simp; done) | (simp <;> omega))) | (with_reducible refine Gx.setCell ?_ (by first | omega | (simp; done) | (simp <;> omega))))) (by first | assumption | exact cell_keep_gx ‹_› | go_keep | (simp [go_sem]; done))).mono ?_; rintro e w' ⟨rfl, x2, rfl⟩))
          go_roundw
          case rel => exact ⟨k + 1, by omega, by go_num, HE.out, (by repeat (first | (with_reducible exact Gx.refl _) | (with_reducible assumption) | (with_reducible refine Gx.gx ?_) | (with_reducible refine Gx.alloc ?_) | (with_reducible refine Gx.drew ?_) | (with_reducible refine Gx.drewN ?_) | (with_reducible refine Gx.setRow ?_ (by first | omega | (simp; done) | (simp <;> omega))) | (with_reducible refine Gx.setCell ?_ (by first | omega | (simp; done) | (simp <;> omega)))))⟩
          case measure => simp [intOf]; omega
      · have HE := Lib.hid (firstOf_bad HCK.out hlt (badI_1 (D := D) he) he)
        have k0 := beq0 he
        have k1 := bne0 he
        have k2 := ne0t he
        generalize E k = ek at *
        clear he
        go_wp2_with (first | go_skip | (go_at_call 7; refine (HIk.out _ (by repeat (first | (with_reducible exact Gx.refl _) | (with_reducible assumption) | (with_reducible refine Gx.gx ?_) | (with_reducible refine Gx.alloc ?_) | (with_reducible refine Gx.drew ?_) | (with_reducible refine Gx.drewN ?_) | (with_reducible refine Gx.setRow ?_ (by first | omega | (simp; done) | (simp <;> omega))) | (with_reducible refine Gx.setCell ?_ (by first | omega | (simp; done) | (simp <;> omega)))))).mono ?_; rintro e w' ⟨rfl, x1, rfl⟩))
        go_ret
        exact ⟨by rw [HE.out]; first | done | rfl, (by repeat (first | (with_reducible exact Gx.refl _) | (with_reducible assumption) | (with_reducible refine Gx.gx ?_) | (with_reducible refine Gx.alloc ?_) | (with_reducible refine Gx.drew ?_) | (with_reducible refine Gx.drewN ?_) | (with_reducible refine Gx.setRow ?_ (by first | omega | (simp; done) | (simp <;> omega))) | (with_reducible refine Gx.setCell ?_ (by first | omega | (simp; done) | (simp <;> omega)))))⟩
    · obtain rfl : k = n := by omega
      go_wp2
      go_ret
      exact ⟨by rw [HCK.out]; first | done | rfl, (by repeat (first | (with_reducible exact Gx.refl _) | (with_reducible assumption) | (with_reducible refine Gx.gx ?_) | (with_reducible refine Gx.alloc ?_) | (with_reducible refine Gx.drew ?_) | (with_reducible refine Gx.drewN ?_) | (with_reducible refine Gx.setRow ?_ (by first | omega | (simp; done) | (simp <;> omega))) | (with_reducible refine Gx.setCell ?_ (by first | omega | (simp; done) | (simp <;> omega)))))⟩
set_option maxHeartbeats 4000000 in
set_option maxRecDepth 100000 in
theorem RCheck_loop (J : Nat → InR) (A : Option Addr) (n c : Nat) (hnc : n ≤ c) (E : Nat → Int) (D : Nat → Bool) (w : World) (hL : InsAt w J n A) (hn : n ≤ 100) (HI : Hid (∀ k, k < n → ∀ W, (∃ x, W = gx w x) → Calls Tryz.prog 8 #[(J k).v] W fun e W' => e = .returned (.int .i64 (E k)) ∧ ∃ x, W' = gx W x)) (HD : Hid (∀ k, k < n → (D k = true ∧ ∃ j, j < k ∧ (J j).nm = (J k).nm ∧ ∀ i, i < j → (J i).nm ≠ (J k).nm) ∨ (D k = false ∧ ∀ j, j < k → (J j).nm ≠ (J k).nm))) :
    Calls Tryz.prog 12 #[.agg #[.slice A n c]] w fun e w' => e = .returned (.int .i64 (firstOf (badI E D) n)) ∧ ∃ x, w' = gx w x := by
  have k0 : decide (100 < (n : Int)) = false := decide_eq_false (by omega)
  go_enter Tryz.func12, Tryz.ntmps12
  go_wp2_with go_skip
  clear k0
  go_loopw [15] (fun i wr => ∃ k : Nat, k ≤ n ∧ i = .int .i64 k ∧ firstOf (badI E D) k = 0 ∧ ∃ x, wr = gx (w.alloc (.cells #[.slice A n c] 24)) x) (fun i _ => n - (intOf i).toNat)
  case atStart => exact ⟨0, Nat.zero_le _, rfl, firstOf_0 _, Gx.refl _⟩
  case round =>
    obtain ⟨k, hk, rfl, hck, y, rfl⟩ := hrel
    have HCK := Lib.hid hck
    clear hck
    by_cases hlt : k < n
    · obtain ⟨b0, o0, rfl, hbw, HK, HZ⟩ := hL.get (by omega)
      obtain ⟨c0, c1, c2, c3, c4, c5, c6, c7, c8, c9, c10, c11⟩ := HK.out k hlt
      have HIk := Lib.hid (HI.out k hlt)
      obtain ⟨K, hKk, HN, HR⟩ : ∃ K, K ≤ k ∧ Hid (∀ j, j < K → (J j).nm ≠ (J k).nm) ∧ Hid ((K = k ∧ D k = false) ∨ (K < k ∧ (J K).nm = (J k).nm ∧ D k = true)) := by
        rcases HD.out k hlt with ⟨h, j, hj, he, hn'⟩ | ⟨h, hn'⟩
        · exact ⟨j, by omega, Lib.hid hn', Lib.hid (.inr ⟨hj, he, h⟩)⟩
        · exact ⟨k, by omega, Lib.hid hn', Lib.hid (.inl ⟨rfl, h⟩)⟩
      have hkc : (k : Int) ≤ (c : Int) := by omega
      obtain ⟨I, hI⟩ : ∃ I, J k = I := ⟨_, rfl⟩
      rw [hI] at HIk HN HR c0 c1 c2 c3 c4 c5 c6 c7 c8 c9 c10 c11
      obtain ⟨kd, nm, tr, pl, lo, hi, st, Z, zn, zc, op, nn, lt, sz, z⟩ := I
      dsimp only at *
      clear hI
      by_cases he : E k = 0
      · have he1 := he
        rw [he] at HIk
        clear he
        have HE1 : Hid (D k = true → firstOf (badI E D) n = 5) := Lib.hid fun hd => firstOf_bad HCK.out hlt (badI_2 he1 hd) (by decide)
        have HE0 : Hid (D k = false → firstOf (badI E D) (k + 1) = 0) := Lib.hid fun hd => (firstOf_succ HCK.out).trans (badI_0 he1 hd)
        clear he1
        go_wp2_with (first | (go_at_call 8; refine (HIk.out _ (by repeat (first | (with_reducible exact Gx.refl _) | (with_reducible assumption) | (with_reducible refine Gx.gx ?_) | (with_reducible refine Gx.alloc ?_) | (with_reducible refine Gx.drew ?_) | (with_reducible refine Gx.drewN ?_) | (with_reducible refine Gx.setRow ?_ (by first | omega | (simp; done) | (simp <;> omega))) | (with_reducible refine Gx.setCell ?_ (by first | omega | (simp; done) | (simp <;> omega)))))).mono ?_; rintro e w' ⟨rfl, x1, rfl⟩))
        go_loopw [30] (fun i wr => ∃ j : Nat, j ≤ K ∧ i = .int .i64 j ∧ ∃ x, wr = gx ((gx (w.alloc (.cells #[.slice (some ⟨b0, o0, none⟩) n c] 24)) y).alloc (.cells #[.int .i64 kd, .string nm, .string tr, .int .i64 pl, .int .i64 lo, .int .i64 hi, .int .i64 st, .slice Z zn zc, .int .i64 op, .int .i64 nn, .bool lt, .int .i64 sz] 27)) x) (fun i _ => k - (intOf i).toNat)
        case atStart => exact ⟨0, Nat.zero_le _, rfl, (by repeat (first | (with_reducible exact Gx.refl _) | (with_reducible assumption) | (with_reducible refine Gx.gx ?_) | (with_reducible refine Gx.alloc ?_) | (with_reducible refine Gx.drew ?_) | (with_reducible refine Gx.drewN ?_) | (with_reducible refine Gx.setRow ?_ (by first | omega | (simp; done) | (simp <;> omega))) | (with_reducible refine Gx.setCell ?_ (by first | omega | (simp; done) | (simp <;> omega)))))⟩
        case round =>
          obtain ⟨j, hj, rfl, v, rfl⟩ := hrel
          by_cases hlj : j < k
          · obtain ⟨d0, d1, d2, d3, d4, d5, d6, d7, d8, d9, d10, d11⟩ := HK.out j (by omega)
            have hlj' : (j : Int) < (k : Int) := by omega
            have HB : ∃ B : Bool, Hid ((((J j).nm.toList == nm.toList) = B) ∧ ((nm.toList == (J j).nm.toList) = B) ∧ ((B = false ∧ j < K) ∨ (B = true ∧ D k = true))) := by
              by_cases hjK : j < K
              · exact ⟨false, Lib.hid ⟨neS (HN.out j hjK), neS fun h => HN.out j hjK h.symm, .inl ⟨rfl, hjK⟩⟩⟩
              · obtain rfl : j = K := by omega
                rcases HR.out with ⟨h, -⟩ | ⟨-, h1, h2⟩
                · omega
                · exact ⟨true, Lib.hid ⟨eqS h1, eqS h1.symm, .inr ⟨rfl, h2⟩⟩⟩
            obtain ⟨B, HB⟩ := HB
            generalize J j = I2 at *
            obtain ⟨kd2, nm2, tr2, pl2, lo2, hi2, st2, Z2, zn2, zc2, op2, nn2, lt2, sz2, z2⟩ := I2
            dsimp only at *
            obtain ⟨b1, b2, hB⟩ := HB.out
            rcases hB with ⟨rfl, hjK⟩ | ⟨rfl, hd⟩
            · clear HB
              go_wp2
              go_roundw
              case rel => exact ⟨j + 1, by omega, by go_num, (by repeat (first | (with_reducible exact Gx.refl _) | (with_reducible assumption) | (with_reducible refine Gx.gx ?_) | (with_reducible refine Gx.alloc ?_) | (with_reducible refine Gx.drew ?_) | (with_reducible refine Gx.drewN ?_) | (with_reducible refine Gx.setRow ?_ (by first | omega | (simp; done) | (simp <;> omega))) | (with_reducible refine Gx.setCell ?_ (by first | omega | (simp; done) | (simp <;> omega)))))⟩
              case measure => simp [intOf]; omega
            · clear HB
              have HE := Lib.hid (HE1.out hd)
              clear hd
              go_wp2
              go_ret
              exact ⟨by rw [HE.out]; first | done | rfl, (by repeat (first | (with_reducible exact Gx.refl _) | (with_reducible assumption) | (with_reducible refine Gx.gx ?_) | (with_reducible refine Gx.alloc ?_) | (with_reducible refine Gx.drew ?_) | (with_reducible refine Gx.drewN ?_) | (with_reducible refine Gx.setRow ?_ (by first | omega | (simp; done) | (simp <;> omega))) | (with_reducible refine Gx.setCell ?_ (by first | omega | (simp; done) | (simp <;> omega)))))⟩
          · obtain rfl : j = k := by omega
            have HE : Hid (firstOf (badI E D) (j + 1) = 0) := by
              rcases HR.out with ⟨-, h⟩ | ⟨h, -⟩
              · exact Lib.hid (HE0.out h)
              · omega
            go_wp2
            go_roundw
            case rel => exact ⟨j + 1, by omega, by go_num, HE.out, (by repeat (first | (with_reducible exact Gx.refl _) | (with_reducible assumption) | (with_reducible refine Gx.gx ?_) | (with_reducible refine Gx.alloc ?_) | (with_reducible refine Gx.drew ?_) | (with_reducible refine Gx.drewN ?_) | (with_reducible refine Gx.setRow ?_ (by first | omega | (simp; done) | (simp <;> omega))) | (with_reducible refine Gx.setCell ?_ (by first | omega | (simp; done) | (simp <;> omega)))))⟩
            case measure => simp [intOf]; omega
      · have HE := Lib.hid (firstOf_bad HCK.out hlt (badI_1 (D := D) he) he)
        have k0 := beq0 he
        have k1 := bne0 he
        have k2 := ne0t he
        generalize E k = ek at *
        clear he
        go_wp2_with (first | go_skip | (go_at_call 8; refine (HIk.out _ (by repeat (first | (with_reducible exact Gx.refl _) | (with_reducible assumption) | (with_reducible refine Gx.gx ?_) | (with_reducible refine Gx.alloc ?_) | (with_reducible refine Gx.drew ?_) | (with_reducible refine Gx.drewN ?_) | (with_reducible refine Gx.setRow ?_ (by first | omega | (simp; done) | (simp <;> omega))) | (with_reducible refine Gx.setCell ?_ (by first | omega | (simp; done) | (simp <;> omega)))))).mono ?_; rintro e w' ⟨rfl, x1, rfl⟩))
        go_ret
        exact ⟨by rw [HE.out]; first | done | rfl, (by repeat (first | (with_reducible exact Gx.refl _) | (with_reducible assumption) | (with_reducible refine Gx.gx ?_) | (with_reducible refine Gx.alloc ?_) | (with_reducible refine Gx.drew ?_) | (with_reducible refine Gx.drewN ?_) | (with_reducible refine Gx.setRow ?_ (by first | omega | (simp; done) | (simp <;> omega))) | (with_reducible refine Gx.setCell ?_ (by first | omega | (simp; done) | (simp <;> omega)))))⟩
    · obtain rfl : k = n := by omega
      go_wp2
      go_ret
      exact ⟨by rw [HCK.out]; first | done | rfl, (by repeat (first | (with_reducible exact Gx.refl _) | (with_reducible assumption) | (with_reducible refine Gx.gx ?_) | (with_reducible refine Gx.alloc ?_) | (with_reducible refine Gx.drew ?_) | (with_reducible refine Gx.drewN ?_) | (with_reducible refine Gx.setRow ?_ (by first | omega | (simp; done) | (simp <;> omega))) | (with_reducible refine Gx.setCell ?_ (by first | omega | (simp; done) | (simp <;> omega)))))⟩
end Go.Proofs.YtocaphcnnmcnjaaGreatDoor

/-
  Instruments, zones and panels that are handed in.
-/
namespace Go.Proofs.YtocaphcnnmcnjaaGreatDoor
open Go.ChangeShapes Go.WideShapes Go.ChangeAt Go.RowKit Go.Deep Go.Joins

theorem open_s {H : Type} {enc : TypeId × Value → H} {W : World} {base fuel : Nat} {spare : Nat → Bool} {held : Bool} {v : Value} {y : DataW H × List MemPlace}
    (h : DataW.trod enc Tryz.prog W base spare held fuel 9 [v] = some y) : ∃ s : ByteArray, v = .string s ∧ s.size ≤ 9223372036854775807 := by
  obtain ⟨s, hs, _, hl⟩ := DataW.trod_string Tryz.underlying9 h
  simp only [List.cons.injEq, and_true] at hs
  exact ⟨s, hs, by simp only [maxLen] at hl; omega⟩
theorem open_b {H : Type} {enc : TypeId × Value → H} {W : World} {base fuel : Nat} {spare : Nat → Bool} {held : Bool} {v : Value} {y : DataW H × List MemPlace}
    (h : DataW.trod enc Tryz.prog W base spare held fuel 4 [v] = some y) : ∃ b : Bool, v = .bool b := by
  obtain ⟨s, hs, _⟩ := DataW.trod_bool Tryz.underlying4 h
  simp only [List.cons.injEq, and_true] at hs
  exact ⟨s, hs⟩
theorem zoneCells : Tryz.prog.cellsOf 94 = 3 := by kernel_rfl
theorem zoneFields : ∃ f0 f1 f2 : Field, Tryz.prog.underlying 94 = some (.struct #[f0, f1, f2]) ∧ oneCellFields Tryz.prog #[f0, f1, f2] = true ∧ f0.type = 3 ∧ f1.type = 3 ∧ f2.type = 9 :=
  ⟨_, _, _, Tryz.underlying94, by kernel_rfl, rfl, rfl, rfl⟩
theorem open_zones {H : Type} {enc : TypeId × Value → H} {W : World} {base fuel : Nat} {spare : Nat → Bool} {held : Bool} {v : Value} {y : DataW H × List MemPlace}
    (h : DataW.trod enc Tryz.prog W base spare held fuel 25 [v] = some y) : ∃ A len cap z, v = .slice A len cap ∧ len ≤ cap ∧ ZnAt W z len A ∧ ∀ k, k < len → (z k).nm.size ≤ 9223372036854775807 := by
  obtain ⟨f0, f1, f2, hu, hone, e0, e1, e2⟩ := zoneFields
  rcases open_rows Tryz.underlying25 hu hone zoneCells h with h0 | ⟨a, len, cap, h0, hl, hm, hf⟩
  · obtain rfl : v = .slice none 0 0 := by simpa using h0
    exact ⟨none, 0, 0, fun _ => ⟨0, 0, ⟨#[]⟩⟩, rfl, Nat.le_refl _, ZnAt.mk fun h => absurd h (by omega), fun k hk => absurd hk (by omega)⟩
  · obtain rfl : v = .slice (some a) len cap := by simpa using h0
    have key : ∀ i, ∃ z : Zn, i < len → (W.cell? (a.add (i * 3 + 0)) = some (.int .i64 z.fr) ∧ W.cell? (a.add (i * 3 + 1)) = some (.int .i64 z.to) ∧ W.cell? (a.add (i * 3 + 2)) = some (.string z.nm)) ∧ z.nm.size ≤ 9223372036854775807 := by
      intro i
      by_cases hi : i < len
      · obtain ⟨n0, v0, y0, c0, t0⟩ := hf i hi 0 f0 rfl
        obtain ⟨n1, v1, y1, c1, t1⟩ := hf i hi 1 f1 rfl
        obtain ⟨n2, v2, y2, c2, t2⟩ := hf i hi 2 f2 rfl
        rw [e0] at t0; rw [e1] at t1; rw [e2] at t2
        obtain ⟨fr, rfl⟩ := open_i t0
        obtain ⟨to, rfl⟩ := open_i t1
        obtain ⟨nm, rfl, hs⟩ := open_s t2
        exact ⟨⟨fr, to, nm⟩, fun _ => ⟨⟨c0, c1, c2⟩, hs⟩⟩
      · exact ⟨⟨0, 0, ⟨#[]⟩⟩, fun h => absurd h hi⟩
    obtain ⟨z, hz⟩ := Classical.axiomOfChoice key
    refine ⟨some a, len, cap, z, rfl, hl, ZnAt.mk fun hpos => ?_, fun k hk => (hz k hk).2⟩
    obtain ⟨b, o, sp⟩ := a
    have hsp : sp = none := by
      have := (hz 0 hpos).1.1
      simpa [Addr.add] using World.cell?_spot this
    subst hsp
    refine ⟨b, o, rfl, fun k hk => ?_⟩
    obtain ⟨⟨k0, k1, k2⟩, -⟩ := hz k hk
    simp only [Addr.add_lit, Nat.add_zero, ← Nat.add_assoc] at k0 k1 k2 ⊢
    exact ⟨k0, k1, k2⟩
theorem insCells : Tryz.prog.cellsOf 27 = 12 := by kernel_rfl
theorem insFields : ∃ f0 f1 f2 f3 f4 f5 f6 f7 f8 f9 f10 f11 : Field, Tryz.prog.underlying 27 = some (.struct #[f0, f1, f2, f3, f4, f5, f6, f7, f8, f9, f10, f11]) ∧ oneCellFields Tryz.prog #[f0, f1, f2, f3, f4, f5, f6, f7, f8, f9, f10, f11] = true ∧ f0.type = 3 ∧ f1.type = 9 ∧ f2.type = 9 ∧ f3.type = 3 ∧ f4.type = 3 ∧ f5.type = 3 ∧ f6.type = 3 ∧ f7.type = 25 ∧ f8.type = 3 ∧ f9.type = 3 ∧ f10.type = 4 ∧ f11.type = 3 :=
  ⟨_, _, _, _, _, _, _, _, _, _, _, _, Tryz.underlying27, by kernel_rfl, rfl, rfl, rfl, rfl, rfl, rfl, rfl, rfl, rfl, rfl, rfl, rfl⟩
/-- Twelve values that are those of an instrument. -/
theorem ins12 {H : Type} {enc : TypeId × Value → H} {W : World} {base : Nat} {spare : Nat → Bool} {held : Bool} {f0 f1 f2 f3 f4 f5 f6 f7 f8 f9 f10 f11 : Field} (hty : f0.type = 3 ∧ f1.type = 9 ∧ f2.type = 9 ∧ f3.type = 3 ∧ f4.type = 3 ∧ f5.type = 3 ∧ f6.type = 3 ∧ f7.type = 25 ∧ f8.type = 3 ∧ f9.type = 3 ∧ f10.type = 4 ∧ f11.type = 3) (c : Nat → Value)
    (h : ∀ (j : Nat) (f : Field), (#[f0, f1, f2, f3, f4, f5, f6, f7, f8, f9, f10, f11] : Array Field)[j]? = some f → ∃ (n : Nat) (y : DataW H × List MemPlace), DataW.trod enc Tryz.prog W base spare held n f.type [c j] = some y) :
    ∃ I : InR, (c 0 = .int .i64 I.kd ∧ c 1 = .string I.nm ∧ c 2 = .string I.tr ∧ c 3 = .int .i64 I.pl ∧ c 4 = .int .i64 I.lo ∧ c 5 = .int .i64 I.hi ∧ c 6 = .int .i64 I.st ∧ c 7 = .slice I.Z I.zn I.zc ∧ c 8 = .int .i64 I.op ∧ c 9 = .int .i64 I.nn ∧ c 10 = .bool I.lt ∧ c 11 = .int .i64 I.sz) ∧ ZnAt W I.z I.zn I.Z ∧ I.fits := by
  obtain ⟨g0, g1, g2, g3, g4, g5, g6, g7, g8, g9, g10, g11⟩ := hty
  obtain ⟨n0, y0, t0⟩ := h 0 f0 rfl
  rw [g0] at t0
  obtain ⟨x0, k0⟩ := open_i t0
  obtain ⟨n1, y1, t1⟩ := h 1 f1 rfl
  rw [g1] at t1
  obtain ⟨x1, k1, s1⟩ := open_s t1
  obtain ⟨n2, y2, t2⟩ := h 2 f2 rfl
  rw [g2] at t2
  obtain ⟨x2, k2, s2⟩ := open_s t2
  obtain ⟨n3, y3, t3⟩ := h 3 f3 rfl
  rw [g3] at t3
  obtain ⟨x3, k3⟩ := open_i t3
  obtain ⟨n4, y4, t4⟩ := h 4 f4 rfl
  rw [g4] at t4
  obtain ⟨x4, k4⟩ := open_i t4
  obtain ⟨n5, y5, t5⟩ := h 5 f5 rfl
  rw [g5] at t5
  obtain ⟨x5, k5⟩ := open_i t5
  obtain ⟨n6, y6, t6⟩ := h 6 f6 rfl
  rw [g6] at t6
  obtain ⟨x6, k6⟩ := open_i t6
  obtain ⟨n7, y7, t7⟩ := h 7 f7 rfl
  rw [g7] at t7
  obtain ⟨x7, zn, zc, z, k7, hzc, hz, hzs⟩ := open_zones t7
  obtain ⟨n8, y8, t8⟩ := h 8 f8 rfl
  rw [g8] at t8
  obtain ⟨x8, k8⟩ := open_i t8
  obtain ⟨n9, y9, t9⟩ := h 9 f9 rfl
  rw [g9] at t9
  obtain ⟨x9, k9⟩ := open_i t9
  obtain ⟨n10, y10, t10⟩ := h 10 f10 rfl
  rw [g10] at t10
  obtain ⟨x10, k10⟩ := open_b t10
  obtain ⟨n11, y11, t11⟩ := h 11 f11 rfl
  rw [g11] at t11
  obtain ⟨x11, k11⟩ := open_i t11
  exact ⟨⟨x0, x1, x2, x3, x4, x5, x6, x7, zn, zc, x8, x9, x10, x11, z⟩, ⟨k0, k1, k2, k3, k4, k5, k6, k7, k8, k9, k10, k11⟩, hz, by unfold InR.fits; exact ⟨s1, s2, hzs⟩⟩
set_option maxRecDepth 100000 in
/-- An instrument that is handed in. -/
theorem open_inst {H : Type} {enc : TypeId × Value → H} {W : World} {r : Reach} {b0 base : Nat} {spare : Nat → Bool} {held : Bool} {v : Value} {d : DataW H} {p : List MemPlace}
    (hv : Value.okWide Tryz.prog W r b0 27 v) (h : DataW.Trod enc Tryz.prog W base spare held 27 v d p) : ∃ I : InR, v = I.v ∧ ZnAt W I.z I.zn I.Z ∧ I.fits := by
  obtain ⟨f0, f1, f2, f3, f4, f5, f6, f7, f8, f9, f10, f11, hu, hone, hty⟩ := insFields
  obtain ⟨cs, rfl, hsz⟩ := okWide_struct hu hv
  have hsz' : cs.size = 12 := hsz.trans insCells
  obtain ⟨l⟩ := cs
  match l, hsz' with
  | [c0, c1, c2, c3, c4, c5, c6, c7, c8, c9, c10, c11], _ =>
    obtain ⟨fuel, hf⟩ := h
    obtain ⟨ys, n', hn', hy, hlen, hyl, ha⟩ := DataW.trod_struct hu hf
    obtain ⟨I, ⟨rfl, rfl, rfl, rfl, rfl, rfl, rfl, rfl, rfl, rfl, rfl, rfl⟩, hz, hfit⟩ := ins12 (enc := enc) (W := W) (base := base) (spare := spare) (held := held) hty (fun j => ([c0, c1, c2, c3, c4, c5, c6, c7, c8, c9, c10, c11] : List Value).getD j (.bool false)) (by
      intro j f hj
      have h1 := ha j f hj
      obtain ⟨ho, hk⟩ := hone_of hone j f hj
      rw [ho, hk] at h1
      have hjl : j < 12 := (Array.getElem?_eq_some_iff.1 hj).1
      have hys : ys[j]? = some (ys[j]'(by simp at hyl; omega)) := List.getElem?_eq_getElem _
      have hj' : j = 0 ∨ j = 1 ∨ j = 2 ∨ j = 3 ∨ j = 4 ∨ j = 5 ∨ j = 6 ∨ j = 7 ∨ j = 8 ∨ j = 9 ∨ j = 10 ∨ j = 11 := by omega
      have e : List.take 1 (List.drop j (Value.agg #[c0, c1, c2, c3, c4, c5, c6, c7, c8, c9, c10, c11]).cells.toList) = [([c0, c1, c2, c3, c4, c5, c6, c7, c8, c9, c10, c11] : List Value).getD j (.bool false)] := by
        clear h1 hys hj ho hjl
        rcases hj' with rfl | rfl | rfl | rfl | rfl | rfl | rfl | rfl | rfl | rfl | rfl | rfl <;> rfl
      rw [show (Value.agg { toList := [c0, c1, c2, c3, c4, c5, c6, c7, c8, c9, c10, c11] }) = Value.agg #[c0, c1, c2, c3, c4, c5, c6, c7, c8, c9, c10, c11] from rfl, e] at h1
      exact ⟨n', _, h1.trans hys⟩)
    exact ⟨I, rfl, hz, hfit⟩
set_option maxRecDepth 100000 in
/-- A list of instruments that is handed in. -/
theorem open_insts {H : Type} {enc : TypeId × Value → H} {W : World} {base fuel : Nat} {spare : Nat → Bool} {held : Bool} {v : Value} {y : DataW H × List MemPlace}
    (h : DataW.trod enc Tryz.prog W base spare held fuel 22 [v] = some y) : ∃ A len cap J, v = .slice A len cap ∧ (len ≤ cap ∧ cap ≤ 9223372036854775807) ∧ InsAt W J len A ∧ ∀ k, k < len → (J k).fits := by
  obtain ⟨f0, f1, f2, f3, f4, f5, f6, f7, f8, f9, f10, f11, hu, hone, hty⟩ := insFields
  rcases open_rows Tryz.underlying22 hu hone insCells h with h0 | ⟨a, len, cap, h0, hl, hm, hf⟩
  · obtain rfl : v = .slice none 0 0 := by simpa using h0
    exact ⟨none, 0, 0, fun _ => ⟨0, ⟨#[]⟩, ⟨#[]⟩, 0, 0, 0, 0, none, 0, 0, 0, 0, false, 0, fun _ => ⟨0, 0, ⟨#[]⟩⟩⟩, rfl, ⟨Nat.le_refl _, Nat.zero_le _⟩, by unfold InsAt; intro h; omega, fun k hk => absurd hk (by omega)⟩
  · obtain rfl : v = .slice (some a) len cap := by simpa using h0
    have key : ∀ i, ∃ I : InR, i < len → (W.cell? (a.add (i * 12 + 0)) = some (.int .i64 I.kd) ∧ W.cell? (a.add (i * 12 + 1)) = some (.string I.nm) ∧ W.cell? (a.add (i * 12 + 2)) = some (.string I.tr) ∧ W.cell? (a.add (i * 12 + 3)) = some (.int .i64 I.pl) ∧ W.cell? (a.add (i * 12 + 4)) = some (.int .i64 I.lo) ∧ W.cell? (a.add (i * 12 + 5)) = some (.int .i64 I.hi) ∧ W.cell? (a.add (i * 12 + 6)) = some (.int .i64 I.st) ∧ W.cell? (a.add (i * 12 + 7)) = some (.slice I.Z I.zn I.zc) ∧ W.cell? (a.add (i * 12 + 8)) = some (.int .i64 I.op) ∧ W.cell? (a.add (i * 12 + 9)) = some (.int .i64 I.nn) ∧ W.cell? (a.add (i * 12 + 10)) = some (.bool I.lt) ∧ W.cell? (a.add (i * 12 + 11)) = some (.int .i64 I.sz)) ∧ ZnAt W I.z I.zn I.Z ∧ I.fits := by
      intro i
      by_cases hi : i < len
      · have hc : ∀ j, ∃ v, j < 12 → W.cell? (a.add (i * 12 + j)) = some v ∧ ∀ f, (#[f0, f1, f2, f3, f4, f5, f6, f7, f8, f9, f10, f11] : Array Field)[j]? = some f → ∃ (n : Nat) (y : DataW H × List MemPlace), DataW.trod enc Tryz.prog W base spare held n f.type [v] = some y := by
          intro j
          by_cases hj : j < 12
          · obtain ⟨f, hfj⟩ : ∃ f, (#[f0, f1, f2, f3, f4, f5, f6, f7, f8, f9, f10, f11] : Array Field)[j]? = some f := ⟨_, Array.getElem?_eq_getElem (by simpa using hj)⟩
            obtain ⟨n, v, y, hcv, ht⟩ := hf i hi j f hfj
            exact ⟨v, fun _ => ⟨hcv, fun f' hf' => by rw [hfj] at hf'; obtain rfl := Option.some.inj hf'; exact ⟨n, y, ht⟩⟩⟩
          · exact ⟨(.bool false), fun h => absurd h hj⟩
        obtain ⟨c, hc⟩ := Classical.axiomOfChoice hc
        obtain ⟨I, ⟨q0, q1, q2, q3, q4, q5, q6, q7, q8, q9, q10, q11⟩, hz, hfit⟩ := ins12 (enc := enc) (W := W) (base := base) (spare := spare) (held := held) hty c (fun j f hj => (hc j (by have := (Array.getElem?_eq_some_iff.1 hj).1; simpa using this)).2 f hj)
        exact ⟨I, fun _ => ⟨⟨(hc 0 (by omega)).1.trans (by rw [q0]), (hc 1 (by omega)).1.trans (by rw [q1]), (hc 2 (by omega)).1.trans (by rw [q2]), (hc 3 (by omega)).1.trans (by rw [q3]), (hc 4 (by omega)).1.trans (by rw [q4]), (hc 5 (by omega)).1.trans (by rw [q5]), (hc 6 (by omega)).1.trans (by rw [q6]), (hc 7 (by omega)).1.trans (by rw [q7]), (hc 8 (by omega)).1.trans (by rw [q8]), (hc 9 (by omega)).1.trans (by rw [q9]), (hc 10 (by omega)).1.trans (by rw [q10]), (hc 11 (by omega)).1.trans (by rw [q11])⟩, hz, hfit⟩⟩
      · exact ⟨⟨0, ⟨#[]⟩, ⟨#[]⟩, 0, 0, 0, 0, none, 0, 0, 0, 0, false, 0, fun _ => ⟨0, 0, ⟨#[]⟩⟩⟩, fun h => absurd h hi⟩
    obtain ⟨J, hJ⟩ := Classical.axiomOfChoice key
    refine ⟨some a, len, cap, J, rfl, ⟨hl, by simp only [maxLen] at hm; omega⟩, ?_, fun k hk => (hJ k hk).2.2⟩
    unfold InsAt
    intro hpos
    obtain ⟨b, o, sp⟩ := a
    have hsp : sp = none := by
      have := (hJ 0 hpos).1.1
      simpa [Addr.add] using World.cell?_spot this
    subst hsp
    refine ⟨b, o, rfl, fun k hk => ?_⟩
    obtain ⟨⟨k0, k1, k2, k3, k4, k5, k6, k7, k8, k9, k10, k11⟩, hz, -⟩ := hJ k hk
    simp only [Addr.add_lit, Nat.add_zero, ← Nat.add_assoc] at k0 k1 k2 k3 k4 k5 k6 k7 k8 k9 k10 k11 ⊢
    exact ⟨⟨k0, k1, k2, k3, k4, k5, k6, k7, k8, k9, k10, k11⟩, hz⟩
theorem panCells : Tryz.prog.cellsOf 24 = 1 := by kernel_rfl
theorem panFields : ∃ f0 : Field, Tryz.prog.underlying 24 = some (.struct #[f0]) ∧ oneCellFields Tryz.prog #[f0] = true ∧ f0.type = 22 :=
  ⟨_, Tryz.underlying24, by kernel_rfl, rfl⟩
set_option maxRecDepth 100000 in
/-- A panel that is handed in. -/
theorem open_panel {H : Type} {enc : TypeId × Value → H} {W : World} {r : Reach} {b0 base : Nat} {spare : Nat → Bool} {held : Bool} {v : Value} {d : DataW H} {p : List MemPlace}
    (hv : Value.okWide Tryz.prog W r b0 24 v) (h : DataW.Trod enc Tryz.prog W base spare held 24 v d p) : ∃ A n c J, v = .agg #[.slice A n c] ∧ (n ≤ c ∧ c ≤ 9223372036854775807) ∧ InsAt W J n A ∧ ∀ k, k < n → (J k).fits := by
  obtain ⟨f0, hu, hone, hty⟩ := panFields
  obtain ⟨cs, rfl, hsz⟩ := okWide_struct hu hv
  have hsz' : cs.size = 1 := hsz.trans panCells
  obtain ⟨l⟩ := cs
  match l, hsz' with
  | [c0], _ =>
    obtain ⟨fuel, hf⟩ := h
    obtain ⟨ys, n', hn', hy, hlen, hyl, ha⟩ := DataW.trod_struct hu hf
    have h1 := ha 0 f0 rfl
    obtain ⟨ho, hk⟩ := hone_of hone 0 f0 rfl
    rw [ho, hk] at h1
    have hys : ys[0]? = some (ys[0]'(by simp at hyl; omega)) := List.getElem?_eq_getElem _
    have h2 := h1.trans hys
    rw [hty] at h2
    obtain ⟨A, n, c, J, rfl, a1, a2, a3⟩ := open_insts (v := c0) h2
    exact ⟨A, n, c, J, rfl, a1, a2, a3⟩
end Go.Proofs.YtocaphcnnmcnjaaGreatDoor
