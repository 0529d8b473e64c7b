/-
  Texts that this claim leans on, merged: PUn, PMsE, PRUn, PNmB, PNm, PRpN, PCk, PNm2, PRNm.
-/
import Derived.LoopN
import Derived.Test.YtocaphcnnmcnjaaGreatDoorM8
import Derived.Test.YtocaphcnnmcnjaaGreatDoorM2
import Derived.Test.YtocaphcnnmcnjaaGreatDoorM1
import Derived.Test.YtocaphcnnmcnjaaGreatDoorM7

/-
  Fields that a kind does not use: the reference's unused, over letters.
-/
namespace Go.Proofs.YtocaphcnnmcnjaaGreatDoor
open Go.RowKit
-- AT2
-- AT3

set_option maxHeartbeats 4000000 in
set_option maxRecDepth 100000 in
theorem un_a (kd : Int) (nm tr : ByteArray) (pl lo hi st : Int) (Z : Option Addr) (zn zc : Nat) (op nn : Int) (lt : Bool) (sz : Int) (P : Bool) (w : World)
    (H1 : Hid (∀ W g, NsAt W g [1, 4, 6] → Calls Tryz.prog 61 #[.int .i64 kd, .slice (some ⟨g, 0, none⟩) 3 3] W fun e W' => e = .returned (.bool P) ∧ W = W'))
    (h0 : ((pl != 0) = true ∧ P = false))
    : Calls Tryz.prog 32 #[inV kd nm tr pl lo hi st Z zn zc op nn lt sz] w fun e w' => e = .returned (.bool true) ∧ ∃ x, w' = gx w x := by
  rcases h0 with ⟨f00, rfl⟩
  all_goals
    go_enter Tryz.func32, Tryz.ntmps32
    go_wp2_with (first | go_skip | (go_at_call 61; with_reducible refine (H1.out _ _ ?_).mono ?_; (focus (exact nsAt_new (t := 3) (show At _ _ (.cells #[.int .i64 1, .int .i64 4, .int .i64 6] 3 (0, 0)) by (focus (repeat (first | (with_reducible assumption) | (with_reducible exact At.new _ _) | (with_reducible refine At.row ?_) | ((with_reducible refine At.row_other ?_ ?_); rotate_left; (focus (simp <;> omega))) | (with_reducible refine At.app ?_) | (with_reducible refine At.tick ?_) | (with_reducible refine At.gx ?_) | ((with_reducible refine At.new' ?_); focus (simp; done)) | (with_reducible refine At.alloc ?_) | (with_reducible refine At.drew ?_) | (with_reducible exact Is.new _ _ _) | (with_reducible refine Is.row ?_) | ((with_reducible refine Is.row_other ?_ ?_); rotate_left; (focus (simp <;> omega))) | (with_reducible refine Is.gx ?_) | ((with_reducible refine Is.new' ?_); focus (simp; done)) | (with_reducible refine Is.alloc ?_) | (with_reducible refine Is.drew ?_))))))); rintro e w' ⟨rfl, rfl⟩))
    go_ret
    exact ⟨rfl, (by repeat (first | (with_reducible exact Gx.refl _) | (with_reducible assumption) | (with_reducible refine Gx.gx ?_) | (with_reducible refine Gx.alloc ?_) | (with_reducible refine Gx.drew ?_) | (with_reducible refine Gx.drewN ?_) | (with_reducible refine Gx.setRow ?_ (by first | omega | (simp; done) | (simp <;> omega))) | (with_reducible refine Gx.setCell ?_ (by first | omega | (simp; done) | (simp <;> omega)))))⟩
set_option maxHeartbeats 4000000 in
set_option maxRecDepth 100000 in
theorem un_b (kd : Int) (nm tr : ByteArray) (pl lo hi st : Int) (Z : Option Addr) (zn zc : Nat) (op nn : Int) (lt : Bool) (sz : Int) (P : Bool) (w : World)
    (H1 : Hid (∀ W g, NsAt W g [1, 4, 6] → Calls Tryz.prog 61 #[.int .i64 kd, .slice (some ⟨g, 0, none⟩) 3 3] W fun e W' => e = .returned (.bool P) ∧ W = W'))
    (h0 : ((pl != 0) = false) ∨ ((pl != 0) = true ∧ P = true))
    (h1 : ((kd == 2) = false ∧ (lo != 0) = true) ∨ ((kd == 2) = false ∧ (lo != 0) = false ∧ (hi != 0) = true) ∨ ((kd == 2) = false ∧ (lo != 0) = false ∧ (hi != 0) = false ∧ (st != 0) = true) ∨ ((kd == 2) = false ∧ (lo != 0) = false ∧ (hi != 0) = false ∧ (st != 0) = false ∧ 0 < zn))
    : Calls Tryz.prog 32 #[inV kd nm tr pl lo hi st Z zn zc op nn lt sz] w fun e w' => e = .returned (.bool true) ∧ ∃ x, w' = gx w x := by
  rcases h0 with f00 | ⟨f00, rfl⟩
  all_goals rcases h1 with ⟨f10, f11⟩ | ⟨f10, f11, f12⟩ | ⟨f10, f11, f12, f13⟩ | ⟨f10, f11, f12, f13, hz⟩
  all_goals (try have z1 : decide (0 < (zn : Int)) = true := decide_eq_true (by omega))
  all_goals (try have z2 : decide (0 < zn) = true := decide_eq_true (by omega))
  all_goals
    go_enter Tryz.func32, Tryz.ntmps32
    go_wp2_with (first | go_skip | (go_at_call 61; with_reducible refine (H1.out _ _ ?_).mono ?_; (focus (exact nsAt_new (t := 3) (show At _ _ (.cells #[.int .i64 1, .int .i64 4, .int .i64 6] 3 (0, 0)) by (focus (repeat (first | (with_reducible assumption) | (with_reducible exact At.new _ _) | (with_reducible refine At.row ?_) | ((with_reducible refine At.row_other ?_ ?_); rotate_left; (focus (simp <;> omega))) | (with_reducible refine At.app ?_) | (with_reducible refine At.tick ?_) | (with_reducible refine At.gx ?_) | ((with_reducible refine At.new' ?_); focus (simp; done)) | (with_reducible refine At.alloc ?_) | (with_reducible refine At.drew ?_) | (with_reducible exact Is.new _ _ _) | (with_reducible refine Is.row ?_) | ((with_reducible refine Is.row_other ?_ ?_); rotate_left; (focus (simp <;> omega))) | (with_reducible refine Is.gx ?_) | ((with_reducible refine Is.new' ?_); focus (simp; done)) | (with_reducible refine Is.alloc ?_) | (with_reducible refine Is.drew ?_))))))); rintro e w' ⟨rfl, rfl⟩))
    go_ret
    exact ⟨rfl, (by repeat (first | (with_reducible exact Gx.refl _) | (with_reducible assumption) | (with_reducible refine Gx.gx ?_) | (with_reducible refine Gx.alloc ?_) | (with_reducible refine Gx.drew ?_) | (with_reducible refine Gx.drewN ?_) | (with_reducible refine Gx.setRow ?_ (by first | omega | (simp; done) | (simp <;> omega))) | (with_reducible refine Gx.setCell ?_ (by first | omega | (simp; done) | (simp <;> omega)))))⟩
set_option maxHeartbeats 4000000 in
set_option maxRecDepth 100000 in
theorem un_c (kd : Int) (nm tr : ByteArray) (pl lo hi st : Int) (Z : Option Addr) (zn zc : Nat) (op nn : Int) (lt : Bool) (sz : Int) (P Q : Bool) (w : World)
    (H1 : Hid (∀ W g, NsAt W g [1, 4, 6] → Calls Tryz.prog 61 #[.int .i64 kd, .slice (some ⟨g, 0, none⟩) 3 3] W fun e W' => e = .returned (.bool P) ∧ W = W'))
    (H2 : Hid (∀ W g, NsAt W g [3, 5] → Calls Tryz.prog 61 #[.int .i64 kd, .slice (some ⟨g, 0, none⟩) 2 2] W fun e W' => e = .returned (.bool Q) ∧ W = W'))
    (h0 : ((pl != 0) = false) ∨ ((pl != 0) = true ∧ P = true))
    (h1 : ((kd == 2) = true) ∨ ((kd == 2) = false ∧ (lo != 0) = false ∧ (hi != 0) = false ∧ (st != 0) = false ∧ zn = 0))
    (h2 : ((op != 0) = true ∧ Q = false) ∨ ((op != 0) = false ∧ (nn != 0) = true ∧ Q = false))
    : Calls Tryz.prog 32 #[inV kd nm tr pl lo hi st Z zn zc op nn lt sz] w fun e w' => e = .returned (.bool true) ∧ ∃ x, w' = gx w x := by
  rcases h0 with f00 | ⟨f00, rfl⟩
  all_goals rcases h1 with f10 | ⟨f10, f11, f12, f13, rfl⟩
  all_goals rcases h2 with ⟨f20, rfl⟩ | ⟨f20, f21, rfl⟩
  all_goals
    go_enter Tryz.func32, Tryz.ntmps32
    go_wp2_with (first | go_skip | (go_at_call 61; with_reducible refine (H1.out _ _ ?_).mono ?_; (focus (exact nsAt_new (t := 3) (show At _ _ (.cells #[.int .i64 1, .int .i64 4, .int .i64 6] 3 (0, 0)) by (focus (repeat (first | (with_reducible assumption) | (with_reducible exact At.new _ _) | (with_reducible refine At.row ?_) | ((with_reducible refine At.row_other ?_ ?_); rotate_left; (focus (simp <;> omega))) | (with_reducible refine At.app ?_) | (with_reducible refine At.tick ?_) | (with_reducible refine At.gx ?_) | ((with_reducible refine At.new' ?_); focus (simp; done)) | (with_reducible refine At.alloc ?_) | (with_reducible refine At.drew ?_) | (with_reducible exact Is.new _ _ _) | (with_reducible refine Is.row ?_) | ((with_reducible refine Is.row_other ?_ ?_); rotate_left; (focus (simp <;> omega))) | (with_reducible refine Is.gx ?_) | ((with_reducible refine Is.new' ?_); focus (simp; done)) | (with_reducible refine Is.alloc ?_) | (with_reducible refine Is.drew ?_))))))); rintro e w' ⟨rfl, rfl⟩) | (go_at_call 61; with_reducible refine (H2.out _ _ ?_).mono ?_; (focus (exact nsAt_new (t := 3) (show At _ _ (.cells #[.int .i64 3, .int .i64 5] 3 (0, 0)) by (focus (repeat (first | (with_reducible assumption) | (with_reducible exact At.new _ _) | (with_reducible refine At.row ?_) | ((with_reducible refine At.row_other ?_ ?_); rotate_left; (focus (simp <;> omega))) | (with_reducible refine At.app ?_) | (with_reducible refine At.tick ?_) | (with_reducible refine At.gx ?_) | ((with_reducible refine At.new' ?_); focus (simp; done)) | (with_reducible refine At.alloc ?_) | (with_reducible refine At.drew ?_) | (with_reducible exact Is.new _ _ _) | (with_reducible refine Is.row ?_) | ((with_reducible refine Is.row_other ?_ ?_); rotate_left; (focus (simp <;> omega))) | (with_reducible refine Is.gx ?_) | ((with_reducible refine Is.new' ?_); focus (simp; done)) | (with_reducible refine Is.alloc ?_) | (with_reducible refine Is.drew ?_))))))); rintro e w' ⟨rfl, rfl⟩))
    go_ret
    exact ⟨rfl, (by repeat (first | (with_reducible exact Gx.refl _) | (with_reducible assumption) | (with_reducible refine Gx.gx ?_) | (with_reducible refine Gx.alloc ?_) | (with_reducible refine Gx.drew ?_) | (with_reducible refine Gx.drewN ?_) | (with_reducible refine Gx.setRow ?_ (by first | omega | (simp; done) | (simp <;> omega))) | (with_reducible refine Gx.setCell ?_ (by first | omega | (simp; done) | (simp <;> omega)))))⟩
set_option maxHeartbeats 4000000 in
set_option maxRecDepth 100000 in
theorem un_d (kd : Int) (nm tr : ByteArray) (pl lo hi st : Int) (Z : Option Addr) (zn zc : Nat) (op nn : Int) (lt : Bool) (sz : Int) (P Q : Bool) (w : World)
    (H1 : Hid (∀ W g, NsAt W g [1, 4, 6] → Calls Tryz.prog 61 #[.int .i64 kd, .slice (some ⟨g, 0, none⟩) 3 3] W fun e W' => e = .returned (.bool P) ∧ W = W'))
    (H2 : Hid (∀ W g, NsAt W g [3, 5] → Calls Tryz.prog 61 #[.int .i64 kd, .slice (some ⟨g, 0, none⟩) 2 2] W fun e W' => e = .returned (.bool Q) ∧ W = W'))
    (h0 : ((pl != 0) = false) ∨ ((pl != 0) = true ∧ P = true))
    (h1 : ((kd == 2) = true) ∨ ((kd == 2) = false ∧ (lo != 0) = false ∧ (hi != 0) = false ∧ (st != 0) = false ∧ zn = 0))
    (h2 : ((op != 0) = false ∧ (nn != 0) = false) ∨ ((op != 0) = true ∧ Q = true) ∨ ((op != 0) = false ∧ (nn != 0) = true ∧ Q = true))
    (h3 : (lt = true ∧ (kd != 3) = true))
    : Calls Tryz.prog 32 #[inV kd nm tr pl lo hi st Z zn zc op nn lt sz] w fun e w' => e = .returned (.bool true) ∧ ∃ x, w' = gx w x := by
  rcases h0 with f00 | ⟨f00, rfl⟩
  all_goals rcases h1 with f10 | ⟨f10, f11, f12, f13, rfl⟩
  all_goals rcases h2 with ⟨f20, f21⟩ | ⟨f20, rfl⟩ | ⟨f20, f21, rfl⟩
  all_goals rcases h3 with ⟨rfl, f31⟩
  all_goals
    go_enter Tryz.func32, Tryz.ntmps32
    go_wp2_with (first | go_skip | (go_at_call 61; with_reducible refine (H1.out _ _ ?_).mono ?_; (focus (exact nsAt_new (t := 3) (show At _ _ (.cells #[.int .i64 1, .int .i64 4, .int .i64 6] 3 (0, 0)) by (focus (repeat (first | (with_reducible assumption) | (with_reducible exact At.new _ _) | (with_reducible refine At.row ?_) | ((with_reducible refine At.row_other ?_ ?_); rotate_left; (focus (simp <;> omega))) | (with_reducible refine At.app ?_) | (with_reducible refine At.tick ?_) | (with_reducible refine At.gx ?_) | ((with_reducible refine At.new' ?_); focus (simp; done)) | (with_reducible refine At.alloc ?_) | (with_reducible refine At.drew ?_) | (with_reducible exact Is.new _ _ _) | (with_reducible refine Is.row ?_) | ((with_reducible refine Is.row_other ?_ ?_); rotate_left; (focus (simp <;> omega))) | (with_reducible refine Is.gx ?_) | ((with_reducible refine Is.new' ?_); focus (simp; done)) | (with_reducible refine Is.alloc ?_) | (with_reducible refine Is.drew ?_))))))); rintro e w' ⟨rfl, rfl⟩) | (go_at_call 61; with_reducible refine (H2.out _ _ ?_).mono ?_; (focus (exact nsAt_new (t := 3) (show At _ _ (.cells #[.int .i64 3, .int .i64 5] 3 (0, 0)) by (focus (repeat (first | (with_reducible assumption) | (with_reducible exact At.new _ _) | (with_reducible refine At.row ?_) | ((with_reducible refine At.row_other ?_ ?_); rotate_left; (focus (simp <;> omega))) | (with_reducible refine At.app ?_) | (with_reducible refine At.tick ?_) | (with_reducible refine At.gx ?_) | ((with_reducible refine At.new' ?_); focus (simp; done)) | (with_reducible refine At.alloc ?_) | (with_reducible refine At.drew ?_) | (with_reducible exact Is.new _ _ _) | (with_reducible refine Is.row ?_) | ((with_reducible refine Is.row_other ?_ ?_); rotate_left; (focus (simp <;> omega))) | (with_reducible refine Is.gx ?_) | ((with_reducible refine Is.new' ?_); focus (simp; done)) | (with_reducible refine Is.alloc ?_) | (with_reducible refine Is.drew ?_))))))); rintro e w' ⟨rfl, rfl⟩))
    go_ret
    exact ⟨rfl, (by repeat (first | (with_reducible exact Gx.refl _) | (with_reducible assumption) | (with_reducible refine Gx.gx ?_) | (with_reducible refine Gx.alloc ?_) | (with_reducible refine Gx.drew ?_) | (with_reducible refine Gx.drewN ?_) | (with_reducible refine Gx.setRow ?_ (by first | omega | (simp; done) | (simp <;> omega))) | (with_reducible refine Gx.setCell ?_ (by first | omega | (simp; done) | (simp <;> omega)))))⟩
set_option maxHeartbeats 4000000 in
set_option maxRecDepth 100000 in
theorem un_e (kd : Int) (nm tr : ByteArray) (pl lo hi st : Int) (Z : Option Addr) (zn zc : Nat) (op nn : Int) (lt : Bool) (sz : Int) (P Q : Bool) (w : World)
    (H1 : Hid (∀ W g, NsAt W g [1, 4, 6] → Calls Tryz.prog 61 #[.int .i64 kd, .slice (some ⟨g, 0, none⟩) 3 3] W fun e W' => e = .returned (.bool P) ∧ W = W'))
    (H2 : Hid (∀ W g, NsAt W g [3, 5] → Calls Tryz.prog 61 #[.int .i64 kd, .slice (some ⟨g, 0, none⟩) 2 2] W fun e W' => e = .returned (.bool Q) ∧ W = W'))
    (h0 : ((pl != 0) = false) ∨ ((pl != 0) = true ∧ P = true))
    (h1 : ((kd == 2) = true) ∨ ((kd == 2) = false ∧ (lo != 0) = false ∧ (hi != 0) = false ∧ (st != 0) = false ∧ zn = 0))
    (h2 : ((op != 0) = false ∧ (nn != 0) = false) ∨ ((op != 0) = true ∧ Q = true) ∨ ((op != 0) = false ∧ (nn != 0) = true ∧ Q = true))
    (h3 : (lt = false) ∨ (lt = true ∧ (kd != 3) = false))
    (h4 : ((sz != 0) = true ∧ (kd != 6) = true))
    : Calls Tryz.prog 32 #[inV kd nm tr pl lo hi st Z zn zc op nn lt sz] w fun e w' => e = .returned (.bool true) ∧ ∃ x, w' = gx w x := by
  rcases h0 with f00 | ⟨f00, rfl⟩
  all_goals rcases h1 with f10 | ⟨f10, f11, f12, f13, rfl⟩
  all_goals rcases h2 with ⟨f20, f21⟩ | ⟨f20, rfl⟩ | ⟨f20, f21, rfl⟩
  all_goals rcases h3 with rfl | ⟨rfl, f31⟩
  all_goals rcases h4 with ⟨f40, f41⟩
  all_goals
    go_enter Tryz.func32, Tryz.ntmps32
    go_wp2_with (first | go_skip | (go_at_call 61; with_reducible refine (H1.out _ _ ?_).mono ?_; (focus (exact nsAt_new (t := 3) (show At _ _ (.cells #[.int .i64 1, .int .i64 4, .int .i64 6] 3 (0, 0)) by (focus (repeat (first | (with_reducible assumption) | (with_reducible exact At.new _ _) | (with_reducible refine At.row ?_) | ((with_reducible refine At.row_other ?_ ?_); rotate_left; (focus (simp <;> omega))) | (with_reducible refine At.app ?_) | (with_reducible refine At.tick ?_) | (with_reducible refine At.gx ?_) | ((with_reducible refine At.new' ?_); focus (simp; done)) | (with_reducible refine At.alloc ?_) | (with_reducible refine At.drew ?_) | (with_reducible exact Is.new _ _ _) | (with_reducible refine Is.row ?_) | ((with_reducible refine Is.row_other ?_ ?_); rotate_left; (focus (simp <;> omega))) | (with_reducible refine Is.gx ?_) | ((with_reducible refine Is.new' ?_); focus (simp; done)) | (with_reducible refine Is.alloc ?_) | (with_reducible refine Is.drew ?_))))))); rintro e w' ⟨rfl, rfl⟩) | (go_at_call 61; with_reducible refine (H2.out _ _ ?_).mono ?_; (focus (exact nsAt_new (t := 3) (show At _ _ (.cells #[.int .i64 3, .int .i64 5] 3 (0, 0)) by (focus (repeat (first | (with_reducible assumption) | (with_reducible exact At.new _ _) | (with_reducible refine At.row ?_) | ((with_reducible refine At.row_other ?_ ?_); rotate_left; (focus (simp <;> omega))) | (with_reducible refine At.app ?_) | (with_reducible refine At.tick ?_) | (with_reducible refine At.gx ?_) | ((with_reducible refine At.new' ?_); focus (simp; done)) | (with_reducible refine At.alloc ?_) | (with_reducible refine At.drew ?_) | (with_reducible exact Is.new _ _ _) | (with_reducible refine Is.row ?_) | ((with_reducible refine Is.row_other ?_ ?_); rotate_left; (focus (simp <;> omega))) | (with_reducible refine Is.gx ?_) | ((with_reducible refine Is.new' ?_); focus (simp; done)) | (with_reducible refine Is.alloc ?_) | (with_reducible refine Is.drew ?_))))))); rintro e w' ⟨rfl, rfl⟩))
    go_ret
    exact ⟨rfl, (by repeat (first | (with_reducible exact Gx.refl _) | (with_reducible assumption) | (with_reducible refine Gx.gx ?_) | (with_reducible refine Gx.alloc ?_) | (with_reducible refine Gx.drew ?_) | (with_reducible refine Gx.drewN ?_) | (with_reducible refine Gx.setRow ?_ (by first | omega | (simp; done) | (simp <;> omega))) | (with_reducible refine Gx.setCell ?_ (by first | omega | (simp; done) | (simp <;> omega)))))⟩
set_option maxHeartbeats 4000000 in
set_option maxRecDepth 100000 in
theorem un_f (kd : Int) (nm tr : ByteArray) (pl lo hi st : Int) (Z : Option Addr) (zn zc : Nat) (op nn : Int) (lt : Bool) (sz : Int) (P Q : Bool) (w : World)
    (H1 : Hid (∀ W g, NsAt W g [1, 4, 6] → Calls Tryz.prog 61 #[.int .i64 kd, .slice (some ⟨g, 0, none⟩) 3 3] W fun e W' => e = .returned (.bool P) ∧ W = W'))
    (H2 : Hid (∀ W g, NsAt W g [3, 5] → Calls Tryz.prog 61 #[.int .i64 kd, .slice (some ⟨g, 0, none⟩) 2 2] W fun e W' => e = .returned (.bool Q) ∧ W = W'))
    (h0 : ((pl != 0) = false) ∨ ((pl != 0) = true ∧ P = true))
    (h1 : ((kd == 2) = true) ∨ ((kd == 2) = false ∧ (lo != 0) = false ∧ (hi != 0) = false ∧ (st != 0) = false ∧ zn = 0))
    (h2 : ((op != 0) = false ∧ (nn != 0) = false) ∨ ((op != 0) = true ∧ Q = true) ∨ ((op != 0) = false ∧ (nn != 0) = true ∧ Q = true))
    (h3 : (lt = false) ∨ (lt = true ∧ (kd != 3) = false))
    (h4 : ((sz != 0) = false) ∨ ((sz != 0) = true ∧ (kd != 6) = false))
    : Calls Tryz.prog 32 #[inV kd nm tr pl lo hi st Z zn zc op nn lt sz] w fun e w' => e = .returned (.bool false) ∧ ∃ x, w' = gx w x := by
  rcases h0 with f00 | ⟨f00, rfl⟩
  all_goals rcases h1 with f10 | ⟨f10, f11, f12, f13, rfl⟩
  all_goals rcases h2 with ⟨f20, f21⟩ | ⟨f20, rfl⟩ | ⟨f20, f21, rfl⟩
  all_goals rcases h3 with rfl | ⟨rfl, f31⟩
  all_goals rcases h4 with f40 | ⟨f40, f41⟩
  all_goals
    go_enter Tryz.func32, Tryz.ntmps32
    go_wp2_with (first | go_skip | (go_at_call 61; with_reducible refine (H1.out _ _ ?_).mono ?_; (focus (exact nsAt_new (t := 3) (show At _ _ (.cells #[.int .i64 1, .int .i64 4, .int .i64 6] 3 (0, 0)) by (focus (repeat (first | (with_reducible assumption) | (with_reducible exact At.new _ _) | (with_reducible refine At.row ?_) | ((with_reducible refine At.row_other ?_ ?_); rotate_left; (focus (simp <;> omega))) | (with_reducible refine At.app ?_) | (with_reducible refine At.tick ?_) | (with_reducible refine At.gx ?_) | ((with_reducible refine At.new' ?_); focus (simp; done)) | (with_reducible refine At.alloc ?_) | (with_reducible refine At.drew ?_) | (with_reducible exact Is.new _ _ _) | (with_reducible refine Is.row ?_) | ((with_reducible refine Is.row_other ?_ ?_); rotate_left; (focus (simp <;> omega))) | (with_reducible refine Is.gx ?_) | ((with_reducible refine Is.new' ?_); focus (simp; done)) | (with_reducible refine Is.alloc ?_) | (with_reducible refine Is.drew ?_))))))); rintro e w' ⟨rfl, rfl⟩) | (go_at_call 61; with_reducible refine (H2.out _ _ ?_).mono ?_; (focus (exact nsAt_new (t := 3) (show At _ _ (.cells #[.int .i64 3, .int .i64 5] 3 (0, 0)) by (focus (repeat (first | (with_reducible assumption) | (with_reducible exact At.new _ _) | (with_reducible refine At.row ?_) | ((with_reducible refine At.row_other ?_ ?_); rotate_left; (focus (simp <;> omega))) | (with_reducible refine At.app ?_) | (with_reducible refine At.tick ?_) | (with_reducible refine At.gx ?_) | ((with_reducible refine At.new' ?_); focus (simp; done)) | (with_reducible refine At.alloc ?_) | (with_reducible refine At.drew ?_) | (with_reducible exact Is.new _ _ _) | (with_reducible refine Is.row ?_) | ((with_reducible refine Is.row_other ?_ ?_); rotate_left; (focus (simp <;> omega))) | (with_reducible refine Is.gx ?_) | ((with_reducible refine Is.new' ?_); focus (simp; done)) | (with_reducible refine Is.alloc ?_) | (with_reducible refine Is.drew ?_))))))); rintro e w' ⟨rfl, rfl⟩))
    go_ret
    exact ⟨rfl, (by repeat (first | (with_reducible exact Gx.refl _) | (with_reducible assumption) | (with_reducible refine Gx.gx ?_) | (with_reducible refine Gx.alloc ?_) | (with_reducible refine Gx.drew ?_) | (with_reducible refine Gx.drewN ?_) | (with_reducible refine Gx.setRow ?_ (by first | omega | (simp; done) | (simp <;> omega))) | (with_reducible refine Gx.setCell ?_ (by first | omega | (simp; done) | (simp <;> omega)))))⟩
end Go.Proofs.YtocaphcnnmcnjaaGreatDoor

/-
  Fields that a kind does not use: misB over the five fields of an instrument, as the reference's unused reads them.
-/
namespace Go.Proofs.YtocaphcnnmcnjaaGreatDoor
open Go.RowKit

theorem inI_1 (n kd : Int) : inI [n] kd = (kd == n) := by unfold inI; simp; rfl
theorem misB_five (kd : Int) (a b1 b2 lt d : Bool) : misB kd [(a, [1, 4, 6]), (b1, [2]), (b2, [3, 5]), (lt, [3]), (d, [6])] = ((a && !inI [1, 4, 6] kd) || (b1 && !(kd == 2)) || (b2 && !inI [3, 5] kd) || (lt && !(kd == 3)) || (d && !(kd == 6))) := by
  unfold misB
  simp only [List.any_cons, List.any_nil, Bool.or_false]
  unfold misF
  simp only [inI_1, Bool.or_assoc]
end Go.Proofs.YtocaphcnnmcnjaaGreatDoor

/-
  Fields that a kind does not use: the reference's unused, every instrument.
-/
namespace Go.Proofs.YtocaphcnnmcnjaaGreatDoor
open Go.RowKit

theorem nz {n : Int} (h : ¬ n = 0) : (n != 0) = true := bne_iff_ne.2 h
theorem zz {n : Int} (h : n = 0) : (n != 0) = false := by rw [h]; rfl
theorem RUnused_core (kd : Int) (nm tr : ByteArray) (pl lo hi st : Int) (Z : Option Addr) (zn zc : Nat) (op nn : Int) (lt : Bool) (sz : Int) (P Q : Bool) (w : World) (b1 b2 U : Bool)
    (H1 : Hid (∀ W g, NsAt W g [1, 4, 6] → Calls Tryz.prog 61 #[.int .i64 kd, .slice (some ⟨g, 0, none⟩) 3 3] W fun e W' => e = .returned (.bool P) ∧ W = W'))
    (H2 : Hid (∀ W g, NsAt W g [3, 5] → Calls Tryz.prog 61 #[.int .i64 kd, .slice (some ⟨g, 0, none⟩) 2 2] W fun e W' => e = .returned (.bool Q) ∧ W = W'))
    (hb1 : (b1 = true ∧ (¬ lo = 0 ∨ (lo = 0 ∧ ¬ hi = 0) ∨ (lo = 0 ∧ hi = 0 ∧ ¬ st = 0) ∨ (lo = 0 ∧ hi = 0 ∧ st = 0 ∧ 0 < zn))) ∨ (b1 = false ∧ lo = 0 ∧ hi = 0 ∧ st = 0 ∧ zn = 0))
    (hb2 : (b2 = true ∧ (¬ op = 0 ∨ (op = 0 ∧ ¬ nn = 0))) ∨ (b2 = false ∧ op = 0 ∧ nn = 0))
    (hU : U = (((pl != 0) && !P) || (b1 && !(kd == 2)) || (b2 && !Q) || (lt && !(kd == 3)) || ((sz != 0) && !(kd == 6)))) :
    Calls Tryz.prog 32 #[inV kd nm tr pl lo hi st Z zn zc op nn lt sz] w fun e w' => e = .returned (.bool U) ∧ ∃ x, w' = gx w x := by
  have hA : ((pl != 0) = true ∧ P = false) ∨ ((pl != 0) = false ∨ ((pl != 0) = true ∧ P = true)) := by cases (pl != 0) <;> cases P <;> simp
  rcases hA with hA | hA
  · rw [hA.1, hA.2] at hU
    rw [show U = true by rw [hU]; simp]
    exact un_a kd nm tr pl lo hi st Z zn zc op nn lt sz P w H1 hA
  have eA : ((pl != 0) && !P) = false := by rcases hA with h | ⟨h, h'⟩ <;> simp [*]
  have hB : ((kd == 2) = false ∧ b1 = true) ∨ ((b1 && !(kd == 2)) = false ∧ ((kd == 2) = true ∨ ((kd == 2) = false ∧ b1 = false))) := by cases (kd == 2) <;> cases b1 <;> simp
  rcases hB with ⟨k2, e1⟩ | ⟨eB, hB⟩
  · rw [e1, k2] at hU
    rw [show U = true by rw [hU]; simp]
    refine un_b kd nm tr pl lo hi st Z zn zc op nn lt sz P w H1 hA ?_
    rcases hb1 with ⟨_, h | ⟨h1, h⟩ | ⟨h1, h2, h⟩ | ⟨h1, h2, h3, h⟩⟩ | ⟨h, _⟩
    · exact .inl ⟨k2, nz h⟩
    · exact .inr (.inl ⟨k2, zz h1, nz h⟩)
    · exact .inr (.inr (.inl ⟨k2, zz h1, zz h2, nz h⟩))
    · exact .inr (.inr (.inr ⟨k2, zz h1, zz h2, zz h3, h⟩))
    · rw [e1] at h; cases h
  have hB' : ((kd == 2) = true) ∨ ((kd == 2) = false ∧ (lo != 0) = false ∧ (hi != 0) = false ∧ (st != 0) = false ∧ zn = 0) := by
    rcases hB with h | ⟨h, h'⟩
    · exact .inl h
    · rcases hb1 with ⟨e, _⟩ | ⟨_, h1, h2, h3, h4⟩
      · rw [h'] at e; cases e
      · exact .inr ⟨h, zz h1, zz h2, zz h3, h4⟩
  have hC : (b2 = true ∧ Q = false) ∨ ((b2 && !Q) = false ∧ (b2 = false ∨ (b2 = true ∧ Q = true))) := by cases b2 <;> cases Q <;> simp
  rcases hC with ⟨e2, eq⟩ | ⟨eC, hC⟩
  · rw [e2, eq] at hU
    rw [show U = true by rw [hU]; simp]
    refine un_c kd nm tr pl lo hi st Z zn zc op nn lt sz P Q w H1 H2 hA hB' ?_
    rcases hb2 with ⟨_, h | ⟨h1, h⟩⟩ | ⟨h, _⟩
    · exact .inl ⟨nz h, eq⟩
    · exact .inr ⟨zz h1, nz h, eq⟩
    · rw [e2] at h; cases h
  have hC' : ((op != 0) = false ∧ (nn != 0) = false) ∨ ((op != 0) = true ∧ Q = true) ∨ ((op != 0) = false ∧ (nn != 0) = true ∧ Q = true) := by
    rcases hb2 with ⟨e, h | ⟨h1, h⟩⟩ | ⟨_, h1, h2⟩
    · rcases hC with h' | ⟨_, h'⟩
      · rw [h'] at e; cases e
      · exact .inr (.inl ⟨nz h, h'⟩)
    · rcases hC with h' | ⟨_, h'⟩
      · rw [h'] at e; cases e
      · exact .inr (.inr ⟨zz h1, nz h, h'⟩)
    · exact .inl ⟨zz h1, zz h2⟩
  have hD : (lt = true ∧ (kd != 3) = true) ∨ ((lt && !(kd == 3)) = false ∧ (lt = false ∨ (lt = true ∧ (kd != 3) = false))) := by
    show (lt = true ∧ (!(kd == 3)) = true) ∨ ((lt && !(kd == 3)) = false ∧ (lt = false ∨ (lt = true ∧ (!(kd == 3)) = false)))
    cases lt <;> cases (kd == 3) <;> simp
  rcases hD with hD | ⟨eD, hD⟩
  · have e3 : (!(kd == 3)) = true := hD.2
    rw [hD.1, e3] at hU
    rw [show U = true by rw [hU]; simp]
    exact un_d kd nm tr pl lo hi st Z zn zc op nn lt sz P Q w H1 H2 hA hB' hC' hD
  rw [eA, eB, eC, eD] at hU
  have hE : ((sz != 0) = true ∧ (kd != 6) = true) ∨ (((sz != 0) && !(kd == 6)) = false ∧ ((sz != 0) = false ∨ ((sz != 0) = true ∧ (kd != 6) = false))) := by
    show ((sz != 0) = true ∧ (!(kd == 6)) = true) ∨ (((sz != 0) && !(kd == 6)) = false ∧ ((sz != 0) = false ∨ ((sz != 0) = true ∧ (!(kd == 6)) = false)))
    cases (sz != 0) <;> cases (kd == 6) <;> simp
  rcases hE with hE | ⟨eE, hE⟩
  · have e3 : (!(kd == 6)) = true := hE.2
    rw [hE.1, e3] at hU
    rw [show U = true by rw [hU]; rfl]
    exact un_e kd nm tr pl lo hi st Z zn zc op nn lt sz P Q w H1 H2 hA hB' hC' hD hE
  · rw [eE] at hU
    rw [show U = false by rw [hU]; rfl]
    exact un_f kd nm tr pl lo hi st Z zn zc op nn lt sz P Q w H1 H2 hA hB' hC' hD hE
theorem RUnused_any (kd : Int) (nm tr : ByteArray) (pl lo hi st : Int) (Z : Option Addr) (zn zc : Nat) (op nn : Int) (lt : Bool) (sz : Int) (w : World) (b1 b2 : Bool)
    (hb1 : (b1 = true ∧ (¬ lo = 0 ∨ (lo = 0 ∧ ¬ hi = 0) ∨ (lo = 0 ∧ hi = 0 ∧ ¬ st = 0) ∨ (lo = 0 ∧ hi = 0 ∧ st = 0 ∧ 0 < zn))) ∨ (b1 = false ∧ lo = 0 ∧ hi = 0 ∧ st = 0 ∧ zn = 0))
    (hb2 : (b2 = true ∧ (¬ op = 0 ∨ (op = 0 ∧ ¬ nn = 0))) ∨ (b2 = false ∧ op = 0 ∧ nn = 0)) :
    Calls Tryz.prog 32 #[inV kd nm tr pl lo hi st Z zn zc op nn lt sz] w fun e w' => e = .returned (.bool (misB kd [(pl != 0, [1, 4, 6]), (b1, [2]), (b2, [3, 5]), (lt, [3]), (sz != 0, [6])])) ∧ ∃ x, w' = gx w x :=
  RUnused_core kd nm tr pl lo hi st Z zn zc op nn lt sz (inI [1, 4, 6] kd) (inI [3, 5] kd) w b1 b2 _ (Lib.hid (fun W g h => RHas_any [1, 4, 6] g 3 kd W h (by decide))) (Lib.hid (fun W g h => RHas_any [3, 5] g 2 kd W h (by decide))) hb1 hb2 (misB_five ..)
end Go.Proofs.YtocaphcnnmcnjaaGreatDoor

/-
  Names of panels, however long a text is (XPName's, with the bound that a handed-in text keeps).
-/
namespace Go.Proofs.YtocaphcnnmcnjaaGreatDoor
open Go.RowKit
-- AT2

theorem Trim_anyB (s cs : ByteArray) (w : World) (hs : s.size ≤ 9223372036854775807) (hcs : cs.size < 4294967281) (ha : ∀ (j : Nat) (b : UInt8), cs.data.toList[j]? = some b → b.toNat < 128) :
    Calls Tryz.prog 57 #[.string s, .string cs] w fun e w' => e = .returned (.string ⟨(Lib.trimS s.data.toList cs.data.toList).toArray⟩) ∧ ∃ x, w' = gx w x := by
  refine (Go.Proofs.Any.strings_Trim_laid trimA (by kernel_rfl) s cs w (by omega) hcs ha).mono ?_
  rintro e w' ⟨he, hb⟩
  exact ⟨he, gx_of_below hb⟩
theorem nmTrimB (s : ByteArray) (hs : s.size ≤ 9223372036854775807) (w : World) : Calls Tryz.prog 57 #[.string s, .string nmC] w fun e w' => e = .returned (.string ⟨(nmL s).toArray⟩) ∧ ∃ x, w' = gx w x :=
  Trim_anyB s nmC w hs (by decide) (Go.Proofs.ascii_of_all (by decide))
set_option maxHeartbeats 1000000 in
theorem pIsName_anyB (s : ByteArray) (hs : s.size ≤ 9223372036854775807) (w : World) : Calls Tryz.prog 25 #[.string s] w fun e w' => e = .returned (.bool (pName s)) ∧ ∃ x, w' = gx w x := by
  have HT := Lib.hid (fun W => nmTrimB s hs W)
  unfold nmC at HT
  by_cases h0 : s.size = 0
  · have hn : pName s = false := by unfold pName; rw [decide_eq_false (by omega)]; rfl
    have Hn := Lib.hid hn
    clear hn
    have hd : decide (1 ≤ (s.size : Int)) = false := decide_eq_false (by omega)
    go_enter Tryz.func25, Tryz.ntmps25
    go_wp2_with (first | go_skip)
    go_ret
    exact ⟨by rw [Hn.out]; rfl, (by repeat (first | (with_reducible exact Gx.refl _) | (with_reducible assumption) | (with_reducible refine Gx.gx ?_) | (with_reducible refine Gx.alloc ?_) | (with_reducible refine Gx.drew ?_) | (with_reducible refine Gx.drewN ?_) | (with_reducible refine Gx.setRow ?_ (by simp)) | (with_reducible refine Gx.setCell ?_ (by simp))))⟩
  · by_cases h1 : s.size ≤ 30
    · have hd : decide (1 ≤ (s.size : Int)) = true := decide_eq_true (by omega)
      have hd2 : decide ((s.size : Int) ≤ 30) = true := decide_eq_true (by omega)
      have hn : pName s = (nmL s).isEmpty := by unfold pName; rw [decide_eq_true (show 1 ≤ s.size by omega), decide_eq_true h1]; rfl
      have Hn := Lib.hid hn
      clear hn
      generalize hT : nmL s = T at *
      clear hT
      cases T with
      | nil =>
        go_enter Tryz.func25, Tryz.ntmps25
        go_wp2_with (first | go_skip | (go_at_call 57; refine (HT.out _).mono ?_; rintro e w' ⟨rfl, x1, rfl⟩))
        go_ret
        exact ⟨by rw [Hn.out]; rfl, (by repeat (first | (with_reducible exact Gx.refl _) | (with_reducible assumption) | (with_reducible refine Gx.gx ?_) | (with_reducible refine Gx.alloc ?_) | (with_reducible refine Gx.drew ?_) | (with_reducible refine Gx.drewN ?_) | (with_reducible refine Gx.setRow ?_ (by simp)) | (with_reducible refine Gx.setCell ?_ (by simp))))⟩
      | cons a T =>
        go_enter Tryz.func25, Tryz.ntmps25
        go_wp2_with (first | go_skip | (go_at_call 57; refine (HT.out _).mono ?_; rintro e w' ⟨rfl, x1, rfl⟩))
        go_ret
        exact ⟨by rw [Hn.out]; rfl, (by repeat (first | (with_reducible exact Gx.refl _) | (with_reducible assumption) | (with_reducible refine Gx.gx ?_) | (with_reducible refine Gx.alloc ?_) | (with_reducible refine Gx.drew ?_) | (with_reducible refine Gx.drewN ?_) | (with_reducible refine Gx.setRow ?_ (by simp)) | (with_reducible refine Gx.setCell ?_ (by simp))))⟩
    · have hn : pName s = false := by unfold pName; rw [decide_eq_true (show 1 ≤ s.size by omega), decide_eq_false h1]; rfl
      have Hn := Lib.hid hn
      clear hn
      have hd : decide (1 ≤ (s.size : Int)) = true := decide_eq_true (by omega)
      have hd2 : decide ((s.size : Int) ≤ 30) = false := decide_eq_false (by omega)
      go_enter Tryz.func25, Tryz.ntmps25
      go_wp2_with (first | go_skip)
      go_ret
      exact ⟨by rw [Hn.out]; rfl, (by repeat (first | (with_reducible exact Gx.refl _) | (with_reducible assumption) | (with_reducible refine Gx.gx ?_) | (with_reducible refine Gx.alloc ?_) | (with_reducible refine Gx.drew ?_) | (with_reducible refine Gx.drewN ?_) | (with_reducible refine Gx.setRow ?_ (by simp)) | (with_reducible refine Gx.setCell ?_ (by simp))))⟩
end Go.Proofs.YtocaphcnnmcnjaaGreatDoor

/-
  Names of tracks: the program's IsName at every text.
-/
namespace Go.Proofs.YtocaphcnnmcnjaaGreatDoor
open Go.RowKit
-- AT2
-- AT3

def letB (c : Int) : Bool := decide (97 ≤ c) && decide (c ≤ 122)
def digB (c : Int) : Bool := decide (48 ≤ c) && decide (c ≤ 57)
theorem isLetterE_any (c : Int) (w : World) : Calls Tryz.prog 96 #[.int .u8 c] w fun e w' => e = .returned (.bool (letB c)) ∧ w = w' := by
  by_cases h : 97 ≤ c
  all_goals
    go_enter Tryz.func96, Tryz.ntmps96
    go_wp2
    go_ret
    exact ⟨by unfold letB; simp [h] <;> omega, rfl⟩
theorem isDigitE_any (c : Int) (w : World) : Calls Tryz.prog 120 #[.int .u8 c] w fun e w' => e = .returned (.bool (digB c)) ∧ w = w' := by
  by_cases h : 48 ≤ c
  all_goals
    go_enter Tryz.func120, Tryz.ntmps120
    go_wp2
    go_ret
    exact ⟨by unfold digB; simp [h] <;> omega, rfl⟩
/-- The byte k of a text. -/
@[irreducible] def bt (s : ByteArray) (k : Nat) : Int := ((s.data.toList.getD k 0).toNat : Int)
theorem bt_get (s : ByteArray) (k : Nat) (h : k < s.size) : (s[k].toNat : Int) = bt s k := by
  unfold bt
  have h' : k < s.data.size := h
  simp [List.getD, Array.getElem?_eq_getElem h']
  rfl
def chB (c : Int) : Bool := letB c || digB c || c == 45
def okTo (s : ByteArray) : Nat → Bool
  | 0 => true
  | k + 1 => okTo s k && chB (bt s k)
theorem okTo_mono (s : ByteArray) (k m : Nat) (h : k ≤ m) (hk : okTo s k = false) : okTo s m = false := by
  induction m with
  | zero =>
    obtain rfl : k = 0 := by omega
    exact hk
  | succ m ih =>
    by_cases e : k = m + 1
    · subst e; exact hk
    · unfold okTo; rw [ih (by omega)]; rfl
attribute [irreducible] letB digB
theorem bool3 (a b c : Bool) : (a = true) ∨ (a = false ∧ b = true) ∨ (a = false ∧ b = false ∧ c = true) ∨ (a = false ∧ b = false ∧ c = false) := by cases a <;> cases b <;> cases c <;> simp
/-- The words that can't be names. -/
def wds : List (List UInt8) := [[112, 104, 97, 115, 101], [109, 111, 118, 101], [114, 117, 108, 101], [105, 102], [111, 114], [97, 110, 100], [116, 114, 117, 101], [102, 97, 108, 115, 101], [115, 116, 101, 97, 100, 121], [110, 111, 116], [102, 111, 114], [119, 105, 116, 104, 105, 110], [99, 111, 117, 110, 116], [111, 102], [114, 105, 115, 101, 115], [115, 105, 110, 99, 101]]
@[irreducible] def wordB (s : ByteArray) : Bool := wds.any (fun w => s.toList == w)
theorem wordB_is (s : ByteArray) : wordB s = ((s.toList == [112, 104, 97, 115, 101]) || (s.toList == [109, 111, 118, 101]) || (s.toList == [114, 117, 108, 101]) || (s.toList == [105, 102]) || (s.toList == [111, 114]) || (s.toList == [97, 110, 100]) || (s.toList == [116, 114, 117, 101]) || (s.toList == [102, 97, 108, 115, 101]) || (s.toList == [115, 116, 101, 97, 100, 121]) || (s.toList == [110, 111, 116]) || (s.toList == [102, 111, 114]) || (s.toList == [119, 105, 116, 104, 105, 110]) || (s.toList == [99, 111, 117, 110, 116]) || (s.toList == [111, 102]) || (s.toList == [114, 105, 115, 101, 115]) || (s.toList == [115, 105, 110, 99, 101])) := by
  unfold wordB wds
  simp only [List.any_cons, List.any_nil, Bool.or_false, Bool.or_assoc]
set_option maxHeartbeats 4000000 in
set_option maxRecDepth 100000 in
theorem isWordE_any (s : ByteArray) (w : World) : Calls Tryz.prog 98 #[.string s] w fun e w' => e = .returned (.bool (wordB s)) ∧ w = w' := by
  have HB := Lib.hid (wordB_is s)
  generalize wordB s = B at *
  cases e0 : (s.toList == [112, 104, 97, 115, 101]) with
  | true =>
    have HC : Hid (B = true) := Lib.hid (by rw [HB.out, e0]; simp)
    go_enter Tryz.func98, Tryz.ntmps98
    go_wp2
    go_ret
    exact ⟨by rw [HC.out]; rfl, rfl⟩
  | false =>
    cases e1 : (s.toList == [109, 111, 118, 101]) with
    | true =>
      have HC : Hid (B = true) := Lib.hid (by rw [HB.out, e0, e1]; simp)
      go_enter Tryz.func98, Tryz.ntmps98
      go_wp2
      go_ret
      exact ⟨by rw [HC.out]; rfl, rfl⟩
    | false =>
      cases e2 : (s.toList == [114, 117, 108, 101]) with
      | true =>
        have HC : Hid (B = true) := Lib.hid (by rw [HB.out, e0, e1, e2]; simp)
        go_enter Tryz.func98, Tryz.ntmps98
        go_wp2
        go_ret
        exact ⟨by rw [HC.out]; rfl, rfl⟩
      | false =>
        cases e3 : (s.toList == [105, 102]) with
        | true =>
          have HC : Hid (B = true) := Lib.hid (by rw [HB.out, e0, e1, e2, e3]; simp)
          go_enter Tryz.func98, Tryz.ntmps98
          go_wp2
          go_ret
          exact ⟨by rw [HC.out]; rfl, rfl⟩
        | false =>
          cases e4 : (s.toList == [111, 114]) with
          | true =>
            have HC : Hid (B = true) := Lib.hid (by rw [HB.out, e0, e1, e2, e3, e4]; simp)
            go_enter Tryz.func98, Tryz.ntmps98
            go_wp2
            go_ret
            exact ⟨by rw [HC.out]; rfl, rfl⟩
          | false =>
            cases e5 : (s.toList == [97, 110, 100]) with
            | true =>
              have HC : Hid (B = true) := Lib.hid (by rw [HB.out, e0, e1, e2, e3, e4, e5]; simp)
              go_enter Tryz.func98, Tryz.ntmps98
              go_wp2
              go_ret
              exact ⟨by rw [HC.out]; rfl, rfl⟩
            | false =>
              cases e6 : (s.toList == [116, 114, 117, 101]) with
              | true =>
                have HC : Hid (B = true) := Lib.hid (by rw [HB.out, e0, e1, e2, e3, e4, e5, e6]; simp)
                go_enter Tryz.func98, Tryz.ntmps98
                go_wp2
                go_ret
                exact ⟨by rw [HC.out]; rfl, rfl⟩
              | false =>
                cases e7 : (s.toList == [102, 97, 108, 115, 101]) with
                | true =>
                  have HC : Hid (B = true) := Lib.hid (by rw [HB.out, e0, e1, e2, e3, e4, e5, e6, e7]; simp)
                  go_enter Tryz.func98, Tryz.ntmps98
                  go_wp2
                  go_ret
                  exact ⟨by rw [HC.out]; rfl, rfl⟩
                | false =>
                  cases e8 : (s.toList == [115, 116, 101, 97, 100, 121]) with
                  | true =>
                    have HC : Hid (B = true) := Lib.hid (by rw [HB.out, e0, e1, e2, e3, e4, e5, e6, e7, e8]; simp)
                    go_enter Tryz.func98, Tryz.ntmps98
                    go_wp2
                    go_ret
                    exact ⟨by rw [HC.out]; rfl, rfl⟩
                  | false =>
                    cases e9 : (s.toList == [110, 111, 116]) with
                    | true =>
                      have HC : Hid (B = true) := Lib.hid (by rw [HB.out, e0, e1, e2, e3, e4, e5, e6, e7, e8, e9]; simp)
                      go_enter Tryz.func98, Tryz.ntmps98
                      go_wp2
                      go_ret
                      exact ⟨by rw [HC.out]; rfl, rfl⟩
                    | false =>
                      cases e10 : (s.toList == [102, 111, 114]) with
                      | true =>
                        have HC : Hid (B = true) := Lib.hid (by rw [HB.out, e0, e1, e2, e3, e4, e5, e6, e7, e8, e9, e10]; simp)
                        go_enter Tryz.func98, Tryz.ntmps98
                        go_wp2
                        go_ret
                        exact ⟨by rw [HC.out]; rfl, rfl⟩
                      | false =>
                        cases e11 : (s.toList == [119, 105, 116, 104, 105, 110]) with
                        | true =>
                          have HC : Hid (B = true) := Lib.hid (by rw [HB.out, e0, e1, e2, e3, e4, e5, e6, e7, e8, e9, e10, e11]; simp)
                          go_enter Tryz.func98, Tryz.ntmps98
                          go_wp2
                          go_ret
                          exact ⟨by rw [HC.out]; rfl, rfl⟩
                        | false =>
                          cases e12 : (s.toList == [99, 111, 117, 110, 116]) with
                          | true =>
                            have HC : Hid (B = true) := Lib.hid (by rw [HB.out, e0, e1, e2, e3, e4, e5, e6, e7, e8, e9, e10, e11, e12]; simp)
                            go_enter Tryz.func98, Tryz.ntmps98
                            go_wp2
                            go_ret
                            exact ⟨by rw [HC.out]; rfl, rfl⟩
                          | false =>
                            cases e13 : (s.toList == [111, 102]) with
                            | true =>
                              have HC : Hid (B = true) := Lib.hid (by rw [HB.out, e0, e1, e2, e3, e4, e5, e6, e7, e8, e9, e10, e11, e12, e13]; simp)
                              go_enter Tryz.func98, Tryz.ntmps98
                              go_wp2
                              go_ret
                              exact ⟨by rw [HC.out]; rfl, rfl⟩
                            | false =>
                              cases e14 : (s.toList == [114, 105, 115, 101, 115]) with
                              | true =>
                                have HC : Hid (B = true) := Lib.hid (by rw [HB.out, e0, e1, e2, e3, e4, e5, e6, e7, e8, e9, e10, e11, e12, e13, e14]; simp)
                                go_enter Tryz.func98, Tryz.ntmps98
                                go_wp2
                                go_ret
                                exact ⟨by rw [HC.out]; rfl, rfl⟩
                              | false =>
                                cases e15 : (s.toList == [115, 105, 110, 99, 101]) with
                                | true =>
                                  have HC : Hid (B = true) := Lib.hid (by rw [HB.out, e0, e1, e2, e3, e4, e5, e6, e7, e8, e9, e10, e11, e12, e13, e14, e15]; simp)
                                  go_enter Tryz.func98, Tryz.ntmps98
                                  go_wp2
                                  go_ret
                                  exact ⟨by rw [HC.out]; rfl, rfl⟩
                                | false =>
                                  have HC : Hid (B = false) := Lib.hid (by rw [HB.out, e0, e1, e2, e3, e4, e5, e6, e7, e8, e9, e10, e11, e12, e13, e14, e15]; rfl)
                                  go_enter Tryz.func98, Tryz.ntmps98
                                  go_wp2
                                  go_ret
                                  exact ⟨by rw [HC.out]; rfl, rfl⟩
end Go.Proofs.YtocaphcnnmcnjaaGreatDoor

/-
  Names of instruments and zones: the reference's isName at every text.
-/
namespace Go.Proofs.YtocaphcnnmcnjaaGreatDoor
open Go.RowKit
-- AT2
-- AT3

theorem dropW_nil {p : UInt8 → Bool} : ∀ l : List UInt8, l.dropWhile p = [] ↔ l.all p = true := by
  intro l
  induction l with
  | nil => simp
  | cons a l ih =>
    rw [List.dropWhile_cons]
    cases e : p a with
    | true => simp only [if_true, List.all_cons, e, Bool.true_and]; exact ih
    | false => simp [e]
theorem dropW_head {p : UInt8 → Bool} : ∀ l : List UInt8, (l.dropWhile p).all p = true → l.all p = true := by
  intro l
  induction l with
  | nil => simp
  | cons a l ih =>
    rw [List.dropWhile_cons]
    cases e : p a with
    | true => intro h; simp only [if_true] at h; rw [List.all_cons, e, ih h]; rfl
    | false => intro h; simp [e] at h
theorem trimS_empty (l cs : List UInt8) : (Lib.trimS l cs).isEmpty = l.all (cs.contains ·) := by
  unfold Lib.trimS Lib.trimLeftS Lib.trimRightS
  rw [Bool.eq_iff_iff, List.isEmpty_iff, dropW_nil, List.all_reverse]
  constructor
  · intro h; have := dropW_head _ h; rwa [List.all_reverse] at this
  · intro h
    rw [(dropW_nil l.reverse).2 (by rw [List.all_reverse]; exact h)]; rfl
theorem chB_all : ∀ n : Fin 256, chB ((UInt8.ofNat n.val).toNat : Int) = nmC.data.toList.contains (UInt8.ofNat n.val) := by decide +kernel
theorem chB_in (x : UInt8) : chB (x.toNat : Int) = nmC.data.toList.contains x := by
  have h := chB_all ⟨x.toNat, x.toNat_lt⟩
  simpa using h
theorem okTo_take (s : ByteArray) : ∀ k, k ≤ s.size → okTo s k = (s.data.toList.take k).all (nmC.data.toList.contains ·) := by
  intro k
  induction k with
  | zero => intro _; simp [okTo]
  | succ k ih =>
    intro h
    have hl : k < s.data.toList.length := by rw [Array.length_toList]; exact h
    rw [okTo, ih (by omega), List.take_add_one, List.getElem?_eq_getElem hl, List.all_append]
    congr 1
    unfold bt
    rw [List.getD_eq_getElem?_getD, List.getElem?_eq_getElem hl, Option.getD_some, chB_in]
    simp
theorem nmL_ok (s : ByteArray) : (nmL s).isEmpty = okTo s s.size := by
  unfold nmL
  rw [trimS_empty, okTo_take s s.size (Nat.le_refl _), show s.size = s.data.toList.length from (Array.length_toList).symm, List.take_length]
set_option maxHeartbeats 2000000 in
set_option maxRecDepth 100000 in
theorem RpIsName_any (s : ByteArray) (hs : s.size ≤ 9223372036854775807) (w : World) : Calls Tryz.prog 31 #[.string s] w fun e w' => e = .returned (.bool (pName s)) ∧ ∃ x, w' = gx w x := by
  have key : ∀ k, k < s.size → chB (bt s k) = false → pName s = false := fun k hk e => by
    unfold pName
    rw [nmL_ok, okTo_mono s (k + 1) s.size (by omega) (by rw [okTo, e]; simp)]; simp
  have key2 : okTo s s.size = true → pName s = (decide (1 ≤ (s.size : Int)) && decide ((s.size : Int) ≤ 30)) := fun h1 => by
    unfold pName
    rw [nmL_ok, h1]
    by_cases h0 : 1 ≤ s.size
    · rw [decide_eq_true h0, decide_eq_true (show 1 ≤ (s.size : Int) by omega)]
      by_cases h30 : s.size ≤ 30
      · rw [decide_eq_true h30, decide_eq_true (show (s.size : Int) ≤ 30 by omega)]; rfl
      · rw [decide_eq_false h30, decide_eq_false (show ¬ (s.size : Int) ≤ 30 by omega)]; rfl
    · rw [decide_eq_false h0, decide_eq_false (show ¬ 1 ≤ (s.size : Int) by omega)]
      rfl
  have Key := Lib.hid key
  have Key2 := Lib.hid key2
  clear key key2
  go_enter Tryz.func31, Tryz.ntmps31
  go_wp2
  go_loop [3] (fun i => ∃ k : Nat, k ≤ s.size ∧ i = .int .i64 k ∧ okTo s k = true) (fun i => s.size - (intOf i).toNat)
  case atStart => exact ⟨0, Nat.zero_le _, rfl, rfl⟩
  case round =>
    obtain ⟨k, hk, rfl, ho⟩ := hrel
    have HO := Lib.hid ho
    clear ho
    by_cases hlt : k < s.size
    · have gk := bt_get s k hlt
      have hc : chB (bt s k) = ((decide (97 ≤ bt s k) && decide (bt s k ≤ 122)) || (decide (48 ≤ bt s k) && decide (bt s k ≤ 57)) || bt s k == 45) := by unfold chB letB digB; rfl
      have hs1 : okTo s (k + 1) = chB (bt s k) := by rw [okTo, HO.out]; rfl
      have HS := Lib.hid hs1
      have HC := Lib.hid hc
      clear hs1 hc
      generalize hb : bt s k = c at *
      have Hb := Lib.hid hb
      clear hb
      have hw : (97 ≤ c ∧ c ≤ 122) ∨ (97 ≤ c ∧ 122 < c) ∨ (c < 97 ∧ 48 ≤ c ∧ c ≤ 57) ∨ (c < 97 ∧ 57 < c) ∨ (c < 48 ∧ c ≠ 45) ∨ (c = 45) := by omega
      rcases hw with hcs | hcs | hcs | hcs | hcs | hcs
      · have a2 : decide (97 ≤ c) = true := decide_eq_true (by omega)
        have a3 : decide (c ≤ 122) = true := decide_eq_true (by omega)
        have HN : Hid (okTo s (k + 1) = true) := by show _ = _; rw [HS.out, HC.out, a2, a3]; rfl
        clear hcs
        go_wp2_with go_skip
        go_round
        case rel => exact ⟨k + 1, by omega, by go_num, HN.out⟩
        case measure => simp [intOf]; omega
      · have a2 : decide (97 ≤ c) = true := decide_eq_true (by omega)
        have a3 : decide (c ≤ 122) = false := decide_eq_false (by omega)
        have a4 : decide (48 ≤ c) = true := decide_eq_true (by omega)
        have a5 : decide (c ≤ 57) = false := decide_eq_false (by omega)
        have a6 : (c == 45) = false := by rw [beq_eq_false_iff_ne]; omega
        have HB : Hid (pName s = false) := by show _ = _; exact Key.out _ hlt (by rw [Hb.out, HC.out, a2, a3, a4, a5, a6]; rfl)
        clear hcs
        go_wp2_with go_skip
        all_goals (go_ret; exact ⟨by rw [HB.out]; rfl, Gx.refl _⟩)
      · have a2 : decide (97 ≤ c) = false := decide_eq_false (by omega)
        have a3 : decide (c ≤ 122) = true := decide_eq_true (by omega)
        have a4 : decide (48 ≤ c) = true := decide_eq_true (by omega)
        have a5 : decide (c ≤ 57) = true := decide_eq_true (by omega)
        have a6 : (c == 45) = false := by rw [beq_eq_false_iff_ne]; omega
        have HN : Hid (okTo s (k + 1) = true) := by show _ = _; rw [HS.out, HC.out, a2, a3, a4, a5, a6]; rfl
        clear hcs
        go_wp2_with go_skip
        go_round
        case rel => exact ⟨k + 1, by omega, by go_num, HN.out⟩
        case measure => simp [intOf]; omega
      · have a2 : decide (97 ≤ c) = false := decide_eq_false (by omega)
        have a3 : decide (c ≤ 122) = true := decide_eq_true (by omega)
        have a4 : decide (48 ≤ c) = true := decide_eq_true (by omega)
        have a5 : decide (c ≤ 57) = false := decide_eq_false (by omega)
        have a6 : (c == 45) = false := by rw [beq_eq_false_iff_ne]; omega
        have HB : Hid (pName s = false) := by show _ = _; exact Key.out _ hlt (by rw [Hb.out, HC.out, a2, a3, a4, a5, a6]; rfl)
        clear hcs
        go_wp2_with go_skip
        all_goals (go_ret; exact ⟨by rw [HB.out]; rfl, Gx.refl _⟩)
      · have a2 : decide (97 ≤ c) = false := decide_eq_false (by omega)
        have a3 : decide (c ≤ 122) = true := decide_eq_true (by omega)
        have a4 : decide (48 ≤ c) = false := decide_eq_false (by omega)
        have a5 : decide (c ≤ 57) = true := decide_eq_true (by omega)
        have a6 : (c == 45) = false := by rw [beq_eq_false_iff_ne]; omega
        have HB : Hid (pName s = false) := by show _ = _; exact Key.out _ hlt (by rw [Hb.out, HC.out, a2, a3, a4, a5, a6]; rfl)
        clear hcs
        go_wp2_with go_skip
        all_goals (go_ret; exact ⟨by rw [HB.out]; rfl, Gx.refl _⟩)
      · have a2 : decide (97 ≤ c) = false := decide_eq_false (by omega)
        have a3 : decide (c ≤ 122) = true := decide_eq_true (by omega)
        have a4 : decide (48 ≤ c) = false := decide_eq_false (by omega)
        have a5 : decide (c ≤ 57) = true := decide_eq_true (by omega)
        have a6 : (c == 45) = true := by rw [beq_iff_eq]; omega
        have HN : Hid (okTo s (k + 1) = true) := by show _ = _; rw [HS.out, HC.out, a2, a3, a4, a5, a6]; rfl
        clear hcs
        go_wp2_with go_skip
        go_round
        case rel => exact ⟨k + 1, by omega, by go_num, HN.out⟩
        case measure => simp [intOf]; omega
    · obtain rfl : k = s.size := by omega
      have HP := Lib.hid (Key2.out HO.out)
      by_cases h1 : 1 ≤ (s.size : Int)
      · have k1 : decide (1 ≤ (s.size : Int)) = true := decide_eq_true h1
        by_cases h2 : (s.size : Int) ≤ 30
        · have k2 : decide ((s.size : Int) ≤ 30) = true := decide_eq_true h2
          have E : Hid (pName s = true) := by show _ = _; rw [HP.out, k1, k2]; rfl
          clear h1 h2
          go_wp2_with go_skip
          all_goals (go_ret; exact ⟨by rw [E.out]; rfl, Gx.refl _⟩)
        · have k2 : decide ((s.size : Int) ≤ 30) = false := decide_eq_false h2
          have E : Hid (pName s = false) := by show _ = _; rw [HP.out, k1, k2]; rfl
          clear h1 h2
          go_wp2_with go_skip
          all_goals (go_ret; exact ⟨by rw [E.out]; rfl, Gx.refl _⟩)
      · have k1 : decide (1 ≤ (s.size : Int)) = false := decide_eq_false h1
        have E : Hid (pName s = false) := by show _ = _; rw [HP.out, k1]; rfl
        clear h1
        go_wp2_with go_skip
        all_goals (go_ret; exact ⟨by rw [E.out]; rfl, Gx.refl _⟩)
end Go.Proofs.YtocaphcnnmcnjaaGreatDoor

/-
  Instruments: CheckInstrument of both sides at every instrument.
-/
namespace Go.Proofs.YtocaphcnnmcnjaaGreatDoor
open Go.RowKit
-- AT2
-- AT3

/-- An instrument with its zones. -/
structure InR where
  kd : Int
  nm : ByteArray
  tr : ByteArray
  pl : Int
  lo : Int
  hi : Int
  st : Int
  Z : Option Addr
  zn : Nat
  zc : Nat
  op : Int
  nn : Int
  lt : Bool
  sz : Int
  z : Nat → Zn
abbrev InR.v (J : InR) : Value := inV J.kd J.nm J.tr J.pl J.lo J.hi J.st J.Z J.zn J.zc J.op J.nn J.lt J.sz
/-- Its texts are not longer than a text can be. -/
@[irreducible] def InR.fits (J : InR) : Prop := J.nm.size ≤ 9223372036854775807 ∧ J.tr.size ≤ 9223372036854775807 ∧ ∀ k, k < J.zn → (J.z k).nm.size ≤ 9223372036854775807
theorem b1_is (lo hi st : Int) (zn : Nat) : ∃ b1 : Bool, (b1 = true ∧ (¬ lo = 0 ∨ (lo = 0 ∧ ¬ hi = 0) ∨ (lo = 0 ∧ hi = 0 ∧ ¬ st = 0) ∨ (lo = 0 ∧ hi = 0 ∧ st = 0 ∧ 0 < zn))) ∨ (b1 = false ∧ lo = 0 ∧ hi = 0 ∧ st = 0 ∧ zn = 0) := by
  by_cases h : lo = 0 ∧ hi = 0 ∧ st = 0 ∧ zn = 0
  · exact ⟨false, .inr ⟨rfl, h⟩⟩
  · exact ⟨true, .inl ⟨rfl, by omega⟩⟩
theorem b2_is (op nn : Int) : ∃ b2 : Bool, (b2 = true ∧ (¬ op = 0 ∨ (op = 0 ∧ ¬ nn = 0))) ∨ (b2 = false ∧ op = 0 ∧ nn = 0) := by
  by_cases h : op = 0 ∧ nn = 0
  · exact ⟨false, .inr ⟨rfl, h⟩⟩
  · exact ⟨true, .inl ⟨rfl, by omega⟩⟩
theorem insE_dial {kd : Int} {NB : Bool} {ts : Nat} {MB : Bool} {pl DE CE sz : Int} (h : insE kd NB ts MB pl DE CE sz = 0) (hk : kd = 2) : DE = 0 := by
  unfold insE at h
  split at h
  · exact absurd h (by decide)
  split at h
  · exact absurd h (by decide)
  split at h
  · exact absurd h (by decide)
  split at h
  · exact absurd h (by decide)
  first | exact h | (rw [if_pos hk] at h; exact h)
theorem dialE_good {z : Nat → Zn} {NB : Nat → Bool} {n : Nat} {lo hi st : Int} (h : dialE z NB n lo hi st = 0) : lo < hi ∧ -1125899906842624 ≤ lo ∧ hi ≤ 1125899906842624 ∧ 1 ≤ st ∧ st ≤ 1000 ∧ n ≤ 10 := by
  unfold dialE at h
  split at h
  · exact absurd h (by decide)
  split at h
  · exact absurd h (by decide)
  omega
theorem isMis5 (kd : Int) (F : List (Bool × List Int)) (A : Option Addr) (w : World) (h : FiveAt w F A) :
    Calls Tryz.prog 26 #[.int .i64 kd, .slice A 5 5] w fun e w' => e = .returned (.bool (misB kd F)) ∧ ∃ x, w' = gx w x := by
  unfold FiveAt at h
  obtain ⟨g, rfl, hl, hf⟩ := h
  have := isMisused_any F g 5 kd w (by omega) (fun k hk => hf k (by omega))
  rw [hl] at this
  exact this
/-- CheckInstrument of both sides: one answer; if it is 0 and a dial is there, the dial is as it should be. -/
theorem Ins_both (J : InR) (hJ : J.fits) : ∃ E : Int, (∀ W, ZnAt W J.z J.zn J.Z → Calls Tryz.prog 7 #[J.v] W fun e W' => e = .returned (.int .i64 E) ∧ ∃ x, W' = gx W x) ∧ (∀ W, ZnAt W J.z J.zn J.Z → Calls Tryz.prog 8 #[J.v] W fun e W' => e = .returned (.int .i64 E) ∧ ∃ x, W' = gx W x) ∧
    (E = 0 → J.kd = 2 → J.lo < J.hi ∧ -1125899906842624 ≤ J.lo ∧ J.hi ≤ 1125899906842624 ∧ 1 ≤ J.st ∧ J.st ≤ 1000 ∧ J.zn ≤ 10) := by
  unfold InR.fits at hJ
  obtain ⟨kd, nm, tr, pl, lo, hi, st, Z, zn, zc, op, nn, lt, sz, z⟩ := J
  dsimp only at *
  obtain ⟨hn, -, hz⟩ := hJ
  obtain ⟨b1, hb1⟩ := b1_is lo hi st zn
  obtain ⟨b2, hb2⟩ := b2_is op nn
  refine ⟨insE kd (pName nm) tr.size (misB kd [(pl != 0, [1, 4, 6]), (b1, [2]), (b2, [3, 5]), (lt, [3]), (sz != 0, [6])]) pl (dialE z (fun k => pName (z k).nm) zn lo hi st) (compE op nn) sz, fun W hW => ?_, fun W hW => ?_, fun h hk => dialE_good (insE_dial h hk)⟩
  · exact CheckIns_core kd nm tr pl lo hi st Z zn zc op nn lt sz _ rfl [(pl != 0, [1, 4, 6]), (b1, [2]), (b2, [3, 5]), (lt, [3]), (sz != 0, [6])] (pName nm) _ _ _ W
      (Lib.hid fun W' _ => pIsName_anyB nm hn W')
      (Lib.hid fun W' _ => fieldsOf_core kd nm tr pl lo hi st Z zn zc op nn lt sz W' b1 b2 hb1 hb2)
      (Lib.hid fun W' A hA _ => isMis5 kd _ A W' hA)
      (Lib.hid fun W' hW' => checkDial_any kd nm tr pl lo hi st Z zn zc op nn lt sz z _ W' (by obtain ⟨x, rfl⟩ := hW'; exact hW.gx) (Lib.hid fun k hk W'' => pIsName_anyB _ (hz k hk) W''))
      (Lib.hid fun W' _ => checkComparison_any kd nm tr pl lo hi st Z zn zc op nn lt sz W')
  · exact RCheckIns_core kd nm tr pl lo hi st Z zn zc op nn lt sz (pName nm) _ _ W
      (Lib.hid fun W' _ => RpIsName_any nm hn W')
      (Lib.hid fun W' _ => RUnused_any kd nm tr pl lo hi st Z zn zc op nn lt sz W' b1 b2 hb1 hb2)
      (Lib.hid fun W' hW' => dialFault_any kd nm tr pl lo hi st Z zn zc op nn lt sz z _ W' (by obtain ⟨x, rfl⟩ := hW'; exact hW.gx) (Lib.hid fun k hk W'' => RpIsName_any _ (hz k hk) W''))
end Go.Proofs.YtocaphcnnmcnjaaGreatDoor

/-
  Names of tracks: the program's IsName at every text (second part).
-/
namespace Go.Proofs.YtocaphcnnmcnjaaGreatDoor
open Go.RowKit
-- AT2
-- AT3

theorem ext_all (s : ByteArray) : s.extract 0 s.size = s := by
  apply ByteArray.ext
  simp
theorem ext_beq (s : ByteArray) (r : Nat) (hr : r ≤ s.size) (ok : okTo s r = true) (h : r = s.size ∨ chB (bt s r) = false) : ((s.extract 0 r).toList == s.toList) = okTo s s.size := by
  by_cases e : r = s.size
  · subst e
    rw [ok, ext_all, beq_iff_eq]
  · have h2 : chB (bt s r) = false := h.resolve_left e
    rw [okTo_mono s (r + 1) s.size (by omega) (by unfold okTo; rw [h2]; simp), beq_eq_false_iff_ne]
    intro h3
    have h4 : (s.extract 0 r) = s := by
      apply ByteArray.ext
      have := h3
      rw [ByteArray.toList_eq, ByteArray.toList_eq] at this
      exact Array.toList_inj.1 this
    have h5 : (s.extract 0 r).size = s.size := by rw [h4]
    rw [ByteArray.size_extract] at h5
    omega
set_option maxHeartbeats 1000000 in
set_option maxRecDepth 100000 in
theorem runOfE_any (s : ByteArray) (hs : s.size ≤ 9223372036854775807) (w : World) : Calls Tryz.prog 97 #[.string s] w fun e w' => ∃ X, e = .returned (.string X) ∧ Hid ((X.toList == s.toList) = okTo s s.size) ∧ w = w' := by
  go_enter Tryz.func97, Tryz.ntmps97
  go_wp2_with (first | go_skip | (go_at_call 96; refine (isLetterE_any _ _).mono ?_; rintro e w' ⟨rfl, rfl⟩))
  go_loop [3] (fun i => ∃ k : Nat, k ≤ s.size ∧ i = .int .i64 k ∧ Hid (okTo s k = true)) (fun i => s.size - (intOf i).toNat)
  case atStart => exact ⟨0, Nat.zero_le _, rfl, Lib.hid rfl⟩
  case round =>
    obtain ⟨k, hk, rfl, HO⟩ := hrel
    by_cases hlt : k < s.size
    · have gk := bt_get s k hlt
      have hlt' : (k : Int) < (s.size : Int) := by omega
      have hkz : (k : Int) ≤ (s.size : Int) := by omega
      have hk0 : (0 : Int) ≤ (k : Int) := by omega
      have HS : Hid (okTo s (k + 1) = chB (bt s k)) := Lib.hid (by rw [okTo, HO.out]; rfl)
      have HE := Lib.hid (fun h => ext_beq s k hk HO.out (.inr h))
      have hc : chB (bt s k) = (letB (bt s k) || digB (bt s k) || bt s k == 45) := rfl
      have HC := Lib.hid hc
      clear hc
      rcases bool3 (letB (bt s k)) (digB (bt s k)) (bt s k == 45) with e1 | ⟨e1, e2⟩ | ⟨e1, e2, e3⟩ | ⟨e1, e2, e3⟩
      · have HN : Hid (okTo s (k + 1) = true) := by show _ = _; rw [HS.out, HC.out, e1]; rfl
        go_wp2_with (first | go_skip | (go_at_call 96; refine (isLetterE_any _ _).mono ?_; rintro e w' ⟨rfl, rfl⟩) | (go_at_call 120; refine (isDigitE_any _ _).mono ?_; rintro e w' ⟨rfl, rfl⟩))
        go_round
        case rel => exact ⟨k + 1, by omega, by go_num, HN⟩
        case measure => simp [intOf]; omega
      · have HN : Hid (okTo s (k + 1) = true) := by show _ = _; rw [HS.out, HC.out, e1, e2]; rfl
        go_wp2_with (first | go_skip | (go_at_call 96; refine (isLetterE_any _ _).mono ?_; rintro e w' ⟨rfl, rfl⟩) | (go_at_call 120; refine (isDigitE_any _ _).mono ?_; rintro e w' ⟨rfl, rfl⟩))
        go_round
        case rel => exact ⟨k + 1, by omega, by go_num, HN⟩
        case measure => simp [intOf]; omega
      · have HN : Hid (okTo s (k + 1) = true) := by show _ = _; rw [HS.out, HC.out, e1, e2, e3]; rfl
        go_wp2_with (first | go_skip | (go_at_call 96; refine (isLetterE_any _ _).mono ?_; rintro e w' ⟨rfl, rfl⟩) | (go_at_call 120; refine (isDigitE_any _ _).mono ?_; rintro e w' ⟨rfl, rfl⟩))
        go_round
        case rel => exact ⟨k + 1, by omega, by go_num, HN⟩
        case measure => simp [intOf]; omega
      · have HN : Hid (((s.extract 0 k).toList == s.toList) = okTo s s.size) := by show _ = _; exact HE.out (by rw [HC.out, e1, e2, e3]; rfl)
        go_wp2_with (first | go_skip | (go_at_call 96; refine (isLetterE_any _ _).mono ?_; rintro e w' ⟨rfl, rfl⟩) | (go_at_call 120; refine (isDigitE_any _ _).mono ?_; rintro e w' ⟨rfl, rfl⟩))
        go_ret
        exact ⟨_, rfl, HN, rfl⟩
    · obtain rfl : k = s.size := by omega
      have HN : Hid ((s.toList == s.toList) = okTo s s.size) := by
        show _ = _
        have h := ext_beq s s.size (Nat.le_refl _) HO.out (.inl rfl)
        rwa [ext_all] at h
      have hd : decide ((s.size : Int) < (s.size : Int)) = false := decide_eq_false (by omega)
      go_wp2_with (first | go_skip)
      go_ret
      exact ⟨_, rfl, HN, rfl⟩
/-- Is a text a track's name? -/
@[irreducible] def nameT (s : ByteArray) : Bool := decide (1 ≤ s.size) && decide (s.size ≤ 30) && letB (bt s 0) && okTo s s.size && !wordB s
set_option maxHeartbeats 1000000 in
set_option maxRecDepth 100000 in
theorem IsNameE_any (s : ByteArray) (hs : s.size ≤ 9223372036854775807) (w : World) : Calls Tryz.prog 69 #[.string s] w fun e w' => e = .returned (.bool (nameT s)) ∧ w = w' := by
  have HR := Lib.hid (fun W => runOfE_any s hs W)
  have HW := Lib.hid (fun W => isWordE_any s W)
  have HD : Hid (nameT s = (decide (1 ≤ s.size) && decide (s.size ≤ 30) && letB (bt s 0) && okTo s s.size && !wordB s)) := Lib.hid (by unfold nameT; rfl)
  generalize nameT s = T at *
  generalize wordB s = V at *
  by_cases h0 : s.size = 0
  · have HN : Hid (T = false) := Lib.hid (by rw [HD.out, decide_eq_false (show ¬ 1 ≤ s.size by omega)]; rfl)
    have hd : decide (1 ≤ (s.size : Int)) = false := decide_eq_false (by omega)
    go_enter Tryz.func69, Tryz.ntmps69
    go_wp2_with (first | go_skip)
    go_ret
    exact ⟨by rw [HN.out]; rfl, rfl⟩
  · have hd : decide (1 ≤ (s.size : Int)) = true := decide_eq_true (by omega)
    by_cases h1 : 30 < s.size
    · have HN : Hid (T = false) := Lib.hid (by rw [HD.out, decide_eq_true (show 1 ≤ s.size by omega), decide_eq_false (show ¬ s.size ≤ 30 by omega)]; rfl)
      have hd2 : decide ((s.size : Int) ≤ 30) = false := decide_eq_false (by omega)
      go_enter Tryz.func69, Tryz.ntmps69
      go_wp2_with (first | go_skip)
      go_ret
      exact ⟨by rw [HN.out]; rfl, rfl⟩
    · have hp : 0 < s.size := by omega
      have g0 := bt_get s 0 hp
      have hd2 : decide ((s.size : Int) ≤ 30) = true := decide_eq_true (by omega)
      have HN : Hid (T = (letB (bt s 0) && okTo s s.size && !V)) := Lib.hid (by rw [HD.out, decide_eq_true (show 1 ≤ s.size by omega), decide_eq_true (show s.size ≤ 30 by omega)]; rfl)
      clear HD
      cases e1 : letB (bt s 0) with
      | false =>
        go_enter Tryz.func69, Tryz.ntmps69
        go_wp2_with (first | go_skip | (go_at_call 96; refine (isLetterE_any _ _).mono ?_; rintro e w' ⟨rfl, rfl⟩))
        go_ret
        exact ⟨by rw [HN.out, e1]; rfl, rfl⟩
      | true =>
        cases e2 : okTo s s.size with
        | false =>
          go_enter Tryz.func69, Tryz.ntmps69
          go_wp2_with (first | go_skip | (go_at_call 96; refine (isLetterE_any _ _).mono ?_; rintro e w' ⟨rfl, rfl⟩) | (go_at_call 97; refine (HR.out _).mono ?_; rintro e w' ⟨X, rfl, hX, rfl⟩; have hX' := hX.out; rw [e2] at hX'))
          go_ret
          exact ⟨by rw [HN.out, e1, e2]; rfl, rfl⟩
        | true =>
          go_enter Tryz.func69, Tryz.ntmps69
          go_wp2_with (first | go_skip | (go_at_call 96; refine (isLetterE_any _ _).mono ?_; rintro e w' ⟨rfl, rfl⟩) | (go_at_call 97; refine (HR.out _).mono ?_; rintro e w' ⟨X, rfl, hX, rfl⟩; have hX' := hX.out; rw [e2] at hX') | (go_at_call 98; refine (HW.out _).mono ?_; rintro e w' ⟨rfl, rfl⟩))
          go_ret
          exact ⟨by rw [HN.out, e1, e2]; rfl, rfl⟩
end Go.Proofs.YtocaphcnnmcnjaaGreatDoor

/-
  Names of tracks: the reference's IsName at every text.
-/
namespace Go.Proofs.YtocaphcnnmcnjaaGreatDoor
open Go.RowKit
-- AT2
-- AT3

theorem words_any (w : World) : Calls Tryz.prog 126 #[] w fun e w' => e = .returned (.slice (some ⟨w.heap.size, 0, none⟩) 16 16) ∧ w' = w.alloc (.cells #[.string ⟨#[112, 104, 97, 115, 101]⟩, .string ⟨#[109, 111, 118, 101]⟩, .string ⟨#[114, 117, 108, 101]⟩, .string ⟨#[105, 102]⟩, .string ⟨#[111, 114]⟩, .string ⟨#[97, 110, 100]⟩, .string ⟨#[116, 114, 117, 101]⟩, .string ⟨#[102, 97, 108, 115, 101]⟩, .string ⟨#[115, 116, 101, 97, 100, 121]⟩, .string ⟨#[110, 111, 116]⟩, .string ⟨#[102, 111, 114]⟩, .string ⟨#[119, 105, 116, 104, 105, 110]⟩, .string ⟨#[99, 111, 117, 110, 116]⟩, .string ⟨#[111, 102]⟩, .string ⟨#[114, 105, 115, 101, 115]⟩, .string ⟨#[115, 105, 110, 99, 101]⟩] 9) := by
  go_enter Tryz.func126, Tryz.ntmps126
  go_wp2
  go_ret
  exact ⟨rfl, rfl⟩
theorem beq_sym (a b : List UInt8) : (a == b) = (b == a) := by
  by_cases h : a = b
  · subst h; rfl
  · rw [beq_eq_false_iff_ne.2 h, beq_eq_false_iff_ne.2 (fun e => h e.symm)]
set_option maxHeartbeats 8000000 in
set_option maxRecDepth 100000 in
theorem Reserved_any (s : ByteArray) (w : World) : Calls Tryz.prog 104 #[.string s] w fun e w' => e = .returned (.bool (wordB s)) ∧ ∃ x, w' = gx w x := by
  have HB := Lib.hid (wordB_is s)
  generalize wordB s = B at *
  cases e0 : (s.toList == [112, 104, 97, 115, 101]) with
  | true =>
    have HC : Hid (B = true) := Lib.hid (by rw [HB.out, e0]; simp)
    rw [beq_sym] at e0
    go_enter Tryz.func104, Tryz.ntmps104
    go_wp2_with (go_at_call 126; refine (words_any _).mono ?_; rintro e w' ⟨rfl, rfl⟩)
    refine wp_loop_rounds 17 ?_
    rw [rounds_succ]
    go_wp2
    go_ret
    exact ⟨by rw [HC.out]; rfl, (by repeat (first | (with_reducible exact Gx.refl _) | (with_reducible assumption) | (with_reducible refine Gx.gx ?_) | (with_reducible refine Gx.alloc ?_) | (with_reducible refine Gx.drew ?_) | (with_reducible refine Gx.drewN ?_) | (with_reducible refine Gx.setRow ?_ (by first | omega | (simp; done) | (simp <;> omega))) | (with_reducible refine Gx.setCell ?_ (by first | omega | (simp; done) | (simp <;> omega)))))⟩
  | false =>
    cases e1 : (s.toList == [109, 111, 118, 101]) with
    | true =>
      have HC : Hid (B = true) := Lib.hid (by rw [HB.out, e0, e1]; simp)
      rw [beq_sym] at e0
      rw [beq_sym] at e1
      go_enter Tryz.func104, Tryz.ntmps104
      go_wp2_with (go_at_call 126; refine (words_any _).mono ?_; rintro e w' ⟨rfl, rfl⟩)
      refine wp_loop_rounds 17 ?_
      rw [rounds_succ]
      go_wp2
      rw [rounds_succ]
      go_wp2
      go_ret
      exact ⟨by rw [HC.out]; rfl, (by repeat (first | (with_reducible exact Gx.refl _) | (with_reducible assumption) | (with_reducible refine Gx.gx ?_) | (with_reducible refine Gx.alloc ?_) | (with_reducible refine Gx.drew ?_) | (with_reducible refine Gx.drewN ?_) | (with_reducible refine Gx.setRow ?_ (by first | omega | (simp; done) | (simp <;> omega))) | (with_reducible refine Gx.setCell ?_ (by first | omega | (simp; done) | (simp <;> omega)))))⟩
    | false =>
      cases e2 : (s.toList == [114, 117, 108, 101]) with
      | true =>
        have HC : Hid (B = true) := Lib.hid (by rw [HB.out, e0, e1, e2]; simp)
        rw [beq_sym] at e0
        rw [beq_sym] at e1
        rw [beq_sym] at e2
        go_enter Tryz.func104, Tryz.ntmps104
        go_wp2_with (go_at_call 126; refine (words_any _).mono ?_; rintro e w' ⟨rfl, rfl⟩)
        refine wp_loop_rounds 17 ?_
        rw [rounds_succ]
        go_wp2
        rw [rounds_succ]
        go_wp2
        rw [rounds_succ]
        go_wp2
        go_ret
        exact ⟨by rw [HC.out]; rfl, (by repeat (first | (with_reducible exact Gx.refl _) | (with_reducible assumption) | (with_reducible refine Gx.gx ?_) | (with_reducible refine Gx.alloc ?_) | (with_reducible refine Gx.drew ?_) | (with_reducible refine Gx.drewN ?_) | (with_reducible refine Gx.setRow ?_ (by first | omega | (simp; done) | (simp <;> omega))) | (with_reducible refine Gx.setCell ?_ (by first | omega | (simp; done) | (simp <;> omega)))))⟩
      | false =>
        cases e3 : (s.toList == [105, 102]) with
        | true =>
          have HC : Hid (B = true) := Lib.hid (by rw [HB.out, e0, e1, e2, e3]; simp)
          rw [beq_sym] at e0
          rw [beq_sym] at e1
          rw [beq_sym] at e2
          rw [beq_sym] at e3
          go_enter Tryz.func104, Tryz.ntmps104
          go_wp2_with (go_at_call 126; refine (words_any _).mono ?_; rintro e w' ⟨rfl, rfl⟩)
          refine wp_loop_rounds 17 ?_
          rw [rounds_succ]
          go_wp2
          rw [rounds_succ]
          go_wp2
          rw [rounds_succ]
          go_wp2
          rw [rounds_succ]
          go_wp2
          go_ret
          exact ⟨by rw [HC.out]; rfl, (by repeat (first | (with_reducible exact Gx.refl _) | (with_reducible assumption) | (with_reducible refine Gx.gx ?_) | (with_reducible refine Gx.alloc ?_) | (with_reducible refine Gx.drew ?_) | (with_reducible refine Gx.drewN ?_) | (with_reducible refine Gx.setRow ?_ (by first | omega | (simp; done) | (simp <;> omega))) | (with_reducible refine Gx.setCell ?_ (by first | omega | (simp; done) | (simp <;> omega)))))⟩
        | false =>
          cases e4 : (s.toList == [111, 114]) with
          | true =>
            have HC : Hid (B = true) := Lib.hid (by rw [HB.out, e0, e1, e2, e3, e4]; simp)
            rw [beq_sym] at e0
            rw [beq_sym] at e1
            rw [beq_sym] at e2
            rw [beq_sym] at e3
            rw [beq_sym] at e4
            go_enter Tryz.func104, Tryz.ntmps104
            go_wp2_with (go_at_call 126; refine (words_any _).mono ?_; rintro e w' ⟨rfl, rfl⟩)
            refine wp_loop_rounds 17 ?_
            rw [rounds_succ]
            go_wp2
            rw [rounds_succ]
            go_wp2
            rw [rounds_succ]
            go_wp2
            rw [rounds_succ]
            go_wp2
            rw [rounds_succ]
            go_wp2
            go_ret
            exact ⟨by rw [HC.out]; rfl, (by repeat (first | (with_reducible exact Gx.refl _) | (with_reducible assumption) | (with_reducible refine Gx.gx ?_) | (with_reducible refine Gx.alloc ?_) | (with_reducible refine Gx.drew ?_) | (with_reducible refine Gx.drewN ?_) | (with_reducible refine Gx.setRow ?_ (by first | omega | (simp; done) | (simp <;> omega))) | (with_reducible refine Gx.setCell ?_ (by first | omega | (simp; done) | (simp <;> omega)))))⟩
          | false =>
            cases e5 : (s.toList == [97, 110, 100]) with
            | true =>
              have HC : Hid (B = true) := Lib.hid (by rw [HB.out, e0, e1, e2, e3, e4, e5]; simp)
              rw [beq_sym] at e0
              rw [beq_sym] at e1
              rw [beq_sym] at e2
              rw [beq_sym] at e3
              rw [beq_sym] at e4
              rw [beq_sym] at e5
              go_enter Tryz.func104, Tryz.ntmps104
              go_wp2_with (go_at_call 126; refine (words_any _).mono ?_; rintro e w' ⟨rfl, rfl⟩)
              refine wp_loop_rounds 17 ?_
              rw [rounds_succ]
              go_wp2
              rw [rounds_succ]
              go_wp2
              rw [rounds_succ]
              go_wp2
              rw [rounds_succ]
              go_wp2
              rw [rounds_succ]
              go_wp2
              rw [rounds_succ]
              go_wp2
              go_ret
              exact ⟨by rw [HC.out]; rfl, (by repeat (first | (with_reducible exact Gx.refl _) | (with_reducible assumption) | (with_reducible refine Gx.gx ?_) | (with_reducible refine Gx.alloc ?_) | (with_reducible refine Gx.drew ?_) | (with_reducible refine Gx.drewN ?_) | (with_reducible refine Gx.setRow ?_ (by first | omega | (simp; done) | (simp <;> omega))) | (with_reducible refine Gx.setCell ?_ (by first | omega | (simp; done) | (simp <;> omega)))))⟩
            | false =>
              cases e6 : (s.toList == [116, 114, 117, 101]) with
              | true =>
                have HC : Hid (B = true) := Lib.hid (by rw [HB.out, e0, e1, e2, e3, e4, e5, e6]; simp)
                rw [beq_sym] at e0
                rw [beq_sym] at e1
                rw [beq_sym] at e2
                rw [beq_sym] at e3
                rw [beq_sym] at e4
                rw [beq_sym] at e5
                rw [beq_sym] at e6
                go_enter Tryz.func104, Tryz.ntmps104
                go_wp2_with (go_at_call 126; refine (words_any _).mono ?_; rintro e w' ⟨rfl, rfl⟩)
                refine wp_loop_rounds 17 ?_
                rw [rounds_succ]
                go_wp2
                rw [rounds_succ]
                go_wp2
                rw [rounds_succ]
                go_wp2
                rw [rounds_succ]
                go_wp2
                rw [rounds_succ]
                go_wp2
                rw [rounds_succ]
                go_wp2
                rw [rounds_succ]
                go_wp2
                go_ret
                exact ⟨by rw [HC.out]; rfl, (by repeat (first | (with_reducible exact Gx.refl _) | (with_reducible assumption) | (with_reducible refine Gx.gx ?_) | (with_reducible refine Gx.alloc ?_) | (with_reducible refine Gx.drew ?_) | (with_reducible refine Gx.drewN ?_) | (with_reducible refine Gx.setRow ?_ (by first | omega | (simp; done) | (simp <;> omega))) | (with_reducible refine Gx.setCell ?_ (by first | omega | (simp; done) | (simp <;> omega)))))⟩
              | false =>
                cases e7 : (s.toList == [102, 97, 108, 115, 101]) with
                | true =>
                  have HC : Hid (B = true) := Lib.hid (by rw [HB.out, e0, e1, e2, e3, e4, e5, e6, e7]; simp)
                  rw [beq_sym] at e0
                  rw [beq_sym] at e1
                  rw [beq_sym] at e2
                  rw [beq_sym] at e3
                  rw [beq_sym] at e4
                  rw [beq_sym] at e5
                  rw [beq_sym] at e6
                  rw [beq_sym] at e7
                  go_enter Tryz.func104, Tryz.ntmps104
                  go_wp2_with (go_at_call 126; refine (words_any _).mono ?_; rintro e w' ⟨rfl, rfl⟩)
                  refine wp_loop_rounds 17 ?_
                  rw [rounds_succ]
                  go_wp2
                  rw [rounds_succ]
                  go_wp2
                  rw [rounds_succ]
                  go_wp2
                  rw [rounds_succ]
                  go_wp2
                  rw [rounds_succ]
                  go_wp2
                  rw [rounds_succ]
                  go_wp2
                  rw [rounds_succ]
                  go_wp2
                  rw [rounds_succ]
                  go_wp2
                  go_ret
                  exact ⟨by rw [HC.out]; rfl, (by repeat (first | (with_reducible exact Gx.refl _) | (with_reducible assumption) | (with_reducible refine Gx.gx ?_) | (with_reducible refine Gx.alloc ?_) | (with_reducible refine Gx.drew ?_) | (with_reducible refine Gx.drewN ?_) | (with_reducible refine Gx.setRow ?_ (by first | omega | (simp; done) | (simp <;> omega))) | (with_reducible refine Gx.setCell ?_ (by first | omega | (simp; done) | (simp <;> omega)))))⟩
                | false =>
                  cases e8 : (s.toList == [115, 116, 101, 97, 100, 121]) with
                  | true =>
                    have HC : Hid (B = true) := Lib.hid (by rw [HB.out, e0, e1, e2, e3, e4, e5, e6, e7, e8]; simp)
                    rw [beq_sym] at e0
                    rw [beq_sym] at e1
                    rw [beq_sym] at e2
                    rw [beq_sym] at e3
                    rw [beq_sym] at e4
                    rw [beq_sym] at e5
                    rw [beq_sym] at e6
                    rw [beq_sym] at e7
                    rw [beq_sym] at e8
                    go_enter Tryz.func104, Tryz.ntmps104
                    go_wp2_with (go_at_call 126; refine (words_any _).mono ?_; rintro e w' ⟨rfl, rfl⟩)
                    refine wp_loop_rounds 17 ?_
                    rw [rounds_succ]
                    go_wp2
                    rw [rounds_succ]
                    go_wp2
                    rw [rounds_succ]
                    go_wp2
                    rw [rounds_succ]
                    go_wp2
                    rw [rounds_succ]
                    go_wp2
                    rw [rounds_succ]
                    go_wp2
                    rw [rounds_succ]
                    go_wp2
                    rw [rounds_succ]
                    go_wp2
                    rw [rounds_succ]
                    go_wp2
                    go_ret
                    exact ⟨by rw [HC.out]; rfl, (by repeat (first | (with_reducible exact Gx.refl _) | (with_reducible assumption) | (with_reducible refine Gx.gx ?_) | (with_reducible refine Gx.alloc ?_) | (with_reducible refine Gx.drew ?_) | (with_reducible refine Gx.drewN ?_) | (with_reducible refine Gx.setRow ?_ (by first | omega | (simp; done) | (simp <;> omega))) | (with_reducible refine Gx.setCell ?_ (by first | omega | (simp; done) | (simp <;> omega)))))⟩
                  | false =>
                    cases e9 : (s.toList == [110, 111, 116]) with
                    | true =>
                      have HC : Hid (B = true) := Lib.hid (by rw [HB.out, e0, e1, e2, e3, e4, e5, e6, e7, e8, e9]; simp)
                      rw [beq_sym] at e0
                      rw [beq_sym] at e1
                      rw [beq_sym] at e2
                      rw [beq_sym] at e3
                      rw [beq_sym] at e4
                      rw [beq_sym] at e5
                      rw [beq_sym] at e6
                      rw [beq_sym] at e7
                      rw [beq_sym] at e8
                      rw [beq_sym] at e9
                      go_enter Tryz.func104, Tryz.ntmps104
                      go_wp2_with (go_at_call 126; refine (words_any _).mono ?_; rintro e w' ⟨rfl, rfl⟩)
                      refine wp_loop_rounds 17 ?_
                      rw [rounds_succ]
                      go_wp2
                      rw [rounds_succ]
                      go_wp2
                      rw [rounds_succ]
                      go_wp2
                      rw [rounds_succ]
                      go_wp2
                      rw [rounds_succ]
                      go_wp2
                      rw [rounds_succ]
                      go_wp2
                      rw [rounds_succ]
                      go_wp2
                      rw [rounds_succ]
                      go_wp2
                      rw [rounds_succ]
                      go_wp2
                      rw [rounds_succ]
                      go_wp2
                      go_ret
                      exact ⟨by rw [HC.out]; rfl, (by repeat (first | (with_reducible exact Gx.refl _) | (with_reducible assumption) | (with_reducible refine Gx.gx ?_) | (with_reducible refine Gx.alloc ?_) | (with_reducible refine Gx.drew ?_) | (with_reducible refine Gx.drewN ?_) | (with_reducible refine Gx.setRow ?_ (by first | omega | (simp; done) | (simp <;> omega))) | (with_reducible refine Gx.setCell ?_ (by first | omega | (simp; done) | (simp <;> omega)))))⟩
                    | false =>
                      cases e10 : (s.toList == [102, 111, 114]) with
                      | true =>
                        have HC : Hid (B = true) := Lib.hid (by rw [HB.out, e0, e1, e2, e3, e4, e5, e6, e7, e8, e9, e10]; simp)
                        rw [beq_sym] at e0
                        rw [beq_sym] at e1
                        rw [beq_sym] at e2
                        rw [beq_sym] at e3
                        rw [beq_sym] at e4
                        rw [beq_sym] at e5
                        rw [beq_sym] at e6
                        rw [beq_sym] at e7
                        rw [beq_sym] at e8
                        rw [beq_sym] at e9
                        rw [beq_sym] at e10
                        go_enter Tryz.func104, Tryz.ntmps104
                        go_wp2_with (go_at_call 126; refine (words_any _).mono ?_; rintro e w' ⟨rfl, rfl⟩)
                        refine wp_loop_rounds 17 ?_
                        rw [rounds_succ]
                        go_wp2
                        rw [rounds_succ]
                        go_wp2
                        rw [rounds_succ]
                        go_wp2
                        rw [rounds_succ]
                        go_wp2
                        rw [rounds_succ]
                        go_wp2
                        rw [rounds_succ]
                        go_wp2
                        rw [rounds_succ]
                        go_wp2
                        rw [rounds_succ]
                        go_wp2
                        rw [rounds_succ]
                        go_wp2
                        rw [rounds_succ]
                        go_wp2
                        rw [rounds_succ]
                        go_wp2
                        go_ret
                        exact ⟨by rw [HC.out]; rfl, (by repeat (first | (with_reducible exact Gx.refl _) | (with_reducible assumption) | (with_reducible refine Gx.gx ?_) | (with_reducible refine Gx.alloc ?_) | (with_reducible refine Gx.drew ?_) | (with_reducible refine Gx.drewN ?_) | (with_reducible refine Gx.setRow ?_ (by first | omega | (simp; done) | (simp <;> omega))) | (with_reducible refine Gx.setCell ?_ (by first | omega | (simp; done) | (simp <;> omega)))))⟩
                      | false =>
                        cases e11 : (s.toList == [119, 105, 116, 104, 105, 110]) with
                        | true =>
                          have HC : Hid (B = true) := Lib.hid (by rw [HB.out, e0, e1, e2, e3, e4, e5, e6, e7, e8, e9, e10, e11]; simp)
                          rw [beq_sym] at e0
                          rw [beq_sym] at e1
                          rw [beq_sym] at e2
                          rw [beq_sym] at e3
                          rw [beq_sym] at e4
                          rw [beq_sym] at e5
                          rw [beq_sym] at e6
                          rw [beq_sym] at e7
                          rw [beq_sym] at e8
                          rw [beq_sym] at e9
                          rw [beq_sym] at e10
                          rw [beq_sym] at e11
                          go_enter Tryz.func104, Tryz.ntmps104
                          go_wp2_with (go_at_call 126; refine (words_any _).mono ?_; rintro e w' ⟨rfl, rfl⟩)
                          refine wp_loop_rounds 17 ?_
                          rw [rounds_succ]
                          go_wp2
                          rw [rounds_succ]
                          go_wp2
                          rw [rounds_succ]
                          go_wp2
                          rw [rounds_succ]
                          go_wp2
                          rw [rounds_succ]
                          go_wp2
                          rw [rounds_succ]
                          go_wp2
                          rw [rounds_succ]
                          go_wp2
                          rw [rounds_succ]
                          go_wp2
                          rw [rounds_succ]
                          go_wp2
                          rw [rounds_succ]
                          go_wp2
                          rw [rounds_succ]
                          go_wp2
                          rw [rounds_succ]
                          go_wp2
                          go_ret
                          exact ⟨by rw [HC.out]; rfl, (by repeat (first | (with_reducible exact Gx.refl _) | (with_reducible assumption) | (with_reducible refine Gx.gx ?_) | (with_reducible refine Gx.alloc ?_) | (with_reducible refine Gx.drew ?_) | (with_reducible refine Gx.drewN ?_) | (with_reducible refine Gx.setRow ?_ (by first | omega | (simp; done) | (simp <;> omega))) | (with_reducible refine Gx.setCell ?_ (by first | omega | (simp; done) | (simp <;> omega)))))⟩
                        | false =>
                          cases e12 : (s.toList == [99, 111, 117, 110, 116]) with
                          | true =>
                            have HC : Hid (B = true) := Lib.hid (by rw [HB.out, e0, e1, e2, e3, e4, e5, e6, e7, e8, e9, e10, e11, e12]; simp)
                            rw [beq_sym] at e0
                            rw [beq_sym] at e1
                            rw [beq_sym] at e2
                            rw [beq_sym] at e3
                            rw [beq_sym] at e4
                            rw [beq_sym] at e5
                            rw [beq_sym] at e6
                            rw [beq_sym] at e7
                            rw [beq_sym] at e8
                            rw [beq_sym] at e9
                            rw [beq_sym] at e10
                            rw [beq_sym] at e11
                            rw [beq_sym] at e12
                            go_enter Tryz.func104, Tryz.ntmps104
                            go_wp2_with (go_at_call 126; refine (words_any _).mono ?_; rintro e w' ⟨rfl, rfl⟩)
                            refine wp_loop_rounds 17 ?_
                            rw [rounds_succ]
                            go_wp2
                            rw [rounds_succ]
                            go_wp2
                            rw [rounds_succ]
                            go_wp2
                            rw [rounds_succ]
                            go_wp2
                            rw [rounds_succ]
                            go_wp2
                            rw [rounds_succ]
                            go_wp2
                            rw [rounds_succ]
                            go_wp2
                            rw [rounds_succ]
                            go_wp2
                            rw [rounds_succ]
                            go_wp2
                            rw [rounds_succ]
                            go_wp2
                            rw [rounds_succ]
                            go_wp2
                            rw [rounds_succ]
                            go_wp2
                            rw [rounds_succ]
                            go_wp2
                            go_ret
                            exact ⟨by rw [HC.out]; rfl, (by repeat (first | (with_reducible exact Gx.refl _) | (with_reducible assumption) | (with_reducible refine Gx.gx ?_) | (with_reducible refine Gx.alloc ?_) | (with_reducible refine Gx.drew ?_) | (with_reducible refine Gx.drewN ?_) | (with_reducible refine Gx.setRow ?_ (by first | omega | (simp; done) | (simp <;> omega))) | (with_reducible refine Gx.setCell ?_ (by first | omega | (simp; done) | (simp <;> omega)))))⟩
                          | false =>
                            cases e13 : (s.toList == [111, 102]) with
                            | true =>
                              have HC : Hid (B = true) := Lib.hid (by rw [HB.out, e0, e1, e2, e3, e4, e5, e6, e7, e8, e9, e10, e11, e12, e13]; simp)
                              rw [beq_sym] at e0
                              rw [beq_sym] at e1
                              rw [beq_sym] at e2
                              rw [beq_sym] at e3
                              rw [beq_sym] at e4
                              rw [beq_sym] at e5
                              rw [beq_sym] at e6
                              rw [beq_sym] at e7
                              rw [beq_sym] at e8
                              rw [beq_sym] at e9
                              rw [beq_sym] at e10
                              rw [beq_sym] at e11
                              rw [beq_sym] at e12
                              rw [beq_sym] at e13
                              go_enter Tryz.func104, Tryz.ntmps104
                              go_wp2_with (go_at_call 126; refine (words_any _).mono ?_; rintro e w' ⟨rfl, rfl⟩)
                              refine wp_loop_rounds 17 ?_
                              rw [rounds_succ]
                              go_wp2
                              rw [rounds_succ]
                              go_wp2
                              rw [rounds_succ]
                              go_wp2
                              rw [rounds_succ]
                              go_wp2
                              rw [rounds_succ]
                              go_wp2
                              rw [rounds_succ]
                              go_wp2
                              rw [rounds_succ]
                              go_wp2
                              rw [rounds_succ]
                              go_wp2
                              rw [rounds_succ]
                              go_wp2
                              rw [rounds_succ]
                              go_wp2
                              rw [rounds_succ]
                              go_wp2
                              rw [rounds_succ]
                              go_wp2
                              rw [rounds_succ]
                              go_wp2
                              rw [rounds_succ]
                              go_wp2
                              go_ret
                              exact ⟨by rw [HC.out]; rfl, (by repeat (first | (with_reducible exact Gx.refl _) | (with_reducible assumption) | (with_reducible refine Gx.gx ?_) | (with_reducible refine Gx.alloc ?_) | (with_reducible refine Gx.drew ?_) | (with_reducible refine Gx.drewN ?_) | (with_reducible refine Gx.setRow ?_ (by first | omega | (simp; done) | (simp <;> omega))) | (with_reducible refine Gx.setCell ?_ (by first | omega | (simp; done) | (simp <;> omega)))))⟩
                            | false =>
                              cases e14 : (s.toList == [114, 105, 115, 101, 115]) with
                              | true =>
                                have HC : Hid (B = true) := Lib.hid (by rw [HB.out, e0, e1, e2, e3, e4, e5, e6, e7, e8, e9, e10, e11, e12, e13, e14]; simp)
                                rw [beq_sym] at e0
                                rw [beq_sym] at e1
                                rw [beq_sym] at e2
                                rw [beq_sym] at e3
                                rw [beq_sym] at e4
                                rw [beq_sym] at e5
                                rw [beq_sym] at e6
                                rw [beq_sym] at e7
                                rw [beq_sym] at e8
                                rw [beq_sym] at e9
                                rw [beq_sym] at e10
                                rw [beq_sym] at e11
                                rw [beq_sym] at e12
                                rw [beq_sym] at e13
                                rw [beq_sym] at e14
                                go_enter Tryz.func104, Tryz.ntmps104
                                go_wp2_with (go_at_call 126; refine (words_any _).mono ?_; rintro e w' ⟨rfl, rfl⟩)
                                refine wp_loop_rounds 17 ?_
                                rw [rounds_succ]
                                go_wp2
                                rw [rounds_succ]
                                go_wp2
                                rw [rounds_succ]
                                go_wp2
                                rw [rounds_succ]
                                go_wp2
                                rw [rounds_succ]
                                go_wp2
                                rw [rounds_succ]
                                go_wp2
                                rw [rounds_succ]
                                go_wp2
                                rw [rounds_succ]
                                go_wp2
                                rw [rounds_succ]
                                go_wp2
                                rw [rounds_succ]
                                go_wp2
                                rw [rounds_succ]
                                go_wp2
                                rw [rounds_succ]
                                go_wp2
                                rw [rounds_succ]
                                go_wp2
                                rw [rounds_succ]
                                go_wp2
                                rw [rounds_succ]
                                go_wp2
                                go_ret
                                exact ⟨by rw [HC.out]; rfl, (by repeat (first | (with_reducible exact Gx.refl _) | (with_reducible assumption) | (with_reducible refine Gx.gx ?_) | (with_reducible refine Gx.alloc ?_) | (with_reducible refine Gx.drew ?_) | (with_reducible refine Gx.drewN ?_) | (with_reducible refine Gx.setRow ?_ (by first | omega | (simp; done) | (simp <;> omega))) | (with_reducible refine Gx.setCell ?_ (by first | omega | (simp; done) | (simp <;> omega)))))⟩
                              | false =>
                                cases e15 : (s.toList == [115, 105, 110, 99, 101]) with
                                | true =>
                                  have HC : Hid (B = true) := Lib.hid (by rw [HB.out, e0, e1, e2, e3, e4, e5, e6, e7, e8, e9, e10, e11, e12, e13, e14, e15]; simp)
                                  rw [beq_sym] at e0
                                  rw [beq_sym] at e1
                                  rw [beq_sym] at e2
                                  rw [beq_sym] at e3
                                  rw [beq_sym] at e4
                                  rw [beq_sym] at e5
                                  rw [beq_sym] at e6
                                  rw [beq_sym] at e7
                                  rw [beq_sym] at e8
                                  rw [beq_sym] at e9
                                  rw [beq_sym] at e10
                                  rw [beq_sym] at e11
                                  rw [beq_sym] at e12
                                  rw [beq_sym] at e13
                                  rw [beq_sym] at e14
                                  rw [beq_sym] at e15
                                  go_enter Tryz.func104, Tryz.ntmps104
                                  go_wp2_with (go_at_call 126; refine (words_any _).mono ?_; rintro e w' ⟨rfl, rfl⟩)
                                  refine wp_loop_rounds 17 ?_
                                  rw [rounds_succ]
                                  go_wp2
                                  rw [rounds_succ]
                                  go_wp2
                                  rw [rounds_succ]
                                  go_wp2
                                  rw [rounds_succ]
                                  go_wp2
                                  rw [rounds_succ]
                                  go_wp2
                                  rw [rounds_succ]
                                  go_wp2
                                  rw [rounds_succ]
                                  go_wp2
                                  rw [rounds_succ]
                                  go_wp2
                                  rw [rounds_succ]
                                  go_wp2
                                  rw [rounds_succ]
                                  go_wp2
                                  rw [rounds_succ]
                                  go_wp2
                                  rw [rounds_succ]
                                  go_wp2
                                  rw [rounds_succ]
                                  go_wp2
                                  rw [rounds_succ]
                                  go_wp2
                                  rw [rounds_succ]
                                  go_wp2
                                  rw [rounds_succ]
                                  go_wp2
                                  go_ret
                                  exact ⟨by rw [HC.out]; rfl, (by repeat (first | (with_reducible exact Gx.refl _) | (with_reducible assumption) | (with_reducible refine Gx.gx ?_) | (with_reducible refine Gx.alloc ?_) | (with_reducible refine Gx.drew ?_) | (with_reducible refine Gx.drewN ?_) | (with_reducible refine Gx.setRow ?_ (by first | omega | (simp; done) | (simp <;> omega))) | (with_reducible refine Gx.setCell ?_ (by first | omega | (simp; done) | (simp <;> omega)))))⟩
                                | false =>
                                  have HC : Hid (B = false) := Lib.hid (by rw [HB.out, e0, e1, e2, e3, e4, e5, e6, e7, e8, e9, e10, e11, e12, e13, e14, e15]; rfl)
                                  rw [beq_sym] at e0
                                  rw [beq_sym] at e1
                                  rw [beq_sym] at e2
                                  rw [beq_sym] at e3
                                  rw [beq_sym] at e4
                                  rw [beq_sym] at e5
                                  rw [beq_sym] at e6
                                  rw [beq_sym] at e7
                                  rw [beq_sym] at e8
                                  rw [beq_sym] at e9
                                  rw [beq_sym] at e10
                                  rw [beq_sym] at e11
                                  rw [beq_sym] at e12
                                  rw [beq_sym] at e13
                                  rw [beq_sym] at e14
                                  rw [beq_sym] at e15
                                  go_enter Tryz.func104, Tryz.ntmps104
                                  go_wp2_with (go_at_call 126; refine (words_any _).mono ?_; rintro e w' ⟨rfl, rfl⟩)
                                  refine wp_loop_rounds 17 ?_
                                  rw [rounds_succ]
                                  go_wp2
                                  rw [rounds_succ]
                                  go_wp2
                                  rw [rounds_succ]
                                  go_wp2
                                  rw [rounds_succ]
                                  go_wp2
                                  rw [rounds_succ]
                                  go_wp2
                                  rw [rounds_succ]
                                  go_wp2
                                  rw [rounds_succ]
                                  go_wp2
                                  rw [rounds_succ]
                                  go_wp2
                                  rw [rounds_succ]
                                  go_wp2
                                  rw [rounds_succ]
                                  go_wp2
                                  rw [rounds_succ]
                                  go_wp2
                                  rw [rounds_succ]
                                  go_wp2
                                  rw [rounds_succ]
                                  go_wp2
                                  rw [rounds_succ]
                                  go_wp2
                                  rw [rounds_succ]
                                  go_wp2
                                  rw [rounds_succ]
                                  go_wp2
                                  rw [rounds_succ]
                                  go_wp2
                                  go_ret
                                  exact ⟨by rw [HC.out]; rfl, (by repeat (first | (with_reducible exact Gx.refl _) | (with_reducible assumption) | (with_reducible refine Gx.gx ?_) | (with_reducible refine Gx.alloc ?_) | (with_reducible refine Gx.drew ?_) | (with_reducible refine Gx.drewN ?_) | (with_reducible refine Gx.setRow ?_ (by first | omega | (simp; done) | (simp <;> omega))) | (with_reducible refine Gx.setCell ?_ (by first | omega | (simp; done) | (simp <;> omega)))))⟩
end Go.Proofs.YtocaphcnnmcnjaaGreatDoor
