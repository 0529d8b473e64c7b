/-
  Get, WordAt: contracts of both sides.
-/
import Derived.Test.YtllahhmonoedmaaDoorLawPut
import Derived.Test.YtllahhmonoedmaaDoorRFrame
import Derived.Test.YtllahhmonoedmaaDoorSetWord
namespace Go.Proofs.YtllahhmonoedmaaDoor
open Go.RowKit
-- AT2

set_option maxHeartbeats 600000 in
set_option maxRecDepth 100000 in
theorem RGet_bad (A : Option Addr) (n c : Nat) (at_ : Int) (hm : n ≤ 9223372036854775807) (ha : at_ ≤ 9223372036854775807) (w : World) (E : Int) (he : placeE n at_ 96 = E) (hE : E ≠ 0) :
    Calls Tryd.prog 51 #[.slice A n c, .int .i64 at_] w fun e w' => e = .returned (.tuple #[.agg (fc zeroF), .int .i64 E]) ∧ ∃ x, w' = gx w x := by
  have hl := zeroF_len
  have hb : (E != 0) = true := by rw [bne_iff_ne]; exact hE
  have HE := Lib.hid he
  clear hE he
  go_enter Tryd.func51, Tryd.ntmps51
  go_wp2_with (first | (refine store_fr rfl _ _ rfl _ rfl _ rfl ?_ ?_ ?_ ?_ ?_; rotate_left; (focus (repeat (first | (with_reducible assumption) | (with_reducible exact At.new _ _) | (with_reducible refine At.row ?_) | (with_reducible refine At.app ?_) | (with_reducible refine At.tick ?_) | (with_reducible refine At.gx ?_) | ((with_reducible refine At.new' ?_); focus (simp; done)) | (with_reducible refine At.alloc ?_) | (with_reducible refine At.drew ?_) | (with_reducible exact Is.new _ _ _) | (with_reducible refine Is.row ?_) | (with_reducible refine Is.gx ?_) | ((with_reducible refine Is.new' ?_); focus (simp; done)) | (with_reducible refine Is.alloc ?_) | (with_reducible refine Is.drew ?_)))); (focus (with_reducible (first | exact hl | exact hl1 | exact hl2 | exact hl3 | exact hl4 | exact zeroF_len))); (focus (with_reducible (first | exact hl | exact hl1 | exact hl2 | exact hl3 | exact hl4 | exact zeroF_len)))) | (go_at_call 108; refine (Place_any A n c at_ 96 hm ha (by decide) _).mono ?_; rw [HE.out]; rintro e w' ⟨rfl, rfl⟩))
  (refine ret_fr_tmp rfl _ _ _ ?_ rfl rfl ?_ ?_ ?_; rotate_left; (focus (repeat (first | (with_reducible assumption) | (with_reducible exact At.new _ _) | (with_reducible refine At.row ?_) | (with_reducible refine At.app ?_) | (with_reducible refine At.tick ?_) | (with_reducible refine At.gx ?_) | ((with_reducible refine At.new' ?_); focus (simp; done)) | (with_reducible refine At.alloc ?_) | (with_reducible refine At.drew ?_) | (with_reducible exact Is.new _ _ _) | (with_reducible refine Is.row ?_) | (with_reducible refine Is.gx ?_) | ((with_reducible refine Is.new' ?_); focus (simp; done)) | (with_reducible refine Is.alloc ?_) | (with_reducible refine Is.drew ?_)))); (focus (with_reducible (first | exact hl | exact hl1 | exact hl2 | exact hl3 | exact hl4 | exact zeroF_len))))
  exact ⟨rfl, (by repeat (first | (with_reducible exact Gx.refl _) | (with_reducible assumption) | (with_reducible refine Gx.gx ?_) | (with_reducible refine Gx.alloc ?_) | (with_reducible refine Gx.drew ?_) | (with_reducible refine Gx.drewN ?_) | (with_reducible refine Gx.setRow ?_ (by simp)) | (with_reducible refine Gx.setCell ?_ (by simp))))⟩
set_option maxHeartbeats 600000 in
set_option maxRecDepth 100000 in
theorem RGet_good (B : List Int) (hB : Bs B) (b o n c a : Nat) (hm : n ≤ 9223372036854775807) (hnc : n ≤ c) (hcm : c ≤ 9223372036854775807) (h : a + 96 ≤ n) (w : World)
    (hc : ∀ j, j < 96 → w.cell? ⟨b, o + a + j, none⟩ = some (.int .u8 (gw B j))) :
    Calls Tryd.prog 51 #[.slice (some ⟨b, o, none⟩) n c, .int .i64 a] w fun e w' => e = .returned (.tuple #[.agg (fc (rdF B)), .int .i64 0]) ∧ ∃ x, w' = gx w x := by
  have hl := zeroF_len
  have hl1 := rdF_len B
  have hp : placeE n (a : Int) 96 = 0 := by unfold placeE; rw [if_neg (by omega), if_neg (by omega)]
  have HP := Lib.hid hp
  have hc' := Lib.hid hc
  have hac : ¬ (c = a) := by omega
  clear hp hc
  go_enter Tryd.func51, Tryd.ntmps51
  go_wp2_with (first | (refine store_fr rfl _ _ rfl _ rfl _ rfl ?_ ?_ ?_ ?_ ?_; rotate_left; (focus (repeat (first | (with_reducible assumption) | (with_reducible exact At.new _ _) | (with_reducible refine At.row ?_) | (with_reducible refine At.app ?_) | (with_reducible refine At.tick ?_) | (with_reducible refine At.gx ?_) | ((with_reducible refine At.new' ?_); focus (simp; done)) | (with_reducible refine At.alloc ?_) | (with_reducible refine At.drew ?_) | (with_reducible exact Is.new _ _ _) | (with_reducible refine Is.row ?_) | (with_reducible refine Is.gx ?_) | ((with_reducible refine Is.new' ?_); focus (simp; done)) | (with_reducible refine Is.alloc ?_) | (with_reducible refine Is.drew ?_)))); (focus (with_reducible (first | exact hl | exact hl1 | exact hl2 | exact hl3 | exact hl4 | exact zeroF_len))); (focus (with_reducible (first | exact hl | exact hl1 | exact hl2 | exact hl3 | exact hl4 | exact zeroF_len)))) | (go_at_call 108; refine (Place_any _ n c a 96 hm (by omega) (by decide) _).mono ?_; rw [HP.out]; rintro e w' ⟨rfl, rfl⟩) | (go_at_call 105; refine (Rframe_any B hB b (o + a) _ _ (by omega) (by omega) _ ?_).mono ?_; (focus (intro j hj; repeat (first | (with_reducible exact hc'.out j hj) | (with_reducible refine cell_keep_gx ?_) | (with_reducible refine cell_keep_alloc ?_)))); rintro e w' ⟨rfl, z, rfl⟩))
  (refine ret_fr_tmp rfl _ _ _ ?_ rfl rfl ?_ ?_ ?_; rotate_left; (focus (repeat (first | (with_reducible assumption) | (with_reducible exact At.new _ _) | (with_reducible refine At.row ?_) | (with_reducible refine At.app ?_) | (with_reducible refine At.tick ?_) | (with_reducible refine At.gx ?_) | ((with_reducible refine At.new' ?_); focus (simp; done)) | (with_reducible refine At.alloc ?_) | (with_reducible refine At.drew ?_) | (with_reducible exact Is.new _ _ _) | (with_reducible refine Is.row ?_) | (with_reducible refine Is.gx ?_) | ((with_reducible refine Is.new' ?_); focus (simp; done)) | (with_reducible refine Is.alloc ?_) | (with_reducible refine Is.drew ?_)))); (focus (with_reducible (first | exact hl | exact hl1 | exact hl2 | exact hl3 | exact hl4 | exact zeroF_len))))
  exact ⟨rfl, (by repeat (first | (with_reducible exact Gx.refl _) | (with_reducible assumption) | (with_reducible refine Gx.gx ?_) | (with_reducible refine Gx.alloc ?_) | (with_reducible refine Gx.drew ?_) | (with_reducible refine Gx.drewN ?_) | (with_reducible refine Gx.setRow ?_ (by simp)) | (with_reducible refine Gx.setCell ?_ (by simp))))⟩
theorem WordAt_bad (A : Option Addr) (n c : Nat) (at_ i : Int) (hm : n ≤ 9223372036854775807) (ha : at_ ≤ 9223372036854775807) (w : World) (E : Int) (he : placeE n at_ 96 = E) (hE : E ≠ 0) :
    Calls Tryd.prog 52 #[.slice A n c, .int .i64 at_, .int .i64 i] w fun e w' => e = .returned (.tuple #[.int .i64 0, .int .i64 E]) ∧ ∃ x, w' = gx w x := by
  have hb : (E != 0) = true := by rw [bne_iff_ne]; exact hE
  have HE := Lib.hid he
  clear he
  go_enter Tryd.func52, Tryd.ntmps52
  go_wp2_with (go_at_call 106; refine (inPlace_bad A n c at_ hm ha _ E HE.out hE).mono ?_; rintro e w' ⟨rfl, rfl⟩)
  go_ret2
  exact ⟨rfl, (by repeat (first | (with_reducible exact Gx.refl _) | (with_reducible assumption) | (with_reducible refine Gx.gx ?_) | (with_reducible refine Gx.alloc ?_) | (with_reducible refine Gx.drew ?_) | (with_reducible refine Gx.drewN ?_) | (with_reducible refine Gx.setRow ?_ (by simp)) | (with_reducible refine Gx.setCell ?_ (by simp))))⟩
theorem WordAt_range (b o n c a : Nat) (i : Int) (hi : i < 0 ∨ 64 ≤ i) (hm : n ≤ 9223372036854775807) (hnc : n ≤ c) (hcm : c ≤ 9223372036854775807) (h : a + 96 ≤ n) (w : World) :
    Calls Tryd.prog 52 #[.slice (some ⟨b, o, none⟩) n c, .int .i64 a, .int .i64 i] w fun e w' => e = .returned (.tuple #[.int .i64 0, .int .i64 9]) ∧ ∃ x, w' = gx w x := by
  rcases hi with hi | hi
  · have h1 : decide (i < 0) = true := decide_eq_true hi
    go_enter Tryd.func52, Tryd.ntmps52
    go_wp2_with (first | go_skip | (go_at_call 106; refine (inPlace_good b o n c a hm hnc hcm h _).mono ?_; rintro e w' ⟨rfl, rfl⟩))
    go_ret2
    exact ⟨rfl, (by repeat (first | (with_reducible exact Gx.refl _) | (with_reducible assumption) | (with_reducible refine Gx.gx ?_) | (with_reducible refine Gx.alloc ?_) | (with_reducible refine Gx.drew ?_) | (with_reducible refine Gx.drewN ?_) | (with_reducible refine Gx.setRow ?_ (by simp)) | (with_reducible refine Gx.setCell ?_ (by simp))))⟩
  · have h1 : decide (i < 0) = false := decide_eq_false (by omega)
    have h2 : decide (64 ≤ i) = true := decide_eq_true hi
    go_enter Tryd.func52, Tryd.ntmps52
    go_wp2_with (first | go_skip | (go_at_call 106; refine (inPlace_good b o n c a hm hnc hcm h _).mono ?_; rintro e w' ⟨rfl, rfl⟩))
    go_ret2
    exact ⟨rfl, (by repeat (first | (with_reducible exact Gx.refl _) | (with_reducible assumption) | (with_reducible refine Gx.gx ?_) | (with_reducible refine Gx.alloc ?_) | (with_reducible refine Gx.drew ?_) | (with_reducible refine Gx.drewN ?_) | (with_reducible refine Gx.setRow ?_ (by simp)) | (with_reducible refine Gx.setCell ?_ (by simp))))⟩
set_option maxHeartbeats 600000 in
set_option maxRecDepth 100000 in
theorem WordAt_good (B : List Int) (hB : Bs B) (b o n c a i : Nat) (hi : i < 64) (hm : n ≤ 9223372036854775807) (hnc : n ≤ c) (hcm : c ≤ 9223372036854775807) (h : a + 96 ≤ n) (w : World)
    (hc : ∀ j, j < 96 → w.cell? ⟨b, o + a + j, none⟩ = some (.int .u8 (gw B j))) :
    Calls Tryd.prog 52 #[.slice (some ⟨b, o, none⟩) n c, .int .i64 a, .int .i64 i] w fun e w' => e = .returned (.tuple #[.int .i64 (rdI B i), .int .i64 0]) ∧ ∃ x, w' = gx w x := by
  have hb := rdI_bd hB i
  have b0 := hb.1
  have b1 := hb.2
  have hc' := Lib.hid hc
  have h2 : decide (64 ≤ (i : Int)) = false := decide_eq_false (by omega)
  have h1 : decide ((i : Int) < 0) = false := decide_eq_false (by omega)
  clear hc hb
  go_enter Tryd.func52, Tryd.ntmps52
  go_wp2_with (first | go_skip | (go_at_call 106; refine (inPlace_good b o n c a hm hnc hcm h _).mono ?_; rintro e w' ⟨rfl, rfl⟩) | (go_at_call 109; refine (readWord_any B hB b (o + a) i hi _ ?_).mono ?_; (focus (intro j hj; repeat (first | (with_reducible exact hc'.out j hj) | (with_reducible refine cell_keep_gx ?_) | (with_reducible refine cell_keep_alloc ?_)))); rintro e w' ⟨rfl, z, rfl⟩))
  go_ret2
  exact ⟨rfl, (by repeat (first | (with_reducible exact Gx.refl _) | (with_reducible assumption) | (with_reducible refine Gx.gx ?_) | (with_reducible refine Gx.alloc ?_) | (with_reducible refine Gx.drew ?_) | (with_reducible refine Gx.drewN ?_) | (with_reducible refine Gx.setRow ?_ (by simp)) | (with_reducible refine Gx.setCell ?_ (by simp))))⟩
theorem RWordAt_bad (A : Option Addr) (n c : Nat) (at_ i : Int) (hm : n ≤ 9223372036854775807) (ha : at_ ≤ 9223372036854775807) (w : World) (E : Int) (he : placeE n at_ 96 = E) (hE : E ≠ 0) :
    Calls Tryd.prog 53 #[.slice A n c, .int .i64 at_, .int .i64 i] w fun e w' => e = .returned (.tuple #[.int .i64 0, .int .i64 E]) ∧ ∃ x, w' = gx w x := by
  have hb : (E != 0) = true := by rw [bne_iff_ne]; exact hE
  have HE := Lib.hid he
  clear hE he
  go_enter Tryd.func53, Tryd.ntmps53
  go_wp2_with (go_at_call 108; refine (Place_any A n c at_ 96 hm ha (by decide) _).mono ?_; rw [HE.out]; rintro e w' ⟨rfl, rfl⟩)
  go_ret2
  exact ⟨rfl, (by repeat (first | (with_reducible exact Gx.refl _) | (with_reducible assumption) | (with_reducible refine Gx.gx ?_) | (with_reducible refine Gx.alloc ?_) | (with_reducible refine Gx.drew ?_) | (with_reducible refine Gx.drewN ?_) | (with_reducible refine Gx.setRow ?_ (by simp)) | (with_reducible refine Gx.setCell ?_ (by simp))))⟩
theorem RWordAt_range (A : Option Addr) (n c a : Nat) (i : Int) (hi : i < 0 ∨ 64 ≤ i) (hm : n ≤ 9223372036854775807) (h : a + 96 ≤ n) (w : World) :
    Calls Tryd.prog 53 #[.slice A n c, .int .i64 a, .int .i64 i] w fun e w' => e = .returned (.tuple #[.int .i64 0, .int .i64 9]) ∧ ∃ x, w' = gx w x := by
  have hp : placeE n (a : Int) 96 = 0 := by unfold placeE; rw [if_neg (by omega), if_neg (by omega)]
  have HP := Lib.hid hp
  clear hp
  rcases hi with hi | hi
  · have h1 : decide (i < 0) = true := decide_eq_true hi
    go_enter Tryd.func53, Tryd.ntmps53
    go_wp2_with (first | go_skip | (go_at_call 108; refine (Place_any _ n c a 96 hm (by omega) (by decide) _).mono ?_; rw [HP.out]; rintro e w' ⟨rfl, rfl⟩))
    go_ret2
    exact ⟨rfl, (by repeat (first | (with_reducible exact Gx.refl _) | (with_reducible assumption) | (with_reducible refine Gx.gx ?_) | (with_reducible refine Gx.alloc ?_) | (with_reducible refine Gx.drew ?_) | (with_reducible refine Gx.drewN ?_) | (with_reducible refine Gx.setRow ?_ (by simp)) | (with_reducible refine Gx.setCell ?_ (by simp))))⟩
  · have h1 : decide (i < 0) = false := decide_eq_false (by omega)
    have h2 : decide (63 < i) = true := decide_eq_true (by omega)
    go_enter Tryd.func53, Tryd.ntmps53
    go_wp2_with (first | go_skip | (go_at_call 108; refine (Place_any _ n c a 96 hm (by omega) (by decide) _).mono ?_; rw [HP.out]; rintro e w' ⟨rfl, rfl⟩))
    go_ret2
    exact ⟨rfl, (by repeat (first | (with_reducible exact Gx.refl _) | (with_reducible assumption) | (with_reducible refine Gx.gx ?_) | (with_reducible refine Gx.alloc ?_) | (with_reducible refine Gx.drew ?_) | (with_reducible refine Gx.drewN ?_) | (with_reducible refine Gx.setRow ?_ (by simp)) | (with_reducible refine Gx.setCell ?_ (by simp))))⟩
set_option maxHeartbeats 600000 in
set_option maxRecDepth 100000 in
theorem RWordAt_good (B : List Int) (hB : Bs B) (b o n c a i : Nat) (hi : i < 64) (hm : n ≤ 9223372036854775807) (hnc : n ≤ c) (hcm : c ≤ 9223372036854775807) (h : a + 96 ≤ n) (w : World)
    (hc : ∀ j, j < 96 → w.cell? ⟨b, o + a + j, none⟩ = some (.int .u8 (gw B j))) :
    Calls Tryd.prog 53 #[.slice (some ⟨b, o, none⟩) n c, .int .i64 a, .int .i64 i] w fun e w' => e = .returned (.tuple #[.int .i64 (rdI B i), .int .i64 0]) ∧ ∃ x, w' = gx w x := by
  have hb := rdI_bd hB i
  have b0 := hb.1
  have b1 := hb.2
  have hl1 := rdF_len B
  have hg := gw_rdF B i hi
  have hp : placeE n (a : Int) 96 = 0 := by unfold placeE; rw [if_neg (by omega), if_neg (by omega)]
  have HP := Lib.hid hp
  have hc' := Lib.hid hc
  have hac : ¬ (c = a) := by omega
  have h2 : decide (63 < (i : Int)) = false := decide_eq_false (by omega)
  have h1 : decide ((i : Int) < 0) = false := decide_eq_false (by omega)
  clear hc hb hp
  go_enter Tryd.func53, Tryd.ntmps53
  go_wp2_with (first | go_skip | (go_at_call 108; refine (Place_any _ n c a 96 hm (by omega) (by decide) _).mono ?_; rw [HP.out]; rintro e w' ⟨rfl, rfl⟩) | (go_at_call 105; refine (Rframe_any B hB b (o + a) _ _ (by omega) (by omega) _ ?_).mono ?_; (focus (intro j hj; repeat (first | (with_reducible exact hc'.out j hj) | (with_reducible refine cell_keep_gx ?_) | (with_reducible refine cell_keep_alloc ?_)))); rintro e w' ⟨rfl, z, rfl⟩))
  go_ret2
  exact ⟨rfl, (by repeat (first | (with_reducible exact Gx.refl _) | (with_reducible assumption) | (with_reducible refine Gx.gx ?_) | (with_reducible refine Gx.alloc ?_) | (with_reducible refine Gx.drew ?_) | (with_reducible refine Gx.drewN ?_) | (with_reducible refine Gx.setRow ?_ (by simp)) | (with_reducible refine Gx.setCell ?_ (by simp))))⟩
end Go.Proofs.YtllahhmonoedmaaDoor