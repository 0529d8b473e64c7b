/-
  Texts that this claim leans on, merged: New, Bytes, Put, Pack, Tail, Flaw, Framed.
-/
import Derived.StillTailTactics
import Derived.StillTail
import Derived.Deep.Quiet
import Derived.Deep.RegionWith
import Derived.DeepKeys
import Derived.Test.YthkccbeffonaaaaGreatDoorM1

/-
  New, of the package and of the reference: contracts.
-/
namespace Go.Proofs.YthkccbeffonaaaaGreatDoor
open Go.RowKit

theorem zeroF_fr : Fr zeroF := ⟨zeroF_len, fun k => by rw [zeroF_get]; decide⟩
theorem zeroF_narrow : Narrow zeroF := fun k _ => by rw [zeroF_get]; decide


set_option maxHeartbeats 1000000 in
set_option maxRecDepth 100000 in
theorem New_number (number : Int) (D : List Int) (A : Option Addr) (c : Nat) (h : ¬ (0 ≤ number ∧ number < 4194304)) (w : World) :
    Calls Tryz.prog 70 #[.int .i64 number, .slice A D.length c] w fun e w' => e = .returned (.tuple #[.agg (fc (newF zeroF number D)), .int .i64 (newE number D)]) ∧ ∃ x, w' = gx w x := by
  have he : newE number D = 9 := by unfold newE; rw [if_neg h]
  have hf : newF zeroF number D = zeroF := by unfold newF; rw [he]; rfl
  have He := Lib.hid he
  have Hf := Lib.hid hf
  clear he hf
  rcases Int.lt_or_le number 0 with h0 | h0
  · clear h
    go_enter Tryz.func70, Tryz.ntmps70
    go_wp2_with (first | (refine load_fr rfl _ rfl _ rfl ?_ ?_ ?_ ?_; rotate_left; (focus (repeat (first | (with_reducible exact At.new _ _) | (with_reducible refine At.row ?_) | (with_reducible refine At.gx ?_) | ((with_reducible refine At.new' ?_); focus (simp; done)) | (with_reducible refine At.alloc ?_) | (with_reducible refine At.drew ?_) | (with_reducible exact Is.new _ _ _) | (with_reducible refine Is.row ?_) | (with_reducible refine Is.gx ?_) | ((with_reducible refine Is.new' ?_); focus (simp; done)) | (with_reducible refine Is.alloc ?_) | (with_reducible refine Is.drew ?_)))); (focus (with_reducible (first | exact hl | exact hl1 | exact hl2 | exact hl3 | exact hl4 | exact zeroF_len)))) | (refine store_fr rfl _ _ rfl _ rfl _ rfl ?_ ?_ ?_ ?_ ?_; rotate_left; (focus (repeat (first | (with_reducible exact At.new _ _) | (with_reducible refine At.row ?_) | (with_reducible refine At.gx ?_) | ((with_reducible refine At.new' ?_); focus (simp; done)) | (with_reducible refine At.alloc ?_) | (with_reducible refine At.drew ?_) | (with_reducible exact Is.new _ _ _) | (with_reducible refine Is.row ?_) | (with_reducible refine Is.gx ?_) | ((with_reducible refine Is.new' ?_); focus (simp; done)) | (with_reducible refine Is.alloc ?_) | (with_reducible refine Is.drew ?_)))); (focus (with_reducible (first | exact hl | exact hl1 | exact hl2 | exact hl3 | exact hl4 | exact zeroF_len))); (focus (with_reducible (first | exact hl | exact hl1 | exact hl2 | exact hl3 | exact hl4 | exact zeroF_len)))))
    (refine ret_fr_tmp rfl _ _ _ ?_ rfl rfl ?_ ?_ ?_; rotate_left; (focus (repeat (first | (with_reducible exact At.new _ _) | (with_reducible refine At.row ?_) | (with_reducible refine At.gx ?_) | ((with_reducible refine At.new' ?_); focus (simp; done)) | (with_reducible refine At.alloc ?_) | (with_reducible refine At.drew ?_) | (with_reducible exact Is.new _ _ _) | (with_reducible refine Is.row ?_) | (with_reducible refine Is.gx ?_) | ((with_reducible refine Is.new' ?_); focus (simp; done)) | (with_reducible refine Is.alloc ?_) | (with_reducible refine Is.drew ?_)))); (focus (with_reducible (first | exact hl | exact hl1 | exact hl2 | exact hl3 | exact hl4 | exact zeroF_len))))
    exact ⟨by rw [He.out, Hf.out]; rfl, (by repeat (first | (with_reducible exact Gx.refl _) | (with_reducible assumption) | (with_reducible refine Gx.gx ?_) | (with_reducible refine Gx.alloc ?_) | (with_reducible refine Gx.drew ?_) | (with_reducible refine Gx.drewN ?_) | (with_reducible refine Gx.setRow ?_ (by simp)) | (with_reducible refine Gx.setCell ?_ (by simp))))⟩
  · have h1 : 4194304 ≤ number := by omega
    clear h
    go_enter Tryz.func70, Tryz.ntmps70
    go_wp2_with (first | (refine load_fr rfl _ rfl _ rfl ?_ ?_ ?_ ?_; rotate_left; (focus (repeat (first | (with_reducible exact At.new _ _) | (with_reducible refine At.row ?_) | (with_reducible refine At.gx ?_) | ((with_reducible refine At.new' ?_); focus (simp; done)) | (with_reducible refine At.alloc ?_) | (with_reducible refine At.drew ?_) | (with_reducible exact Is.new _ _ _) | (with_reducible refine Is.row ?_) | (with_reducible refine Is.gx ?_) | ((with_reducible refine Is.new' ?_); focus (simp; done)) | (with_reducible refine Is.alloc ?_) | (with_reducible refine Is.drew ?_)))); (focus (with_reducible (first | exact hl | exact hl1 | exact hl2 | exact hl3 | exact hl4 | exact zeroF_len)))) | (refine store_fr rfl _ _ rfl _ rfl _ rfl ?_ ?_ ?_ ?_ ?_; rotate_left; (focus (repeat (first | (with_reducible exact At.new _ _) | (with_reducible refine At.row ?_) | (with_reducible refine At.gx ?_) | ((with_reducible refine At.new' ?_); focus (simp; done)) | (with_reducible refine At.alloc ?_) | (with_reducible refine At.drew ?_) | (with_reducible exact Is.new _ _ _) | (with_reducible refine Is.row ?_) | (with_reducible refine Is.gx ?_) | ((with_reducible refine Is.new' ?_); focus (simp; done)) | (with_reducible refine Is.alloc ?_) | (with_reducible refine Is.drew ?_)))); (focus (with_reducible (first | exact hl | exact hl1 | exact hl2 | exact hl3 | exact hl4 | exact zeroF_len))); (focus (with_reducible (first | exact hl | exact hl1 | exact hl2 | exact hl3 | exact hl4 | exact zeroF_len)))))
    (refine ret_fr_tmp rfl _ _ _ ?_ rfl rfl ?_ ?_ ?_; rotate_left; (focus (repeat (first | (with_reducible exact At.new _ _) | (with_reducible refine At.row ?_) | (with_reducible refine At.gx ?_) | ((with_reducible refine At.new' ?_); focus (simp; done)) | (with_reducible refine At.alloc ?_) | (with_reducible refine At.drew ?_) | (with_reducible exact Is.new _ _ _) | (with_reducible refine Is.row ?_) | (with_reducible refine Is.gx ?_) | ((with_reducible refine Is.new' ?_); focus (simp; done)) | (with_reducible refine Is.alloc ?_) | (with_reducible refine Is.drew ?_)))); (focus (with_reducible (first | exact hl | exact hl1 | exact hl2 | exact hl3 | exact hl4 | exact zeroF_len))))
    exact ⟨by rw [He.out, Hf.out]; rfl, (by repeat (first | (with_reducible exact Gx.refl _) | (with_reducible assumption) | (with_reducible refine Gx.gx ?_) | (with_reducible refine Gx.alloc ?_) | (with_reducible refine Gx.drew ?_) | (with_reducible refine Gx.drewN ?_) | (with_reducible refine Gx.setRow ?_ (by simp)) | (with_reducible refine Gx.setCell ?_ (by simp))))⟩

set_option maxHeartbeats 1000000 in
set_option maxRecDepth 100000 in
theorem New_size (number : Int) (D : List Int) (A : Option Addr) (c : Nat) (h0 : 0 ≤ number) (h1 : number < 4194304) (hs : D.length ≠ 58) (w : World) :
    Calls Tryz.prog 70 #[.int .i64 number, .slice A D.length c] w fun e w' => e = .returned (.tuple #[.agg (fc (newF zeroF number D)), .int .i64 (newE number D)]) ∧ ∃ x, w' = gx w x := by
  have he : newE number D = 3 := by unfold newE; rw [if_pos ⟨h0, h1⟩, if_neg hs]
  have hf : newF zeroF number D = zeroF := by unfold newF; rw [he]; rfl
  have He := Lib.hid he
  have Hf := Lib.hid hf
  clear he hf
  generalize D.length = n at *
  have hb : ((n : Int) == 58) = false := by rw [beq_eq_false_iff_ne]; omega
  have hb' : ((n : Int) != 58) = true := by rw [bne_iff_ne]; omega
  clear hs
  go_enter Tryz.func70, Tryz.ntmps70
  go_wp2_with (first | (refine load_fr rfl _ rfl _ rfl ?_ ?_ ?_ ?_; rotate_left; (focus (repeat (first | (with_reducible exact At.new _ _) | (with_reducible refine At.row ?_) | (with_reducible refine At.gx ?_) | ((with_reducible refine At.new' ?_); focus (simp; done)) | (with_reducible refine At.alloc ?_) | (with_reducible refine At.drew ?_) | (with_reducible exact Is.new _ _ _) | (with_reducible refine Is.row ?_) | (with_reducible refine Is.gx ?_) | ((with_reducible refine Is.new' ?_); focus (simp; done)) | (with_reducible refine Is.alloc ?_) | (with_reducible refine Is.drew ?_)))); (focus (with_reducible (first | exact hl | exact hl1 | exact hl2 | exact hl3 | exact hl4 | exact zeroF_len)))) | (refine store_fr rfl _ _ rfl _ rfl _ rfl ?_ ?_ ?_ ?_ ?_; rotate_left; (focus (repeat (first | (with_reducible exact At.new _ _) | (with_reducible refine At.row ?_) | (with_reducible refine At.gx ?_) | ((with_reducible refine At.new' ?_); focus (simp; done)) | (with_reducible refine At.alloc ?_) | (with_reducible refine At.drew ?_) | (with_reducible exact Is.new _ _ _) | (with_reducible refine Is.row ?_) | (with_reducible refine Is.gx ?_) | ((with_reducible refine Is.new' ?_); focus (simp; done)) | (with_reducible refine Is.alloc ?_) | (with_reducible refine Is.drew ?_)))); (focus (with_reducible (first | exact hl | exact hl1 | exact hl2 | exact hl3 | exact hl4 | exact zeroF_len))); (focus (with_reducible (first | exact hl | exact hl1 | exact hl2 | exact hl3 | exact hl4 | exact zeroF_len)))))
  (refine ret_fr_tmp rfl _ _ _ ?_ rfl rfl ?_ ?_ ?_; rotate_left; (focus (repeat (first | (with_reducible exact At.new _ _) | (with_reducible refine At.row ?_) | (with_reducible refine At.gx ?_) | ((with_reducible refine At.new' ?_); focus (simp; done)) | (with_reducible refine At.alloc ?_) | (with_reducible refine At.drew ?_) | (with_reducible exact Is.new _ _ _) | (with_reducible refine Is.row ?_) | (with_reducible refine Is.gx ?_) | ((with_reducible refine Is.new' ?_); focus (simp; done)) | (with_reducible refine Is.alloc ?_) | (with_reducible refine Is.drew ?_)))); (focus (with_reducible (first | exact hl | exact hl1 | exact hl2 | exact hl3 | exact hl4 | exact zeroF_len))))
  exact ⟨by rw [He.out, Hf.out]; rfl, (by repeat (first | (with_reducible exact Gx.refl _) | (with_reducible assumption) | (with_reducible refine Gx.gx ?_) | (with_reducible refine Gx.alloc ?_) | (with_reducible refine Gx.drew ?_) | (with_reducible refine Gx.drewN ?_) | (with_reducible refine Gx.setRow ?_ (by simp)) | (with_reducible refine Gx.setCell ?_ (by simp))))⟩

set_option maxHeartbeats 2000000 in
set_option maxRecDepth 100000 in
theorem New_go (number : Int) (D : List Int) (b o c : Nat) (h0 : 0 ≤ number) (h1 : number < 4194304) (hs : D.length = 58) (w : World) (hT : Tab w)
    (hc : ∀ j, j < 58 → w.cell? ⟨b, o + j, none⟩ = some (.int .i64 (gw D j))) :
    Calls Tryz.prog 70 #[.int .i64 number, .slice (some ⟨b, o, none⟩) 58 c] w fun e w' => e = .returned (.tuple #[.agg (fc (newF zeroF number D)), .int .i64 (newE number D)]) ∧ ∃ x, w' = gx w x := by
  have hbw : b < w.heap.size := World.block_lt_of_cell? w _ (hc 0 (by omega))
  have hc' := Lib.hid hc
  clear hc
  have Hs := Lib.hid hs
  clear hs
  have hl := zeroF_len
  go_enter Tryz.func70, Tryz.ntmps70
  go_wp2_with (first | (refine load_fr rfl _ rfl _ rfl ?_ ?_ ?_ ?_; rotate_left; (focus (repeat (first | (with_reducible exact At.new _ _) | (with_reducible refine At.row ?_) | (with_reducible refine At.gx ?_) | ((with_reducible refine At.new' ?_); focus (simp; done)) | (with_reducible refine At.alloc ?_) | (with_reducible refine At.drew ?_) | (with_reducible exact Is.new _ _ _) | (with_reducible refine Is.row ?_) | (with_reducible refine Is.gx ?_) | ((with_reducible refine Is.new' ?_); focus (simp; done)) | (with_reducible refine Is.alloc ?_) | (with_reducible refine Is.drew ?_)))); (focus (with_reducible (first | exact hl | exact hl1 | exact hl2 | exact hl3 | exact hl4 | exact zeroF_len)))) | (refine store_fr rfl _ _ rfl _ rfl _ rfl ?_ ?_ ?_ ?_ ?_; rotate_left; (focus (repeat (first | (with_reducible exact At.new _ _) | (with_reducible refine At.row ?_) | (with_reducible refine At.gx ?_) | ((with_reducible refine At.new' ?_); focus (simp; done)) | (with_reducible refine At.alloc ?_) | (with_reducible refine At.drew ?_) | (with_reducible exact Is.new _ _ _) | (with_reducible refine Is.row ?_) | (with_reducible refine Is.gx ?_) | ((with_reducible refine Is.new' ?_); focus (simp; done)) | (with_reducible refine Is.alloc ?_) | (with_reducible refine Is.drew ?_)))); (focus (with_reducible (first | exact hl | exact hl1 | exact hl2 | exact hl3 | exact hl4 | exact zeroF_len))); (focus (with_reducible (first | exact hl | exact hl1 | exact hl2 | exact hl3 | exact hl4 | exact zeroF_len)))))
  go_loopw [30] (fun i wr => ∃ (k : Nat), k ≤ 58 ∧ i = .int .i64 k ∧ inTo D k = true ∧ wr = (w.alloc (.cells (fc zeroF) 57)).alloc (.cells (fc (newTo zeroF number D k)) 57)) (fun i _ => 58 - (intOf i).toNat)
  case atStart => exact ⟨0, Nat.zero_le _, rfl, rfl, rfl⟩
  case round =>
    obtain ⟨k, hk, rfl, hin, rfl⟩ := hrel
    by_cases hlt : k < 58
    · have hcell := hc'.out k hlt
      have hlk : (newTo zeroF number D k).length = 64 := by rw [newTo_len]; exact zeroF_len
      have hlt' : 3 + k < 64 := by omega
      by_cases hr : 0 ≤ gw D k ∧ gw D k ≤ 2047
      · have hn : Hid (inTo D (k + 1) = true) := by
          show (inTo D k && decide _) = true
          rw [hin, decide_eq_true hr]; rfl
        clear hin
        have r0 := hr.1
        have r1 := hr.2
        clear hr
        have e : (newTo zeroF number D k).set (3 + k) (gw D k) = newTo zeroF number D (k + 1) := rfl
        go_wp2_with (first | (refine load_fr rfl _ rfl _ rfl ?_ ?_ ?_ ?_; rotate_left; (focus (repeat (first | (with_reducible exact At.new _ _) | (with_reducible refine At.row ?_) | (with_reducible refine At.gx ?_) | ((with_reducible refine At.new' ?_); focus (simp; done)) | (with_reducible refine At.alloc ?_) | (with_reducible refine At.drew ?_) | (with_reducible exact Is.new _ _ _) | (with_reducible refine Is.row ?_) | (with_reducible refine Is.gx ?_) | ((with_reducible refine Is.new' ?_); focus (simp; done)) | (with_reducible refine Is.alloc ?_) | (with_reducible refine Is.drew ?_)))); (focus (with_reducible (first | exact hl | exact hl1 | exact hl2 | exact hl3 | exact hl4 | exact zeroF_len)))) | (refine store_fr rfl _ _ rfl _ rfl _ rfl ?_ ?_ ?_ ?_ ?_; rotate_left; (focus (repeat (first | (with_reducible exact At.new _ _) | (with_reducible refine At.row ?_) | (with_reducible refine At.gx ?_) | ((with_reducible refine At.new' ?_); focus (simp; done)) | (with_reducible refine At.alloc ?_) | (with_reducible refine At.drew ?_) | (with_reducible exact Is.new _ _ _) | (with_reducible refine Is.row ?_) | (with_reducible refine Is.gx ?_) | ((with_reducible refine Is.new' ?_); focus (simp; done)) | (with_reducible refine Is.alloc ?_) | (with_reducible refine Is.drew ?_)))); (focus (with_reducible (first | exact hl | exact hl1 | exact hl2 | exact hl3 | exact hl4 | exact zeroF_len))); (focus (with_reducible (first | exact hl | exact hl1 | exact hl2 | exact hl3 | exact hl4 | exact zeroF_len)))))
        go_roundw
        case rel => exact ⟨k + 1, by omega, by go_num, hn.out, rfl⟩
        case measure => simp [intOf]; omega
      · have he : newE number D = 9 := by
          unfold newE
          rw [if_pos ⟨h0, h1⟩, if_pos Hs.out, if_neg]
          intro h
          exact hr ((inTo_true D 58).1 h k hlt)
        have hf : newF zeroF number D = zeroF := by unfold newF; rw [he]; rfl
        have He := Lib.hid he
        have Hf := Lib.hid hf
        clear he hf hin
        rcases Int.lt_or_le (gw D k) 0 with r0 | r0
        · clear hr
          go_wp2_with (first | (refine load_fr rfl _ rfl _ rfl ?_ ?_ ?_ ?_; rotate_left; (focus (repeat (first | (with_reducible exact At.new _ _) | (with_reducible refine At.row ?_) | (with_reducible refine At.gx ?_) | ((with_reducible refine At.new' ?_); focus (simp; done)) | (with_reducible refine At.alloc ?_) | (with_reducible refine At.drew ?_) | (with_reducible exact Is.new _ _ _) | (with_reducible refine Is.row ?_) | (with_reducible refine Is.gx ?_) | ((with_reducible refine Is.new' ?_); focus (simp; done)) | (with_reducible refine Is.alloc ?_) | (with_reducible refine Is.drew ?_)))); (focus (with_reducible (first | exact hl | exact hl1 | exact hl2 | exact hl3 | exact hl4 | exact zeroF_len)))) | (refine store_fr rfl _ _ rfl _ rfl _ rfl ?_ ?_ ?_ ?_ ?_; rotate_left; (focus (repeat (first | (with_reducible exact At.new _ _) | (with_reducible refine At.row ?_) | (with_reducible refine At.gx ?_) | ((with_reducible refine At.new' ?_); focus (simp; done)) | (with_reducible refine At.alloc ?_) | (with_reducible refine At.drew ?_) | (with_reducible exact Is.new _ _ _) | (with_reducible refine Is.row ?_) | (with_reducible refine Is.gx ?_) | ((with_reducible refine Is.new' ?_); focus (simp; done)) | (with_reducible refine Is.alloc ?_) | (with_reducible refine Is.drew ?_)))); (focus (with_reducible (first | exact hl | exact hl1 | exact hl2 | exact hl3 | exact hl4 | exact zeroF_len))); (focus (with_reducible (first | exact hl | exact hl1 | exact hl2 | exact hl3 | exact hl4 | exact zeroF_len)))))
          (refine ret_fr_tmp rfl _ _ _ ?_ rfl rfl ?_ ?_ ?_; rotate_left; (focus (repeat (first | (with_reducible exact At.new _ _) | (with_reducible refine At.row ?_) | (with_reducible refine At.gx ?_) | ((with_reducible refine At.new' ?_); focus (simp; done)) | (with_reducible refine At.alloc ?_) | (with_reducible refine At.drew ?_) | (with_reducible exact Is.new _ _ _) | (with_reducible refine Is.row ?_) | (with_reducible refine Is.gx ?_) | ((with_reducible refine Is.new' ?_); focus (simp; done)) | (with_reducible refine Is.alloc ?_) | (with_reducible refine Is.drew ?_)))); (focus (with_reducible (first | exact hl | exact hl1 | exact hl2 | exact hl3 | exact hl4 | exact zeroF_len))))
          exact ⟨by rw [He.out, Hf.out]; rfl, (by repeat (first | (with_reducible exact Gx.refl _) | (with_reducible assumption) | (with_reducible refine Gx.gx ?_) | (with_reducible refine Gx.alloc ?_) | (with_reducible refine Gx.drew ?_) | (with_reducible refine Gx.drewN ?_) | (with_reducible refine Gx.setRow ?_ (by simp)) | (with_reducible refine Gx.setCell ?_ (by simp))))⟩
        · have r1 : 2048 ≤ gw D k := by omega
          clear hr
          go_wp2_with (first | (refine load_fr rfl _ rfl _ rfl ?_ ?_ ?_ ?_; rotate_left; (focus (repeat (first | (with_reducible exact At.new _ _) | (with_reducible refine At.row ?_) | (with_reducible refine At.gx ?_) | ((with_reducible refine At.new' ?_); focus (simp; done)) | (with_reducible refine At.alloc ?_) | (with_reducible refine At.drew ?_) | (with_reducible exact Is.new _ _ _) | (with_reducible refine Is.row ?_) | (with_reducible refine Is.gx ?_) | ((with_reducible refine Is.new' ?_); focus (simp; done)) | (with_reducible refine Is.alloc ?_) | (with_reducible refine Is.drew ?_)))); (focus (with_reducible (first | exact hl | exact hl1 | exact hl2 | exact hl3 | exact hl4 | exact zeroF_len)))) | (refine store_fr rfl _ _ rfl _ rfl _ rfl ?_ ?_ ?_ ?_ ?_; rotate_left; (focus (repeat (first | (with_reducible exact At.new _ _) | (with_reducible refine At.row ?_) | (with_reducible refine At.gx ?_) | ((with_reducible refine At.new' ?_); focus (simp; done)) | (with_reducible refine At.alloc ?_) | (with_reducible refine At.drew ?_) | (with_reducible exact Is.new _ _ _) | (with_reducible refine Is.row ?_) | (with_reducible refine Is.gx ?_) | ((with_reducible refine Is.new' ?_); focus (simp; done)) | (with_reducible refine Is.alloc ?_) | (with_reducible refine Is.drew ?_)))); (focus (with_reducible (first | exact hl | exact hl1 | exact hl2 | exact hl3 | exact hl4 | exact zeroF_len))); (focus (with_reducible (first | exact hl | exact hl1 | exact hl2 | exact hl3 | exact hl4 | exact zeroF_len)))))
          (refine ret_fr_tmp rfl _ _ _ ?_ rfl rfl ?_ ?_ ?_; rotate_left; (focus (repeat (first | (with_reducible exact At.new _ _) | (with_reducible refine At.row ?_) | (with_reducible refine At.gx ?_) | ((with_reducible refine At.new' ?_); focus (simp; done)) | (with_reducible refine At.alloc ?_) | (with_reducible refine At.drew ?_) | (with_reducible exact Is.new _ _ _) | (with_reducible refine Is.row ?_) | (with_reducible refine Is.gx ?_) | ((with_reducible refine Is.new' ?_); focus (simp; done)) | (with_reducible refine Is.alloc ?_) | (with_reducible refine Is.drew ?_)))); (focus (with_reducible (first | exact hl | exact hl1 | exact hl2 | exact hl3 | exact hl4 | exact zeroF_len))))
          exact ⟨by rw [He.out, Hf.out]; rfl, (by repeat (first | (with_reducible exact Gx.refl _) | (with_reducible assumption) | (with_reducible refine Gx.gx ?_) | (with_reducible refine Gx.alloc ?_) | (with_reducible refine Gx.drew ?_) | (with_reducible refine Gx.drewN ?_) | (with_reducible refine Gx.setRow ?_ (by simp)) | (with_reducible refine Gx.setCell ?_ (by simp))))⟩
    · obtain rfl : k = 58 := by omega
      have he : newE number D = 0 := by unfold newE; rw [if_pos ⟨h0, h1⟩, if_pos Hs.out, if_pos hin]
      have hf : newF zeroF number D = sealI (newTo zeroF number D 58) := by unfold newF; rw [he]; rfl
      have He := Lib.hid he
      have Hf := Lib.hid hf
      have hfr := newTo_fr zeroF_fr number D h0 h1 58 (by omega) hin
      have hna := newTo_narrow zeroF_len zeroF_narrow number D h0 h1 58 (by omega) hin
      clear he hf hin
      generalize newTo zeroF number D 58 = G at *
      have hl1 := hfr.len
      have hl2 : (sealI G).length = 64 := by rw [sealI_len]; exact hl1
      go_wp2_with (first | (refine load_fr rfl _ rfl _ rfl ?_ ?_ ?_ ?_; rotate_left; (focus (repeat (first | (with_reducible exact At.new _ _) | (with_reducible refine At.row ?_) | (with_reducible refine At.gx ?_) | ((with_reducible refine At.new' ?_); focus (simp; done)) | (with_reducible refine At.alloc ?_) | (with_reducible refine At.drew ?_) | (with_reducible exact Is.new _ _ _) | (with_reducible refine Is.row ?_) | (with_reducible refine Is.gx ?_) | ((with_reducible refine Is.new' ?_); focus (simp; done)) | (with_reducible refine Is.alloc ?_) | (with_reducible refine Is.drew ?_)))); (focus (with_reducible (first | exact hl | exact hl1 | exact hl2 | exact hl3 | exact hl4 | exact zeroF_len)))) | (refine store_fr rfl _ _ rfl _ rfl _ rfl ?_ ?_ ?_ ?_ ?_; rotate_left; (focus (repeat (first | (with_reducible exact At.new _ _) | (with_reducible refine At.row ?_) | (with_reducible refine At.gx ?_) | ((with_reducible refine At.new' ?_); focus (simp; done)) | (with_reducible refine At.alloc ?_) | (with_reducible refine At.drew ?_) | (with_reducible exact Is.new _ _ _) | (with_reducible refine Is.row ?_) | (with_reducible refine Is.gx ?_) | ((with_reducible refine Is.new' ?_); focus (simp; done)) | (with_reducible refine Is.alloc ?_) | (with_reducible refine Is.drew ?_)))); (focus (with_reducible (first | exact hl | exact hl1 | exact hl2 | exact hl3 | exact hl4 | exact zeroF_len))); (focus (with_reducible (first | exact hl | exact hl1 | exact hl2 | exact hl3 | exact hl4 | exact zeroF_len)))) | (go_at_call 127; refine (sealed_any G hfr hna _ ?_).mono ?_; (focus (repeat (first | (with_reducible exact hT) | (with_reducible assumption) | (with_reducible refine Tab.gx ?_ _) | (with_reducible refine Tab.alloc ?_ _)))); rintro e w' ⟨rfl, z, rfl⟩))
      (refine ret_fr_tmp rfl _ _ _ ?_ rfl rfl ?_ ?_ ?_; rotate_left; (focus (repeat (first | (with_reducible exact At.new _ _) | (with_reducible refine At.row ?_) | (with_reducible refine At.gx ?_) | ((with_reducible refine At.new' ?_); focus (simp; done)) | (with_reducible refine At.alloc ?_) | (with_reducible refine At.drew ?_) | (with_reducible exact Is.new _ _ _) | (with_reducible refine Is.row ?_) | (with_reducible refine Is.gx ?_) | ((with_reducible refine Is.new' ?_); focus (simp; done)) | (with_reducible refine Is.alloc ?_) | (with_reducible refine Is.drew ?_)))); (focus (with_reducible (first | exact hl | exact hl1 | exact hl2 | exact hl3 | exact hl4 | exact zeroF_len))))
      exact ⟨by rw [He.out, Hf.out]; rfl, (by repeat (first | (with_reducible exact Gx.refl _) | (with_reducible assumption) | (with_reducible refine Gx.gx ?_) | (with_reducible refine Gx.alloc ?_) | (with_reducible refine Gx.drew ?_) | (with_reducible refine Gx.drewN ?_) | (with_reducible refine Gx.setRow ?_ (by simp)) | (with_reducible refine Gx.setCell ?_ (by simp))))⟩

theorem New_any (number : Int) (D : List Int) (A : Option Addr) (c : Nat) (w : World) (hT : Tab w)
    (hc : D.length = 58 → ∃ b o, A = some ⟨b, o, none⟩ ∧ ∀ j, j < 58 → w.cell? ⟨b, o + j, none⟩ = some (.int .i64 (gw D j))) :
    Calls Tryz.prog 70 #[.int .i64 number, .slice A D.length c] w fun e w' => e = .returned (.tuple #[.agg (fc (newF zeroF number D)), .int .i64 (newE number D)]) ∧ ∃ x, w' = gx w x := by
  by_cases h : 0 ≤ number ∧ number < 4194304
  · by_cases hs : D.length = 58
    · obtain ⟨b, o, rfl, hcell⟩ := hc hs
      have := New_go number D b o c h.1 h.2 hs w hT hcell
      rw [← hs] at this
      exact this
    · exact New_size number D A c h.1 h.2 hs w
  · exact New_number number D A c h w

set_option maxHeartbeats 1000000 in
set_option maxRecDepth 100000 in
theorem RNew_number (number : Int) (D : List Int) (A : Option Addr) (c : Nat) (h : ¬ (0 ≤ number ∧ number < 4194304)) (w : World) :
    Calls Tryz.prog 80 #[.int .i64 number, .slice A D.length c] w fun e w' => e = .returned (.tuple #[.agg (fc (newF zeroF number D)), .int .i64 (newE number D)]) ∧ ∃ x, w' = gx w x := by
  have he : newE number D = 9 := by unfold newE; rw [if_neg h]
  have hf : newF zeroF number D = zeroF := by unfold newF; rw [he]; rfl
  have He := Lib.hid he
  have Hf := Lib.hid hf
  clear he hf
  rcases Int.lt_or_le number 0 with h0 | h0
  · clear h
    go_enter Tryz.func80, Tryz.ntmps80
    go_wp2_with (first | (refine load_fr rfl _ rfl _ rfl ?_ ?_ ?_ ?_; rotate_left; (focus (repeat (first | (with_reducible exact At.new _ _) | (with_reducible refine At.row ?_) | (with_reducible refine At.gx ?_) | ((with_reducible refine At.new' ?_); focus (simp; done)) | (with_reducible refine At.alloc ?_) | (with_reducible refine At.drew ?_) | (with_reducible exact Is.new _ _ _) | (with_reducible refine Is.row ?_) | (with_reducible refine Is.gx ?_) | ((with_reducible refine Is.new' ?_); focus (simp; done)) | (with_reducible refine Is.alloc ?_) | (with_reducible refine Is.drew ?_)))); (focus (with_reducible (first | exact hl | exact hl1 | exact hl2 | exact hl3 | exact hl4 | exact zeroF_len)))) | (refine store_fr rfl _ _ rfl _ rfl _ rfl ?_ ?_ ?_ ?_ ?_; rotate_left; (focus (repeat (first | (with_reducible exact At.new _ _) | (with_reducible refine At.row ?_) | (with_reducible refine At.gx ?_) | ((with_reducible refine At.new' ?_); focus (simp; done)) | (with_reducible refine At.alloc ?_) | (with_reducible refine At.drew ?_) | (with_reducible exact Is.new _ _ _) | (with_reducible refine Is.row ?_) | (with_reducible refine Is.gx ?_) | ((with_reducible refine Is.new' ?_); focus (simp; done)) | (with_reducible refine Is.alloc ?_) | (with_reducible refine Is.drew ?_)))); (focus (with_reducible (first | exact hl | exact hl1 | exact hl2 | exact hl3 | exact hl4 | exact zeroF_len))); (focus (with_reducible (first | exact hl | exact hl1 | exact hl2 | exact hl3 | exact hl4 | exact zeroF_len)))))
    (refine ret_fr_tmp rfl _ _ _ ?_ rfl rfl ?_ ?_ ?_; rotate_left; (focus (repeat (first | (with_reducible exact At.new _ _) | (with_reducible refine At.row ?_) | (with_reducible refine At.gx ?_) | ((with_reducible refine At.new' ?_); focus (simp; done)) | (with_reducible refine At.alloc ?_) | (with_reducible refine At.drew ?_) | (with_reducible exact Is.new _ _ _) | (with_reducible refine Is.row ?_) | (with_reducible refine Is.gx ?_) | ((with_reducible refine Is.new' ?_); focus (simp; done)) | (with_reducible refine Is.alloc ?_) | (with_reducible refine Is.drew ?_)))); (focus (with_reducible (first | exact hl | exact hl1 | exact hl2 | exact hl3 | exact hl4 | exact zeroF_len))))
    exact ⟨by rw [He.out, Hf.out]; rfl, (by repeat (first | (with_reducible exact Gx.refl _) | (with_reducible assumption) | (with_reducible refine Gx.gx ?_) | (with_reducible refine Gx.alloc ?_) | (with_reducible refine Gx.drew ?_) | (with_reducible refine Gx.drewN ?_) | (with_reducible refine Gx.setRow ?_ (by simp)) | (with_reducible refine Gx.setCell ?_ (by simp))))⟩
  · have h1 : 4194304 ≤ number := by omega
    clear h
    go_enter Tryz.func80, Tryz.ntmps80
    go_wp2_with (first | (refine load_fr rfl _ rfl _ rfl ?_ ?_ ?_ ?_; rotate_left; (focus (repeat (first | (with_reducible exact At.new _ _) | (with_reducible refine At.row ?_) | (with_reducible refine At.gx ?_) | ((with_reducible refine At.new' ?_); focus (simp; done)) | (with_reducible refine At.alloc ?_) | (with_reducible refine At.drew ?_) | (with_reducible exact Is.new _ _ _) | (with_reducible refine Is.row ?_) | (with_reducible refine Is.gx ?_) | ((with_reducible refine Is.new' ?_); focus (simp; done)) | (with_reducible refine Is.alloc ?_) | (with_reducible refine Is.drew ?_)))); (focus (with_reducible (first | exact hl | exact hl1 | exact hl2 | exact hl3 | exact hl4 | exact zeroF_len)))) | (refine store_fr rfl _ _ rfl _ rfl _ rfl ?_ ?_ ?_ ?_ ?_; rotate_left; (focus (repeat (first | (with_reducible exact At.new _ _) | (with_reducible refine At.row ?_) | (with_reducible refine At.gx ?_) | ((with_reducible refine At.new' ?_); focus (simp; done)) | (with_reducible refine At.alloc ?_) | (with_reducible refine At.drew ?_) | (with_reducible exact Is.new _ _ _) | (with_reducible refine Is.row ?_) | (with_reducible refine Is.gx ?_) | ((with_reducible refine Is.new' ?_); focus (simp; done)) | (with_reducible refine Is.alloc ?_) | (with_reducible refine Is.drew ?_)))); (focus (with_reducible (first | exact hl | exact hl1 | exact hl2 | exact hl3 | exact hl4 | exact zeroF_len))); (focus (with_reducible (first | exact hl | exact hl1 | exact hl2 | exact hl3 | exact hl4 | exact zeroF_len)))))
    (refine ret_fr_tmp rfl _ _ _ ?_ rfl rfl ?_ ?_ ?_; rotate_left; (focus (repeat (first | (with_reducible exact At.new _ _) | (with_reducible refine At.row ?_) | (with_reducible refine At.gx ?_) | ((with_reducible refine At.new' ?_); focus (simp; done)) | (with_reducible refine At.alloc ?_) | (with_reducible refine At.drew ?_) | (with_reducible exact Is.new _ _ _) | (with_reducible refine Is.row ?_) | (with_reducible refine Is.gx ?_) | ((with_reducible refine Is.new' ?_); focus (simp; done)) | (with_reducible refine Is.alloc ?_) | (with_reducible refine Is.drew ?_)))); (focus (with_reducible (first | exact hl | exact hl1 | exact hl2 | exact hl3 | exact hl4 | exact zeroF_len))))
    exact ⟨by rw [He.out, Hf.out]; rfl, (by repeat (first | (with_reducible exact Gx.refl _) | (with_reducible assumption) | (with_reducible refine Gx.gx ?_) | (with_reducible refine Gx.alloc ?_) | (with_reducible refine Gx.drew ?_) | (with_reducible refine Gx.drewN ?_) | (with_reducible refine Gx.setRow ?_ (by simp)) | (with_reducible refine Gx.setCell ?_ (by simp))))⟩

set_option maxHeartbeats 1000000 in
set_option maxRecDepth 100000 in
theorem RNew_size (number : Int) (D : List Int) (A : Option Addr) (c : Nat) (h0 : 0 ≤ number) (h1 : number < 4194304) (hs : D.length ≠ 58) (w : World) :
    Calls Tryz.prog 80 #[.int .i64 number, .slice A D.length c] w fun e w' => e = .returned (.tuple #[.agg (fc (newF zeroF number D)), .int .i64 (newE number D)]) ∧ ∃ x, w' = gx w x := by
  have he : newE number D = 3 := by unfold newE; rw [if_pos ⟨h0, h1⟩, if_neg hs]
  have hf : newF zeroF number D = zeroF := by unfold newF; rw [he]; rfl
  have He := Lib.hid he
  have Hf := Lib.hid hf
  clear he hf
  generalize D.length = n at *
  have hb : ((n : Int) == 58) = false := by rw [beq_eq_false_iff_ne]; omega
  have hb' : ((n : Int) != 58) = true := by rw [bne_iff_ne]; omega
  clear hs
  go_enter Tryz.func80, Tryz.ntmps80
  go_wp2_with (first | (refine load_fr rfl _ rfl _ rfl ?_ ?_ ?_ ?_; rotate_left; (focus (repeat (first | (with_reducible exact At.new _ _) | (with_reducible refine At.row ?_) | (with_reducible refine At.gx ?_) | ((with_reducible refine At.new' ?_); focus (simp; done)) | (with_reducible refine At.alloc ?_) | (with_reducible refine At.drew ?_) | (with_reducible exact Is.new _ _ _) | (with_reducible refine Is.row ?_) | (with_reducible refine Is.gx ?_) | ((with_reducible refine Is.new' ?_); focus (simp; done)) | (with_reducible refine Is.alloc ?_) | (with_reducible refine Is.drew ?_)))); (focus (with_reducible (first | exact hl | exact hl1 | exact hl2 | exact hl3 | exact hl4 | exact zeroF_len)))) | (refine store_fr rfl _ _ rfl _ rfl _ rfl ?_ ?_ ?_ ?_ ?_; rotate_left; (focus (repeat (first | (with_reducible exact At.new _ _) | (with_reducible refine At.row ?_) | (with_reducible refine At.gx ?_) | ((with_reducible refine At.new' ?_); focus (simp; done)) | (with_reducible refine At.alloc ?_) | (with_reducible refine At.drew ?_) | (with_reducible exact Is.new _ _ _) | (with_reducible refine Is.row ?_) | (with_reducible refine Is.gx ?_) | ((with_reducible refine Is.new' ?_); focus (simp; done)) | (with_reducible refine Is.alloc ?_) | (with_reducible refine Is.drew ?_)))); (focus (with_reducible (first | exact hl | exact hl1 | exact hl2 | exact hl3 | exact hl4 | exact zeroF_len))); (focus (with_reducible (first | exact hl | exact hl1 | exact hl2 | exact hl3 | exact hl4 | exact zeroF_len)))))
  (refine ret_fr_tmp rfl _ _ _ ?_ rfl rfl ?_ ?_ ?_; rotate_left; (focus (repeat (first | (with_reducible exact At.new _ _) | (with_reducible refine At.row ?_) | (with_reducible refine At.gx ?_) | ((with_reducible refine At.new' ?_); focus (simp; done)) | (with_reducible refine At.alloc ?_) | (with_reducible refine At.drew ?_) | (with_reducible exact Is.new _ _ _) | (with_reducible refine Is.row ?_) | (with_reducible refine Is.gx ?_) | ((with_reducible refine Is.new' ?_); focus (simp; done)) | (with_reducible refine Is.alloc ?_) | (with_reducible refine Is.drew ?_)))); (focus (with_reducible (first | exact hl | exact hl1 | exact hl2 | exact hl3 | exact hl4 | exact zeroF_len))))
  exact ⟨by rw [He.out, Hf.out]; rfl, (by repeat (first | (with_reducible exact Gx.refl _) | (with_reducible assumption) | (with_reducible refine Gx.gx ?_) | (with_reducible refine Gx.alloc ?_) | (with_reducible refine Gx.drew ?_) | (with_reducible refine Gx.drewN ?_) | (with_reducible refine Gx.setRow ?_ (by simp)) | (with_reducible refine Gx.setCell ?_ (by simp))))⟩

set_option maxHeartbeats 2000000 in
set_option maxRecDepth 100000 in
theorem RNew_go (number : Int) (D : List Int) (b o c : Nat) (h0 : 0 ≤ number) (h1 : number < 4194304) (hs : D.length = 58) (w : World) (_hT : Tab w)
    (hc : ∀ j, j < 58 → w.cell? ⟨b, o + j, none⟩ = some (.int .i64 (gw D j))) :
    Calls Tryz.prog 80 #[.int .i64 number, .slice (some ⟨b, o, none⟩) 58 c] w fun e w' => e = .returned (.tuple #[.agg (fc (newF zeroF number D)), .int .i64 (newE number D)]) ∧ ∃ x, w' = gx w x := by
  have hbw : b < w.heap.size := World.block_lt_of_cell? w _ (hc 0 (by omega))
  have hc' := Lib.hid hc
  clear hc
  have Hs := Lib.hid hs
  clear hs
  have hl := zeroF_len
  go_enter Tryz.func80, Tryz.ntmps80
  go_wp2_with (first | (refine load_fr rfl _ rfl _ rfl ?_ ?_ ?_ ?_; rotate_left; (focus (repeat (first | (with_reducible exact At.new _ _) | (with_reducible refine At.row ?_) | (with_reducible refine At.gx ?_) | ((with_reducible refine At.new' ?_); focus (simp; done)) | (with_reducible refine At.alloc ?_) | (with_reducible refine At.drew ?_) | (with_reducible exact Is.new _ _ _) | (with_reducible refine Is.row ?_) | (with_reducible refine Is.gx ?_) | ((with_reducible refine Is.new' ?_); focus (simp; done)) | (with_reducible refine Is.alloc ?_) | (with_reducible refine Is.drew ?_)))); (focus (with_reducible (first | exact hl | exact hl1 | exact hl2 | exact hl3 | exact hl4 | exact zeroF_len)))) | (refine store_fr rfl _ _ rfl _ rfl _ rfl ?_ ?_ ?_ ?_ ?_; rotate_left; (focus (repeat (first | (with_reducible exact At.new _ _) | (with_reducible refine At.row ?_) | (with_reducible refine At.gx ?_) | ((with_reducible refine At.new' ?_); focus (simp; done)) | (with_reducible refine At.alloc ?_) | (with_reducible refine At.drew ?_) | (with_reducible exact Is.new _ _ _) | (with_reducible refine Is.row ?_) | (with_reducible refine Is.gx ?_) | ((with_reducible refine Is.new' ?_); focus (simp; done)) | (with_reducible refine Is.alloc ?_) | (with_reducible refine Is.drew ?_)))); (focus (with_reducible (first | exact hl | exact hl1 | exact hl2 | exact hl3 | exact hl4 | exact zeroF_len))); (focus (with_reducible (first | exact hl | exact hl1 | exact hl2 | exact hl3 | exact hl4 | exact zeroF_len)))))
  go_loopw [31] (fun i wr => ∃ (k : Nat), k ≤ 58 ∧ i = .int .i64 k ∧ inTo D k = true ∧ wr = (w.alloc (.cells (fc zeroF) 57)).alloc (.cells (fc (newTo zeroF number D k)) 57)) (fun i _ => 58 - (intOf i).toNat)
  case atStart => exact ⟨0, Nat.zero_le _, rfl, rfl, rfl⟩
  case round =>
    obtain ⟨k, hk, rfl, hin, rfl⟩ := hrel
    by_cases hlt : k < 58
    · have hcell := hc'.out k hlt
      have hlk : (newTo zeroF number D k).length = 64 := by rw [newTo_len]; exact zeroF_len
      have hlt' : 3 + k < 64 := by omega
      by_cases hr : 0 ≤ gw D k ∧ gw D k ≤ 2047
      · have hn : Hid (inTo D (k + 1) = true) := by
          show (inTo D k && decide _) = true
          rw [hin, decide_eq_true hr]; rfl
        clear hin
        have r0 := hr.1
        have r1 := hr.2
        clear hr
        have e : (newTo zeroF number D k).set (3 + k) (gw D k) = newTo zeroF number D (k + 1) := rfl
        go_wp2_with (first | (refine load_fr rfl _ rfl _ rfl ?_ ?_ ?_ ?_; rotate_left; (focus (repeat (first | (with_reducible exact At.new _ _) | (with_reducible refine At.row ?_) | (with_reducible refine At.gx ?_) | ((with_reducible refine At.new' ?_); focus (simp; done)) | (with_reducible refine At.alloc ?_) | (with_reducible refine At.drew ?_) | (with_reducible exact Is.new _ _ _) | (with_reducible refine Is.row ?_) | (with_reducible refine Is.gx ?_) | ((with_reducible refine Is.new' ?_); focus (simp; done)) | (with_reducible refine Is.alloc ?_) | (with_reducible refine Is.drew ?_)))); (focus (with_reducible (first | exact hl | exact hl1 | exact hl2 | exact hl3 | exact hl4 | exact zeroF_len)))) | (refine store_fr rfl _ _ rfl _ rfl _ rfl ?_ ?_ ?_ ?_ ?_; rotate_left; (focus (repeat (first | (with_reducible exact At.new _ _) | (with_reducible refine At.row ?_) | (with_reducible refine At.gx ?_) | ((with_reducible refine At.new' ?_); focus (simp; done)) | (with_reducible refine At.alloc ?_) | (with_reducible refine At.drew ?_) | (with_reducible exact Is.new _ _ _) | (with_reducible refine Is.row ?_) | (with_reducible refine Is.gx ?_) | ((with_reducible refine Is.new' ?_); focus (simp; done)) | (with_reducible refine Is.alloc ?_) | (with_reducible refine Is.drew ?_)))); (focus (with_reducible (first | exact hl | exact hl1 | exact hl2 | exact hl3 | exact hl4 | exact zeroF_len))); (focus (with_reducible (first | exact hl | exact hl1 | exact hl2 | exact hl3 | exact hl4 | exact zeroF_len)))))
        go_roundw
        case rel => exact ⟨k + 1, by omega, by go_num, hn.out, rfl⟩
        case measure => simp [intOf]; omega
      · have he : newE number D = 9 := by
          unfold newE
          rw [if_pos ⟨h0, h1⟩, if_pos Hs.out, if_neg]
          intro h
          exact hr ((inTo_true D 58).1 h k hlt)
        have hf : newF zeroF number D = zeroF := by unfold newF; rw [he]; rfl
        have He := Lib.hid he
        have Hf := Lib.hid hf
        clear he hf hin
        rcases Int.lt_or_le (gw D k) 0 with r0 | r0
        · clear hr
          go_wp2_with (first | (refine load_fr rfl _ rfl _ rfl ?_ ?_ ?_ ?_; rotate_left; (focus (repeat (first | (with_reducible exact At.new _ _) | (with_reducible refine At.row ?_) | (with_reducible refine At.gx ?_) | ((with_reducible refine At.new' ?_); focus (simp; done)) | (with_reducible refine At.alloc ?_) | (with_reducible refine At.drew ?_) | (with_reducible exact Is.new _ _ _) | (with_reducible refine Is.row ?_) | (with_reducible refine Is.gx ?_) | ((with_reducible refine Is.new' ?_); focus (simp; done)) | (with_reducible refine Is.alloc ?_) | (with_reducible refine Is.drew ?_)))); (focus (with_reducible (first | exact hl | exact hl1 | exact hl2 | exact hl3 | exact hl4 | exact zeroF_len)))) | (refine store_fr rfl _ _ rfl _ rfl _ rfl ?_ ?_ ?_ ?_ ?_; rotate_left; (focus (repeat (first | (with_reducible exact At.new _ _) | (with_reducible refine At.row ?_) | (with_reducible refine At.gx ?_) | ((with_reducible refine At.new' ?_); focus (simp; done)) | (with_reducible refine At.alloc ?_) | (with_reducible refine At.drew ?_) | (with_reducible exact Is.new _ _ _) | (with_reducible refine Is.row ?_) | (with_reducible refine Is.gx ?_) | ((with_reducible refine Is.new' ?_); focus (simp; done)) | (with_reducible refine Is.alloc ?_) | (with_reducible refine Is.drew ?_)))); (focus (with_reducible (first | exact hl | exact hl1 | exact hl2 | exact hl3 | exact hl4 | exact zeroF_len))); (focus (with_reducible (first | exact hl | exact hl1 | exact hl2 | exact hl3 | exact hl4 | exact zeroF_len)))))
          (refine ret_fr_tmp rfl _ _ _ ?_ rfl rfl ?_ ?_ ?_; rotate_left; (focus (repeat (first | (with_reducible exact At.new _ _) | (with_reducible refine At.row ?_) | (with_reducible refine At.gx ?_) | ((with_reducible refine At.new' ?_); focus (simp; done)) | (with_reducible refine At.alloc ?_) | (with_reducible refine At.drew ?_) | (with_reducible exact Is.new _ _ _) | (with_reducible refine Is.row ?_) | (with_reducible refine Is.gx ?_) | ((with_reducible refine Is.new' ?_); focus (simp; done)) | (with_reducible refine Is.alloc ?_) | (with_reducible refine Is.drew ?_)))); (focus (with_reducible (first | exact hl | exact hl1 | exact hl2 | exact hl3 | exact hl4 | exact zeroF_len))))
          exact ⟨by rw [He.out, Hf.out]; rfl, (by repeat (first | (with_reducible exact Gx.refl _) | (with_reducible assumption) | (with_reducible refine Gx.gx ?_) | (with_reducible refine Gx.alloc ?_) | (with_reducible refine Gx.drew ?_) | (with_reducible refine Gx.drewN ?_) | (with_reducible refine Gx.setRow ?_ (by simp)) | (with_reducible refine Gx.setCell ?_ (by simp))))⟩
        · have r1 : 2047 < gw D k := by omega
          clear hr
          go_wp2_with (first | (refine load_fr rfl _ rfl _ rfl ?_ ?_ ?_ ?_; rotate_left; (focus (repeat (first | (with_reducible exact At.new _ _) | (with_reducible refine At.row ?_) | (with_reducible refine At.gx ?_) | ((with_reducible refine At.new' ?_); focus (simp; done)) | (with_reducible refine At.alloc ?_) | (with_reducible refine At.drew ?_) | (with_reducible exact Is.new _ _ _) | (with_reducible refine Is.row ?_) | (with_reducible refine Is.gx ?_) | ((with_reducible refine Is.new' ?_); focus (simp; done)) | (with_reducible refine Is.alloc ?_) | (with_reducible refine Is.drew ?_)))); (focus (with_reducible (first | exact hl | exact hl1 | exact hl2 | exact hl3 | exact hl4 | exact zeroF_len)))) | (refine store_fr rfl _ _ rfl _ rfl _ rfl ?_ ?_ ?_ ?_ ?_; rotate_left; (focus (repeat (first | (with_reducible exact At.new _ _) | (with_reducible refine At.row ?_) | (with_reducible refine At.gx ?_) | ((with_reducible refine At.new' ?_); focus (simp; done)) | (with_reducible refine At.alloc ?_) | (with_reducible refine At.drew ?_) | (with_reducible exact Is.new _ _ _) | (with_reducible refine Is.row ?_) | (with_reducible refine Is.gx ?_) | ((with_reducible refine Is.new' ?_); focus (simp; done)) | (with_reducible refine Is.alloc ?_) | (with_reducible refine Is.drew ?_)))); (focus (with_reducible (first | exact hl | exact hl1 | exact hl2 | exact hl3 | exact hl4 | exact zeroF_len))); (focus (with_reducible (first | exact hl | exact hl1 | exact hl2 | exact hl3 | exact hl4 | exact zeroF_len)))))
          (refine ret_fr_tmp rfl _ _ _ ?_ rfl rfl ?_ ?_ ?_; rotate_left; (focus (repeat (first | (with_reducible exact At.new _ _) | (with_reducible refine At.row ?_) | (with_reducible refine At.gx ?_) | ((with_reducible refine At.new' ?_); focus (simp; done)) | (with_reducible refine At.alloc ?_) | (with_reducible refine At.drew ?_) | (with_reducible exact Is.new _ _ _) | (with_reducible refine Is.row ?_) | (with_reducible refine Is.gx ?_) | ((with_reducible refine Is.new' ?_); focus (simp; done)) | (with_reducible refine Is.alloc ?_) | (with_reducible refine Is.drew ?_)))); (focus (with_reducible (first | exact hl | exact hl1 | exact hl2 | exact hl3 | exact hl4 | exact zeroF_len))))
          exact ⟨by rw [He.out, Hf.out]; rfl, (by repeat (first | (with_reducible exact Gx.refl _) | (with_reducible assumption) | (with_reducible refine Gx.gx ?_) | (with_reducible refine Gx.alloc ?_) | (with_reducible refine Gx.drew ?_) | (with_reducible refine Gx.drewN ?_) | (with_reducible refine Gx.setRow ?_ (by simp)) | (with_reducible refine Gx.setCell ?_ (by simp))))⟩
    · obtain rfl : k = 58 := by omega
      have he : newE number D = 0 := by unfold newE; rw [if_pos ⟨h0, h1⟩, if_pos Hs.out, if_pos hin]
      have hf : newF zeroF number D = sealI (newTo zeroF number D 58) := by unfold newF; rw [he]; rfl
      have He := Lib.hid he
      have Hf := Lib.hid hf
      have hfr := newTo_fr zeroF_fr number D h0 h1 58 (by omega) hin
      have hna := newTo_narrow zeroF_len zeroF_narrow number D h0 h1 58 (by omega) hin
      clear he hf hin
      generalize newTo zeroF number D 58 = G at *
      have hl1 := hfr.len
      have hl2 : (sealI G).length = 64 := by rw [sealI_len]; exact hl1
      go_wp2_with (first | (refine load_fr rfl _ rfl _ rfl ?_ ?_ ?_ ?_; rotate_left; (focus (repeat (first | (with_reducible exact At.new _ _) | (with_reducible refine At.row ?_) | (with_reducible refine At.gx ?_) | ((with_reducible refine At.new' ?_); focus (simp; done)) | (with_reducible refine At.alloc ?_) | (with_reducible refine At.drew ?_) | (with_reducible exact Is.new _ _ _) | (with_reducible refine Is.row ?_) | (with_reducible refine Is.gx ?_) | ((with_reducible refine Is.new' ?_); focus (simp; done)) | (with_reducible refine Is.alloc ?_) | (with_reducible refine Is.drew ?_)))); (focus (with_reducible (first | exact hl | exact hl1 | exact hl2 | exact hl3 | exact hl4 | exact zeroF_len)))) | (refine store_fr rfl _ _ rfl _ rfl _ rfl ?_ ?_ ?_ ?_ ?_; rotate_left; (focus (repeat (first | (with_reducible exact At.new _ _) | (with_reducible refine At.row ?_) | (with_reducible refine At.gx ?_) | ((with_reducible refine At.new' ?_); focus (simp; done)) | (with_reducible refine At.alloc ?_) | (with_reducible refine At.drew ?_) | (with_reducible exact Is.new _ _ _) | (with_reducible refine Is.row ?_) | (with_reducible refine Is.gx ?_) | ((with_reducible refine Is.new' ?_); focus (simp; done)) | (with_reducible refine Is.alloc ?_) | (with_reducible refine Is.drew ?_)))); (focus (with_reducible (first | exact hl | exact hl1 | exact hl2 | exact hl3 | exact hl4 | exact zeroF_len))); (focus (with_reducible (first | exact hl | exact hl1 | exact hl2 | exact hl3 | exact hl4 | exact zeroF_len)))) | (go_at_call 128; refine (Rsealed_any G hfr hna _).mono ?_; rintro e w' ⟨rfl, z, rfl⟩))
      (refine ret_fr_tmp rfl _ _ _ ?_ rfl rfl ?_ ?_ ?_; rotate_left; (focus (repeat (first | (with_reducible exact At.new _ _) | (with_reducible refine At.row ?_) | (with_reducible refine At.gx ?_) | ((with_reducible refine At.new' ?_); focus (simp; done)) | (with_reducible refine At.alloc ?_) | (with_reducible refine At.drew ?_) | (with_reducible exact Is.new _ _ _) | (with_reducible refine Is.row ?_) | (with_reducible refine Is.gx ?_) | ((with_reducible refine Is.new' ?_); focus (simp; done)) | (with_reducible refine Is.alloc ?_) | (with_reducible refine Is.drew ?_)))); (focus (with_reducible (first | exact hl | exact hl1 | exact hl2 | exact hl3 | exact hl4 | exact zeroF_len))))
      exact ⟨by rw [He.out, Hf.out]; rfl, (by repeat (first | (with_reducible exact Gx.refl _) | (with_reducible assumption) | (with_reducible refine Gx.gx ?_) | (with_reducible refine Gx.alloc ?_) | (with_reducible refine Gx.drew ?_) | (with_reducible refine Gx.drewN ?_) | (with_reducible refine Gx.setRow ?_ (by simp)) | (with_reducible refine Gx.setCell ?_ (by simp))))⟩

theorem RNew_any (number : Int) (D : List Int) (A : Option Addr) (c : Nat) (w : World) (hT : Tab w)
    (hc : D.length = 58 → ∃ b o, A = some ⟨b, o, none⟩ ∧ ∀ j, j < 58 → w.cell? ⟨b, o + j, none⟩ = some (.int .i64 (gw D j))) :
    Calls Tryz.prog 80 #[.int .i64 number, .slice A D.length c] w fun e w' => e = .returned (.tuple #[.agg (fc (newF zeroF number D)), .int .i64 (newE number D)]) ∧ ∃ x, w' = gx w x := by
  by_cases h : 0 ≤ number ∧ number < 4194304
  · by_cases hs : D.length = 58
    · obtain ⟨b, o, rfl, hcell⟩ := hc hs
      have := RNew_go number D b o c h.1 h.2 hs w hT hcell
      rw [← hs] at this
      exact this
    · exact RNew_size number D A c h.1 h.2 hs w
  · exact RNew_number number D A c h w
end Go.Proofs.YthkccbeffonaaaaGreatDoor

/-
  Frames in bytes, in place: contracts.
-/
namespace Go.Proofs.YthkccbeffonaaaaGreatDoor
open Go.RowKit

/-- The cells of bytes. -/
def bc (B : List Int) : Array Value := (B.map (Value.int .u8)).toArray
@[go_sem] theorem bc_get (F : List Int) (k : Nat) (h : k < F.length) : (bc F)[k]? = some (.int .u8 (gw F k)) := by
  simp [bc, gw, List.getD, List.getElem?_eq_getElem h]
@[go_sem] theorem bc_set (F : List Int) (k : Nat) (v : Int) : (bc F).setIfInBounds k (.int .u8 v) = bc (F.set k v) := by
  simp [bc, List.map_set]
theorem bc_size (F : List Int) : (bc F).size = F.length := by simp [bc]

/-- The error of a place. -/
def placeE (n at_ k : Int) : Int := if at_ < 0 then 9 else if n - at_ < k then 3 else 0

set_option maxHeartbeats 400000 in
theorem checkRoom_any (A : Option Addr) (n c : Nat) (at_ k : Int) (hm : n ≤ 9223372036854775807) (ha : at_ ≤ 9223372036854775807) (w : World) :
    Calls Tryz.prog 190 #[.slice A n c, .int .i64 at_, .int .i64 k] w fun e w' => e = .returned (.int .i64 (placeE n at_ k)) ∧ w = w' := by
  have hp : placeE n at_ k = if at_ < 0 then 9 else if (n : Int) - at_ < k then 3 else 0 := rfl
  have Hp := Lib.hid hp
  clear hp
  by_cases h0 : at_ < 0
  · go_enter Tryz.func190, Tryz.ntmps190
    go_wp2
    go_ret
    exact ⟨by rw [Hp.out, if_pos h0]; rfl, rfl⟩
  · by_cases h1 : (n : Int) - at_ < k
    · go_enter Tryz.func190, Tryz.ntmps190
      go_wp2
      go_ret
      exact ⟨by rw [Hp.out, if_neg (by omega), if_pos h1]; rfl, rfl⟩
    · go_enter Tryz.func190, Tryz.ntmps190
      go_wp2
      go_ret
      exact ⟨by rw [Hp.out, if_neg (by omega), if_neg (by omega)]; rfl, rfl⟩

set_option maxHeartbeats 400000 in
theorem inPlace_bad (A : Option Addr) (n c : Nat) (at_ : Int) (hm : n ≤ 9223372036854775807) (ha : at_ ≤ 9223372036854775807) (w : World) (E : Int) (he : placeE n at_ 96 = E) (hE : E ≠ 0) :
    Calls Tryz.prog 165 #[.slice A n c, .int .i64 at_] w fun e w' => e = .returned (.tuple #[.pointer none, .int .i64 E]) ∧ w = w' := by
  have hb : (E != 0) = true := by rw [bne_iff_ne]; exact hE
  clear hE
  go_enter Tryz.func165, Tryz.ntmps165
  go_wp2_with (go_at_call 190; refine (checkRoom_any A n c at_ 96 hm ha _).mono ?_; rintro e w' ⟨rfl, rfl⟩)
  go_ret2
  exact ⟨rfl, rfl⟩

set_option maxHeartbeats 400000 in
set_option maxRecDepth 100000 in
theorem inPlace_good (b o n c : Nat) (a : Nat) (hm : n ≤ 9223372036854775807) (hnc : n ≤ c) (hcm : c ≤ 9223372036854775807) (h : a + 96 ≤ n) (w : World) :
    Calls Tryz.prog 165 #[.slice (some ⟨b, o, none⟩) n c, .int .i64 a] w fun e w' => e = .returned (.tuple #[.pointer (some ⟨b, o + a, none⟩), .int .i64 0]) ∧ w = w' := by
  have he : placeE n a 96 = 0 := by unfold placeE; rw [if_neg (by omega), if_neg (by omega)]
  have hac : ¬ (c = a) := by omega
  have hat : ∀ w, (Instr.arrayAt 258 (.slice (some ⟨b, o + a, none⟩) (n - a) (c - a))).run Tryz.prog w = .ok (.pointer (some ⟨b, o + a, none⟩)) w := fun w => run_arrayAt _ _ _ _ _ _ _ Tryz.underlying258 (by omega)
  go_enter Tryz.func165, Tryz.ntmps165
  go_wp2_with (go_at_call 190; refine (checkRoom_any _ n c a 96 hm (by omega) _).mono ?_; rintro e w' ⟨rfl, rfl⟩)
  go_ret2
  exact ⟨rfl, rfl⟩

def rdI (B : List Int) (i : Nat) : Int :=
  if i % 2 = 0 then gw B (i / 2 * 3) * 16 + gw B (i / 2 * 3 + 1) / 16 else gw B (i / 2 * 3 + 1) % 16 * 256 + gw B (i / 2 * 3 + 2)
def Bs (B : List Int) : Prop := ∀ k, 0 ≤ gw B k ∧ gw B k ≤ 255

set_option maxHeartbeats 400000 in
theorem readWord_any (B : List Int) (hB : Bs B) (b o i : Nat) (hi : i < 64) (w : World) (hc : ∀ j, j < 96 → w.cell? ⟨b, o + j, none⟩ = some (.int .u8 (gw B j))) :
    Calls Tryz.prog 191 #[.pointer (some ⟨b, o, none⟩), .int .i64 i] w fun e w' => e = .returned (.int .u16 (rdI B i)) ∧ ∃ x, w' = gx w x := by
  have c0 := hc (i / 2 * 3) (by omega)
  have c1 := hc (i / 2 * 3 + 1) (by omega)
  have c2 := hc (i / 2 * 3 + 2) (by omega)
  have hbw : b < w.heap.size := World.block_lt_of_cell? w _ c0
  have b0 := hB (i / 2 * 3)
  have b1 := hB (i / 2 * 3 + 1)
  have b2 := hB (i / 2 * 3 + 2)
  have k0 := b0.1
  have k1 := b0.2
  have k2 := b1.1
  have k3 := b1.2
  have k4 := b2.1
  have k5 := b2.2
  clear b0 b1 b2 hc
  have hr : rdI B i = if i % 2 = 0 then gw B (i / 2 * 3) * 16 + gw B (i / 2 * 3 + 1) / 16 else gw B (i / 2 * 3 + 1) % 16 * 256 + gw B (i / 2 * 3 + 2) := rfl
  have Hr := Lib.hid hr
  clear hr
  have i0 : i / 2 * 3 < 96 := by omega
  have i1 : i / 2 * 3 + 1 < 96 := by omega
  have i2 : i / 2 * 3 + 2 < 96 := by omega
  by_cases h : i % 2 = 0
  · have h' : ((i : Int) % 2 == 0) = true := by rw [beq_iff_eq]; omega
    have ho : bits .or .u16 (gw B (i / 2 * 3) * 16) (gw B (i / 2 * 3 + 1) / 16) = gw B (i / 2 * 3) * 16 + gw B (i / 2 * 3 + 1) / 16 :=
      bits_join .u16 16 (by decide) wraps_u16 4 _ _ (by omega) (by omega) (by omega) (by omega) (by omega) (by omega)
    have H := Lib.hid h
    clear h
    go_enter Tryz.func191, Tryz.ntmps191
    go_wp2
    refine region_gx (by kernel_rfl) (by kernel_rfl) ?_
    repeat (any_goals (first | go_big_quiet_step (fail) | quiet_step (fail)))
    refine wpQuiet_nil ?_
    rintro _ ⟨x, rfl⟩
    go_wp2
    go_ret
    exact ⟨by rw [Hr.out, if_pos H.out]; rfl, (by repeat (first | (with_reducible exact Gx.refl _) | (with_reducible assumption) | (with_reducible refine Gx.gx ?_) | (with_reducible refine Gx.alloc ?_) | (with_reducible refine Gx.drew ?_) | (with_reducible refine Gx.drewN ?_) | (with_reducible refine Gx.setRow ?_ (by simp)) | (with_reducible refine Gx.setCell ?_ (by simp))))⟩
  · have h' : ((i : Int) % 2 == 0) = false := by rw [beq_eq_false_iff_ne]; omega
    have hd : bits .and .u8 (gw B (i / 2 * 3 + 1)) 15 = gw B (i / 2 * 3 + 1) % 16 := u8_and15 _ k2 (by omega)
    have ho : bits .or .u16 (gw B (i / 2 * 3 + 1) % 16 * 256) (gw B (i / 2 * 3 + 2)) = gw B (i / 2 * 3 + 1) % 16 * 256 + gw B (i / 2 * 3 + 2) :=
      bits_join .u16 16 (by decide) wraps_u16 8 _ _ (by omega) (by omega) (by omega) (by omega) (by omega) (by omega)
    have H := Lib.hid h
    clear h
    go_enter Tryz.func191, Tryz.ntmps191
    go_wp2
    refine region_gx (by kernel_rfl) (by kernel_rfl) ?_
    repeat (any_goals (first | go_big_quiet_step (fail) | quiet_step (fail)))
    refine wpQuiet_nil ?_
    rintro _ ⟨x, rfl⟩
    go_wp2
    go_ret
    exact ⟨by rw [Hr.out, if_neg H.out]; rfl, (by repeat (first | (with_reducible exact Gx.refl _) | (with_reducible assumption) | (with_reducible refine Gx.gx ?_) | (with_reducible refine Gx.alloc ?_) | (with_reducible refine Gx.drew ?_) | (with_reducible refine Gx.drewN ?_) | (with_reducible refine Gx.setRow ?_ (by simp)) | (with_reducible refine Gx.setCell ?_ (by simp))))⟩

/-- The frame that is read, word by word. -/
def rdTo (Z B : List Int) : Nat → List Int
  | 0 => Z
  | k + 1 => (rdTo Z B k).set k (rdI B k)
theorem rdTo_len (Z B : List Int) : ∀ k, (rdTo Z B k).length = Z.length
  | 0 => rfl
  | k + 1 => by simp [rdTo, rdTo_len Z B k]
def rdF (B : List Int) : List Int := rdTo zeroF B 64
theorem rdF_len (B : List Int) : (rdF B).length = 64 := by unfold rdF; rw [rdTo_len]; exact zeroF_len
theorem rdF_eq (B : List Int) : rdTo zeroF B 64 = rdF B := rfl
attribute [irreducible] rdF
theorem rdI_bd {B : List Int} (hB : Bs B) (i : Nat) : 0 ≤ rdI B i ∧ rdI B i ≤ 4095 := by
  unfold rdI
  have b0 := hB (i / 2 * 3)
  have b1 := hB (i / 2 * 3 + 1)
  have b2 := hB (i / 2 * 3 + 2)
  split <;> omega

set_option maxHeartbeats 400000 in
set_option maxRecDepth 100000 in
theorem read_any (B : List Int) (hB : Bs B) (b o : Nat) (w : World) (hc : ∀ j, j < 96 → w.cell? ⟨b, o + j, none⟩ = some (.int .u8 (gw B j))) :
    Calls Tryz.prog 166 #[.pointer (some ⟨b, o, none⟩)] w fun e w' => e = .returned (.agg (fc (rdF B))) ∧ ∃ x, w' = gx w x := by
  have hbw : b < w.heap.size := World.block_lt_of_cell? w _ (hc 0 (by omega))
  have hc' := Lib.hid hc
  clear hc
  have hl := rdF_len B
  go_enter Tryz.func166, Tryz.ntmps166
  go_wp2
  go_loopw [5] (fun i wr => ∃ (k : Nat) (x : Ext), k ≤ 64 ∧ i = .int .i64 k ∧ wr = gx ((w.alloc (.cells (fc zeroF) 57)).alloc (.cells (fc (rdTo zeroF B k)) 57)) x) (fun i _ => 64 - (intOf i).toNat)
  case atStart => exact ⟨0, _, Nat.zero_le _, rfl, (gx_none _).symm⟩
  case round =>
    obtain ⟨k, y, hk, rfl, rfl⟩ := hrel
    by_cases hlt : k < 64
    · have hlk : (rdTo zeroF B k).length = 64 := by rw [rdTo_len]; exact zeroF_len
      have e : (rdTo zeroF B k).set k (rdI B k) = rdTo zeroF B (k + 1) := rfl
      go_wp2_with (go_at_call 191; refine (readWord_any B hB b o k hlt _ ?_).mono ?_; (focus (intro j hj; repeat (first | (with_reducible exact hc'.out j hj) | (with_reducible refine cell_keep_gx ?_) | (with_reducible refine cell_keep_alloc ?_)))); rintro e w' ⟨rfl, z, rfl⟩)
      go_roundw
      case rel => exact ⟨k + 1, _, by omega, by go_num, rfl⟩
      case measure => simp [intOf]; omega
    · obtain rfl : k = 64 := by omega
      rw [rdF_eq B]
      go_wp2_with (first | (refine load_fr rfl _ rfl _ rfl ?_ ?_ ?_ ?_; rotate_left; (focus (repeat (first | (with_reducible exact At.new _ _) | (with_reducible refine At.row ?_) | (with_reducible refine At.gx ?_) | ((with_reducible refine At.new' ?_); focus (simp; done)) | (with_reducible refine At.alloc ?_) | (with_reducible refine At.drew ?_) | (with_reducible exact Is.new _ _ _) | (with_reducible refine Is.row ?_) | (with_reducible refine Is.gx ?_) | ((with_reducible refine Is.new' ?_); focus (simp; done)) | (with_reducible refine Is.alloc ?_) | (with_reducible refine Is.drew ?_)))); (focus (with_reducible (first | exact hl | exact hl1 | exact hl2 | exact hl3 | exact hl4 | exact zeroF_len)))) | (refine store_fr rfl _ _ rfl _ rfl _ rfl ?_ ?_ ?_ ?_ ?_; rotate_left; (focus (repeat (first | (with_reducible exact At.new _ _) | (with_reducible refine At.row ?_) | (with_reducible refine At.gx ?_) | ((with_reducible refine At.new' ?_); focus (simp; done)) | (with_reducible refine At.alloc ?_) | (with_reducible refine At.drew ?_) | (with_reducible exact Is.new _ _ _) | (with_reducible refine Is.row ?_) | (with_reducible refine Is.gx ?_) | ((with_reducible refine Is.new' ?_); focus (simp; done)) | (with_reducible refine Is.alloc ?_) | (with_reducible refine Is.drew ?_)))); (focus (with_reducible (first | exact hl | exact hl1 | exact hl2 | exact hl3 | exact hl4 | exact zeroF_len))); (focus (with_reducible (first | exact hl | exact hl1 | exact hl2 | exact hl3 | exact hl4 | exact zeroF_len)))))
      (refine ret_fr rfl _ _ _ ?_ rfl rfl ?_ ?_ ?_; rotate_left; (focus (repeat (first | (with_reducible exact At.new _ _) | (with_reducible refine At.row ?_) | (with_reducible refine At.gx ?_) | ((with_reducible refine At.new' ?_); focus (simp; done)) | (with_reducible refine At.alloc ?_) | (with_reducible refine At.drew ?_) | (with_reducible exact Is.new _ _ _) | (with_reducible refine Is.row ?_) | (with_reducible refine Is.gx ?_) | ((with_reducible refine Is.new' ?_); focus (simp; done)) | (with_reducible refine Is.alloc ?_) | (with_reducible refine Is.drew ?_)))); (focus (with_reducible (first | exact hl | exact hl1 | exact hl2 | exact hl3 | exact hl4 | exact zeroF_len))))
      exact ⟨rfl, (by repeat (first | (with_reducible exact Gx.refl _) | (with_reducible assumption) | (with_reducible refine Gx.gx ?_) | (with_reducible refine Gx.alloc ?_) | (with_reducible refine Gx.drew ?_) | (with_reducible refine Gx.drewN ?_) | (with_reducible refine Gx.setRow ?_ (by simp)) | (with_reducible refine Gx.setCell ?_ (by simp))))⟩

set_option maxHeartbeats 400000 in
set_option maxRecDepth 100000 in
theorem Get_bad (A : Option Addr) (n c : Nat) (at_ : Int) (hm : n ≤ 9223372036854775807) (ha : at_ ≤ 9223372036854775807) (w : World) (E : Int) (he : placeE n at_ 96 = E) (hE : E ≠ 0) :
    Calls Tryz.prog 135 #[.slice A n c, .int .i64 at_] w fun e w' => e = .returned (.tuple #[.agg (fc zeroF), .int .i64 E]) ∧ ∃ x, w' = gx w x := by
  have hl := zeroF_len
  have hb : (E != 0) = true := by rw [bne_iff_ne]; exact hE
  have HE := Lib.hid he
  clear he
  go_enter Tryz.func135, Tryz.ntmps135
  go_wp2_with (first | (refine load_fr rfl _ rfl _ rfl ?_ ?_ ?_ ?_; rotate_left; (focus (repeat (first | (with_reducible exact At.new _ _) | (with_reducible refine At.row ?_) | (with_reducible refine At.gx ?_) | ((with_reducible refine At.new' ?_); focus (simp; done)) | (with_reducible refine At.alloc ?_) | (with_reducible refine At.drew ?_) | (with_reducible exact Is.new _ _ _) | (with_reducible refine Is.row ?_) | (with_reducible refine Is.gx ?_) | ((with_reducible refine Is.new' ?_); focus (simp; done)) | (with_reducible refine Is.alloc ?_) | (with_reducible refine Is.drew ?_)))); (focus (with_reducible (first | exact hl | exact hl1 | exact hl2 | exact hl3 | exact hl4 | exact zeroF_len)))) | (refine store_fr rfl _ _ rfl _ rfl _ rfl ?_ ?_ ?_ ?_ ?_; rotate_left; (focus (repeat (first | (with_reducible exact At.new _ _) | (with_reducible refine At.row ?_) | (with_reducible refine At.gx ?_) | ((with_reducible refine At.new' ?_); focus (simp; done)) | (with_reducible refine At.alloc ?_) | (with_reducible refine At.drew ?_) | (with_reducible exact Is.new _ _ _) | (with_reducible refine Is.row ?_) | (with_reducible refine Is.gx ?_) | ((with_reducible refine Is.new' ?_); focus (simp; done)) | (with_reducible refine Is.alloc ?_) | (with_reducible refine Is.drew ?_)))); (focus (with_reducible (first | exact hl | exact hl1 | exact hl2 | exact hl3 | exact hl4 | exact zeroF_len))); (focus (with_reducible (first | exact hl | exact hl1 | exact hl2 | exact hl3 | exact hl4 | exact zeroF_len)))) | (go_at_call 165; refine (inPlace_bad A n c at_ hm ha _ E HE.out hE).mono ?_; rintro e w' ⟨rfl, rfl⟩))
  (refine ret_fr_tmp rfl _ _ _ ?_ rfl rfl ?_ ?_ ?_; rotate_left; (focus (repeat (first | (with_reducible exact At.new _ _) | (with_reducible refine At.row ?_) | (with_reducible refine At.gx ?_) | ((with_reducible refine At.new' ?_); focus (simp; done)) | (with_reducible refine At.alloc ?_) | (with_reducible refine At.drew ?_) | (with_reducible exact Is.new _ _ _) | (with_reducible refine Is.row ?_) | (with_reducible refine Is.gx ?_) | ((with_reducible refine Is.new' ?_); focus (simp; done)) | (with_reducible refine Is.alloc ?_) | (with_reducible refine Is.drew ?_)))); (focus (with_reducible (first | exact hl | exact hl1 | exact hl2 | exact hl3 | exact hl4 | exact zeroF_len))))
  exact ⟨rfl, (by repeat (first | (with_reducible exact Gx.refl _) | (with_reducible assumption) | (with_reducible refine Gx.gx ?_) | (with_reducible refine Gx.alloc ?_) | (with_reducible refine Gx.drew ?_) | (with_reducible refine Gx.drewN ?_) | (with_reducible refine Gx.setRow ?_ (by simp)) | (with_reducible refine Gx.setCell ?_ (by simp))))⟩

set_option maxHeartbeats 400000 in
set_option maxRecDepth 100000 in
theorem Get_good (B : List Int) (hB : Bs B) (b o n c a : Nat) (hm : n ≤ 9223372036854775807) (hnc : n ≤ c) (hcm : c ≤ 9223372036854775807) (h : a + 96 ≤ n) (w : World)
    (hc : ∀ j, j < 96 → w.cell? ⟨b, o + a + j, none⟩ = some (.int .u8 (gw B j))) :
    Calls Tryz.prog 135 #[.slice (some ⟨b, o, none⟩) n c, .int .i64 a] w fun e w' => e = .returned (.tuple #[.agg (fc (rdF B)), .int .i64 0]) ∧ ∃ x, w' = gx w x := by
  have hl := zeroF_len
  have hl1 := rdF_len B
  have hc' := Lib.hid hc
  clear hc
  go_enter Tryz.func135, Tryz.ntmps135
  go_wp2_with (first | (refine load_fr rfl _ rfl _ rfl ?_ ?_ ?_ ?_; rotate_left; (focus (repeat (first | (with_reducible exact At.new _ _) | (with_reducible refine At.row ?_) | (with_reducible refine At.gx ?_) | ((with_reducible refine At.new' ?_); focus (simp; done)) | (with_reducible refine At.alloc ?_) | (with_reducible refine At.drew ?_) | (with_reducible exact Is.new _ _ _) | (with_reducible refine Is.row ?_) | (with_reducible refine Is.gx ?_) | ((with_reducible refine Is.new' ?_); focus (simp; done)) | (with_reducible refine Is.alloc ?_) | (with_reducible refine Is.drew ?_)))); (focus (with_reducible (first | exact hl | exact hl1 | exact hl2 | exact hl3 | exact hl4 | exact zeroF_len)))) | (refine store_fr rfl _ _ rfl _ rfl _ rfl ?_ ?_ ?_ ?_ ?_; rotate_left; (focus (repeat (first | (with_reducible exact At.new _ _) | (with_reducible refine At.row ?_) | (with_reducible refine At.gx ?_) | ((with_reducible refine At.new' ?_); focus (simp; done)) | (with_reducible refine At.alloc ?_) | (with_reducible refine At.drew ?_) | (with_reducible exact Is.new _ _ _) | (with_reducible refine Is.row ?_) | (with_reducible refine Is.gx ?_) | ((with_reducible refine Is.new' ?_); focus (simp; done)) | (with_reducible refine Is.alloc ?_) | (with_reducible refine Is.drew ?_)))); (focus (with_reducible (first | exact hl | exact hl1 | exact hl2 | exact hl3 | exact hl4 | exact zeroF_len))); (focus (with_reducible (first | exact hl | exact hl1 | exact hl2 | exact hl3 | exact hl4 | exact zeroF_len)))) | (go_at_call 165; refine (inPlace_good b o n c a hm hnc hcm h _).mono ?_; rintro e w' ⟨rfl, rfl⟩) | (go_at_call 166; refine (read_any B hB b (o + a) _ ?_).mono ?_; (focus (intro j hj; repeat (first | (with_reducible exact hc'.out j hj) | (with_reducible refine cell_keep_gx ?_) | (with_reducible refine cell_keep_alloc ?_)))); rintro e w' ⟨rfl, z, rfl⟩))
  (refine ret_fr_tmp rfl _ _ _ ?_ rfl rfl ?_ ?_ ?_; rotate_left; (focus (repeat (first | (with_reducible exact At.new _ _) | (with_reducible refine At.row ?_) | (with_reducible refine At.gx ?_) | ((with_reducible refine At.new' ?_); focus (simp; done)) | (with_reducible refine At.alloc ?_) | (with_reducible refine At.drew ?_) | (with_reducible exact Is.new _ _ _) | (with_reducible refine Is.row ?_) | (with_reducible refine Is.gx ?_) | ((with_reducible refine Is.new' ?_); focus (simp; done)) | (with_reducible refine Is.alloc ?_) | (with_reducible refine Is.drew ?_)))); (focus (with_reducible (first | exact hl | exact hl1 | exact hl2 | exact hl3 | exact hl4 | exact zeroF_len))))
  exact ⟨rfl, (by repeat (first | (with_reducible exact Gx.refl _) | (with_reducible assumption) | (with_reducible refine Gx.gx ?_) | (with_reducible refine Gx.alloc ?_) | (with_reducible refine Gx.drew ?_) | (with_reducible refine Gx.drewN ?_) | (with_reducible refine Gx.setRow ?_ (by simp)) | (with_reducible refine Gx.setCell ?_ (by simp))))⟩
end Go.Proofs.YthkccbeffonaaaaGreatDoor

/-
  Writing frames in place: contracts.
-/
namespace Go.Proofs.YthkccbeffonaaaaGreatDoor
open Go.RowKit

theorem At.self {w : World} {g : Nat} {cs : Array Value} {t : TypeId} (h : At w g (.cells cs t (0, 0))) : w.setRow g cs = w := by
  have hh : (w.setRow g cs).heap = w.heap := by
    simp only [World.setRow]
    apply Array.ext_getElem?
    intro i
    rw [Array.getElem?_modify]
    by_cases hi : g = i
    · subst hi
      unfold At at h
      rw [if_pos rfl, h]; rfl
    · rw [if_neg hi]
  obtain ⟨hp, tp, dr, os, out⟩ := w
  simp only [World.setRow] at hh ⊢
  rw [hh]

section
variable {w : World} {g : Nat} {cs : Array Value}
@[go_sem] theorem cell_row (h : Is w g 5) (j : Nat) : (w.setRow g cs).cell? ⟨g, j, none⟩ = cs[j]? := cell_setRow_same w g j _ cs _ _ h.choose_spec
@[go_sem] theorem frozen_row (h : Is w g 5) (j : Nat) : (w.setRow g cs).frozen? ⟨g, j, none⟩ = false := frozen_of_row _ g j cs _ (At.row h)
@[go_sem] theorem setCell_row (h : Is w g 5) (j : Nat) (v : Value) : (w.setRow g cs).setCell ⟨g, j, none⟩ v = w.setRow g (cs.setIfInBounds j v) := by
  rw [setCell_eq_setRow _ g j cs _ (0, 0) v (At.row h), setRow_setRow]
@[go_sem] theorem row_row (c d : Array Value) : (w.setRow g c).setRow g d = w.setRow g d := setRow_setRow w g c d
end

/-- A region that draws its order, whose last operation alone writes. -/
theorem region_tail {P : Program} {id : Nat} {Q : Exit → Act → World → Prop} {a : Act} {w : World} {l : List Oper} (n : Nat) (hm : P.follows .mixedOrders = true) (hB : Region.lexTailB .any l.toArray n = true)
    (h : wpStill P l.toArray w.drew (fun a' => wpList P l.toArray Q (l.drop n) a' w.drew) (l.take n) a) : (Code.region id l.toArray true).wp P Q a w :=
  wp_region_still_tail n hm hB h

/-- The bytes behind the writing of a word at place i of the frame from q on. -/
def wrI (C : List Int) (q i : Nat) (v : Int) : List Int :=
  if i % 2 = 0 then (C.set (q + i / 2 * 3) (v / 16)).set (q + (i / 2 * 3 + 1)) (v % 16 * 16 + gw C (q + (i / 2 * 3 + 1)) % 16)
  else (C.set (q + (i / 2 * 3 + 1)) (gw C (q + (i / 2 * 3 + 1)) / 16 * 16 + v / 256)).set (q + (i / 2 * 3 + 2)) (v % 256)

theorem u8_and240 (x : Int) (h0 : 0 ≤ x) (h1 : x ≤ 255) : bits .and .u8 x 240 = x / 16 * 16 := by
  rw [u8_and x 240 h0 (by omega) (by decide) (by decide)]
  have e : (240 : Int).toNat = 240 := by decide
  rw [e, nat_hi8_4]
  omega

set_option maxHeartbeats 400000 in
set_option maxRecDepth 100000 in
theorem writeWord_row (C : List Int) (hC : Bs C) (q i : Nat) (hi : i < 64) (hq : q + 96 ≤ C.length) (v : Int) (v0 : 0 ≤ v) (v1 : v ≤ 4095) (w : World) (g : Nat) (hI : Is w g 5) :
    Calls Tryz.prog 176 #[.pointer (some ⟨g, q, none⟩), .int .i64 i, .int .u16 v] (w.setRow g (bc C)) fun e w' => e = .returned (.tuple #[]) ∧ ∃ x, w' = gx (w.setRow g (bc (wrI C q i v))) x := by
  have i0 : i / 2 * 3 < 96 := by omega
  have i1 : i / 2 * 3 + 1 < 96 := by omega
  have i2 : i / 2 * 3 + 2 < 96 := by omega
  have j0 : q + i / 2 * 3 < C.length := by omega
  have j1 : q + (i / 2 * 3 + 1) < C.length := by omega
  have j2 : q + (i / 2 * 3 + 2) < C.length := by omega
  have m0 : 0 ≤ gw C (q + (i / 2 * 3 + 1)) := (hC _).1
  have m1 : gw C (q + (i / 2 * 3 + 1)) ≤ 255 := (hC _).2
  by_cases h : i % 2 = 0
  · have h' : ((i : Int) % 2 == 0) = true := by rw [beq_iff_eq]; omega
    have hw : wrI C q i v = (C.set (q + i / 2 * 3) (v / 16)).set (q + (i / 2 * 3 + 1)) (v % 16 * 16 + gw C (q + (i / 2 * 3 + 1)) % 16) := by unfold wrI; rw [if_pos h]
    have Hw := Lib.hid hw
    have hg : gw (C.set (q + i / 2 * 3) (v / 16)) (q + (i / 2 * 3 + 1)) = gw C (q + (i / 2 * 3 + 1)) := by rw [gw_set _ _ _ _ j0, if_neg (by omega)]
    have x0 : bits .and .u16 v 15 = v % 16 := u16_and15 v v0 (by omega)
    have x1 : bits .and .u8 (gw C (q + (i / 2 * 3 + 1))) 15 = gw C (q + (i / 2 * 3 + 1)) % 16 := u8_and15 _ m0 (by omega)
    have x2 : bits .or .u8 (v % 16 * 16) (gw C (q + (i / 2 * 3 + 1)) % 16) = v % 16 * 16 + gw C (q + (i / 2 * 3 + 1)) % 16 :=
      bits_join .u8 8 (by decide) wraps_u8 4 _ _ (by omega) (by omega) (by omega) (by omega) (by omega) (by omega)
    have s1 : IntKind.i64.wrap ((i : Int) / 2 * 3 + 1) = (i : Int) / 2 * 3 + 1 := IntWalk.i64_in _ (by omega)
    have s2 : 0 ≤ (i : Int) / 2 * 3 + 1 := by omega
    have s3 : (i : Int) / 2 * 3 + 1 < 96 := by omega
    have s4 : ((i : Int) / 2 * 3 + 1).toNat = i / 2 * 3 + 1 := by omega
    have s5 : IntKind.u8.wrap (v % 16) = v % 16 := IntWalk.u8_in _ (by omega)
    have s6 : IntKind.u8.wrap (v % 16 * 16) = v % 16 * 16 := IntWalk.u8_in _ (by omega)
    clear h hw
    go_enter Tryz.func176, Tryz.ntmps176
    go_wp2
    refine region_tail 17 (by kernel_rfl) (by kernel_rfl) ?_
    simp only [List.take_succ_cons, List.take_zero, List.drop_succ_cons, List.drop_zero]
    repeat still_step
    refine wpStill_nil ?_
    go_wp2
    exact bodyPost_ret (results_none rfl _ _ _) rfl ⟨rfl, by rw [Hw.out]; exact (by repeat (first | (with_reducible exact Gx.refl _) | (with_reducible assumption) | (with_reducible refine Gx.gx ?_) | (with_reducible refine Gx.alloc ?_) | (with_reducible refine Gx.drew ?_) | (with_reducible refine Gx.drewN ?_) | (with_reducible refine Gx.setRow ?_ (by simp)) | (with_reducible refine Gx.setCell ?_ (by simp))))⟩
  · have h' : ((i : Int) % 2 == 0) = false := by rw [beq_eq_false_iff_ne]; omega
    have hw : wrI C q i v = (C.set (q + (i / 2 * 3 + 1)) (gw C (q + (i / 2 * 3 + 1)) / 16 * 16 + v / 256)).set (q + (i / 2 * 3 + 2)) (v % 256) := by unfold wrI; rw [if_neg h]
    have Hw := Lib.hid hw
    have x0 : bits .and .u16 v 255 = v % 256 := u16_and255 v v0 (by omega)
    have x1 : bits .and .u8 (gw C (q + (i / 2 * 3 + 1))) 240 = gw C (q + (i / 2 * 3 + 1)) / 16 * 16 := u8_and240 _ m0 (by omega)
    have x2 : bits .or .u8 (gw C (q + (i / 2 * 3 + 1)) / 16 * 16) (v / 256) = gw C (q + (i / 2 * 3 + 1)) / 16 * 16 + v / 256 :=
      bits_join .u8 8 (by decide) wraps_u8 4 _ _ (by omega) (by omega) (by omega) (by omega) (by omega) (by omega)
    have s1 : IntKind.i64.wrap ((i : Int) / 2 * 3 + 1) = (i : Int) / 2 * 3 + 1 := IntWalk.i64_in _ (by omega)
    have s2 : 0 ≤ (i : Int) / 2 * 3 + 1 := by omega
    have s3 : (i : Int) / 2 * 3 + 1 < 96 := by omega
    have s4 : ((i : Int) / 2 * 3 + 1).toNat = i / 2 * 3 + 1 := by omega
    have s5 : IntKind.u8.wrap (v / 256) = v / 256 := IntWalk.u8_in _ (by omega)
    clear h hw
    go_enter Tryz.func176, Tryz.ntmps176
    go_wp2
    refine region_tail 16 (by kernel_rfl) (by kernel_rfl) ?_
    simp only [List.take_succ_cons, List.take_zero, List.drop_succ_cons, List.drop_zero]
    repeat still_step
    refine wpStill_nil ?_
    go_wp2
    go_end0
    exact ⟨rfl, by rw [Hw.out]; exact (by repeat (first | (with_reducible exact Gx.refl _) | (with_reducible assumption) | (with_reducible refine Gx.gx ?_) | (with_reducible refine Gx.alloc ?_) | (with_reducible refine Gx.drew ?_) | (with_reducible refine Gx.drewN ?_) | (with_reducible refine Gx.setRow ?_ (by simp)) | (with_reducible refine Gx.setCell ?_ (by simp))))⟩

theorem writeWord_any (C : List Int) (hC : Bs C) (q i : Nat) (hi : i < 64) (hq : q + 96 ≤ C.length) (v : Int) (v0 : 0 ≤ v) (v1 : v ≤ 4095) (w : World) (g : Nat) (hA : At w g (.cells (bc C) 5 (0, 0))) :
    Calls Tryz.prog 176 #[.pointer (some ⟨g, q, none⟩), .int .i64 i, .int .u16 v] w fun e w' => e = .returned (.tuple #[]) ∧ ∃ x, w' = gx (w.setRow g (bc (wrI C q i v))) x := by
  have := writeWord_row C hC q i hi hq v v0 v1 w g ⟨_, hA⟩
  rwa [hA.self] at this

/-- The bytes behind the writing of the first k words. -/
def wrTo (C : List Int) (q : Nat) (F : List Int) : Nat → List Int
  | 0 => C
  | k + 1 => wrI (wrTo C q F k) q k (gw F k)
theorem wrI_len (C : List Int) (q i : Nat) (v : Int) : (wrI C q i v).length = C.length := by unfold wrI; split <;> simp
theorem wrTo_len (C : List Int) (q : Nat) (F : List Int) : ∀ k, (wrTo C q F k).length = C.length
  | 0 => rfl
  | k + 1 => by simp only [wrTo]; rw [wrI_len, wrTo_len C q F k]
theorem Bs.set {C : List Int} (h : Bs C) (i : Nat) (v : Int) (h0 : 0 ≤ v) (h1 : v ≤ 255) : Bs (C.set i v) := by
  intro k
  by_cases hi : i < C.length
  · rw [gw_set C i k v hi]; split
    · exact ⟨h0, h1⟩
    · exact h k
  · rw [List.set_eq_of_length_le (by omega)]; exact h k
theorem wrI_bs {C : List Int} (h : Bs C) (q i : Nat) (v : Int) (v0 : 0 ≤ v) (v1 : v ≤ 4095) : Bs (wrI C q i v) := by
  unfold wrI
  have := h (q + (i / 2 * 3 + 1))
  split
  · exact (h.set _ _ (by omega) (by omega)).set _ _ (by omega) (by omega)
  · exact (h.set _ _ (by omega) (by omega)).set _ _ (by omega) (by omega)
theorem wrTo_bs {C : List Int} (h : Bs C) (q : Nat) {F : List Int} (hF : Fr F) (hn : Narrow F) : ∀ k, k ≤ 64 → Bs (wrTo C q F k)
  | 0, _ => h
  | k + 1, hk => wrI_bs (wrTo_bs h q hF hn k (by omega)) q k _ (hF.bd k).1 (hn k (by omega))
/-- The bytes behind the writing of a frame. -/
def wrF (C : List Int) (q : Nat) (F : List Int) : List Int := wrTo C q F 64
theorem wrF_eq (C : List Int) (q : Nat) (F : List Int) : wrTo C q F 64 = wrF C q F := rfl
theorem wrF_len (C : List Int) (q : Nat) (F : List Int) : (wrF C q F).length = C.length := wrTo_len C q F 64
theorem wrF_bs {C : List Int} (h : Bs C) (q : Nat) {F : List Int} (hF : Fr F) (hn : Narrow F) : Bs (wrF C q F) := wrTo_bs h q hF hn 64 (by omega)
attribute [irreducible] wrF

set_option maxHeartbeats 600000 in
set_option maxRecDepth 100000 in
theorem write_any (C : List Int) (hC : Bs C) (q : Nat) (hq : q + 96 ≤ C.length) (F : List Int) (hF : Fr F) (hn : Narrow F) (w : World) (g : Nat) (hA : At w g (.cells (bc C) 5 (0, 0))) :
    Calls Tryz.prog 149 #[.pointer (some ⟨g, q, none⟩), .agg (fc F)] w fun e w' => e = .returned (.tuple #[]) ∧ ∃ x, w' = gx (w.setRow g (bc (wrF C q F))) x := by
  have hl := hF.len
  have hg := hA.lt
  have hI : Is w g 5 := ⟨_, hA⟩
  have e0 : w.setRow g (bc C) = w := hA.self
  have E0 := Lib.hid e0
  clear e0
  go_enter Tryz.func149, Tryz.ntmps149
  go_wp2
  go_loopw [5] (fun i wr => ∃ (k : Nat) (x : Ext), k ≤ 64 ∧ i = .int .i64 k ∧ wr = gx ((w.setRow g (bc (wrTo C q F k))).alloc (.cells (fc F) 57)) x) (fun i _ => 64 - (intOf i).toNat)
  case atStart => exact ⟨0, _, Nat.zero_le _, rfl, by show _ = gx ((w.setRow g (bc C)).alloc _) _; rw [E0.out]; exact (gx_none _).symm⟩
  case round =>
    obtain ⟨k, y, hk, rfl, rfl⟩ := hrel
    by_cases hlt : k < 64
    · have hb := wrTo_bs hC q hF hn k hk
      have hlc : (wrTo C q F k).length = C.length := wrTo_len C q F k
      have k1 : 0 ≤ gw F k := (hF.bd k).1
      have k2 : gw F k ≤ 4095 := hn k hlt
      have hq' : q + 96 ≤ (wrTo C q F k).length := by omega
      have e : wrI (wrTo C q F k) q k (gw F k) = wrTo C q F (k + 1) := rfl
      clear hlc
      go_wp2_with (go_at_call 176; refine (writeWord_any _ hb q k hlt hq' _ k1 k2 _ g ?_).mono ?_; (focus (exact ((At.row hI).alloc).gx)); rintro e w' ⟨rfl, z, rfl⟩)
      go_roundw
      case rel => exact ⟨k + 1, _, by omega, by go_num, rfl⟩
      case measure => simp [intOf]; omega
    · obtain rfl : k = 64 := by omega
      rw [wrF_eq C q F]
      go_wp2
      go_end0
      exact ⟨rfl, (by repeat (first | (with_reducible exact Gx.refl _) | (with_reducible assumption) | (with_reducible refine Gx.gx ?_) | (with_reducible refine Gx.alloc ?_) | (with_reducible refine Gx.drew ?_) | (with_reducible refine Gx.drewN ?_) | (with_reducible refine Gx.setRow ?_ (by simp)) | (with_reducible refine Gx.setCell ?_ (by simp))))⟩

end Go.Proofs.YthkccbeffonaaaaGreatDoor

/-
  The bytes of a frame, one by one; written and read again they are the frame.
-/
namespace Go.Proofs.YthkccbeffonaaaaGreatDoor
open Go.RowKit

/-- The byte j of a frame's 96. -/
def byI (F : List Int) (j : Nat) : Int :=
  if j % 3 = 0 then gw F (j / 3 * 2) / 16 else if j % 3 = 1 then gw F (j / 3 * 2) % 16 * 16 + gw F (j / 3 * 2 + 1) / 256 else gw F (j / 3 * 2 + 1) % 256
theorem wrPair (D : List Int) (q p : Nat) (hq : q + p * 3 + 2 < D.length) (a b : Int) (x : Nat) :
    gw (wrI (wrI D q (2 * p) a) q (2 * p + 1) b) x = if x = q + p * 3 then a / 16 else if x = q + (p * 3 + 1) then a % 16 * 16 + b / 256 else if x = q + (p * 3 + 2) then b % 256 else gw D x := by
  have e1 : 2 * p / 2 = p := by omega
  have e2 : (2 * p + 1) / 2 = p := by omega
  have h1 : wrI D q (2 * p) a = (D.set (q + p * 3) (a / 16)).set (q + (p * 3 + 1)) (a % 16 * 16 + gw D (q + (p * 3 + 1)) % 16) := by
    unfold wrI; rw [if_pos (by omega), e1]
  generalize hD1 : wrI D q (2 * p) a = D1 at *
  have l1 : D1.length = D.length := by rw [h1]; simp
  have g1 : gw D1 (q + (p * 3 + 1)) / 16 * 16 = a % 16 * 16 := by
    rw [h1, gw_set _ _ _ _ (by simp; omega), if_pos rfl]; omega
  have h2 : wrI D1 q (2 * p + 1) b = (D1.set (q + (p * 3 + 1)) (a % 16 * 16 + b / 256)).set (q + (p * 3 + 2)) (b % 256) := by
    unfold wrI; rw [if_neg (by omega), e2, g1]
  rw [h2, gw_set _ _ _ _ (by simp; omega), gw_set _ _ _ _ (by omega), h1, gw_set _ _ _ _ (by simp; omega), gw_set _ _ _ _ (by omega)]
  repeat' split
  all_goals first | rfl | (exfalso; omega)
theorem byI_0 (F : List Int) (p : Nat) : byI F (p * 3) = gw F (2 * p) / 16 := by
  have e : p * 3 / 3 * 2 = 2 * p := by omega
  unfold byI; rw [if_pos (by omega), e]
theorem byI_1 (F : List Int) (p : Nat) : byI F (p * 3 + 1) = gw F (2 * p) % 16 * 16 + gw F (2 * p + 1) / 256 := by
  have e : (p * 3 + 1) / 3 * 2 = 2 * p := by omega
  unfold byI; rw [if_neg (by omega), if_pos (by omega), e]
theorem byI_2 (F : List Int) (p : Nat) : byI F (p * 3 + 2) = gw F (2 * p + 1) % 256 := by
  have e : (p * 3 + 2) / 3 * 2 + 1 = 2 * p + 1 := by omega
  unfold byI; rw [if_neg (by omega), if_neg (by omega), e]
theorem gw_wrTo (C : List Int) (q : Nat) (F : List Int) (hq : q + 96 ≤ C.length) : ∀ p, p ≤ 32 → ∀ x, gw (wrTo C q F (2 * p)) x = if q ≤ x ∧ x < q + p * 3 then byI F (x - q) else gw C x
  | 0, _, x => by rw [if_neg (by omega)]; rfl
  | p + 1, hp, x => by
    have e : wrTo C q F (2 * (p + 1)) = wrI (wrI (wrTo C q F (2 * p)) q (2 * p) (gw F (2 * p))) q (2 * p + 1) (gw F (2 * p + 1)) := rfl
    rw [e, wrPair _ _ _ (by rw [wrTo_len]; omega)]
    by_cases c0 : x = q + p * 3
    · rw [if_pos c0, if_pos (by omega), show x - q = p * 3 by omega, byI_0]
    · rw [if_neg c0]
      by_cases c1 : x = q + (p * 3 + 1)
      · rw [if_pos c1, if_pos (by omega), show x - q = p * 3 + 1 by omega, byI_1]
      · rw [if_neg c1]
        by_cases c2 : x = q + (p * 3 + 2)
        · rw [if_pos c2, if_pos (by omega), show x - q = p * 3 + 2 by omega, byI_2]
        · rw [if_neg c2, gw_wrTo C q F hq p (by omega) x]
          by_cases h : q ≤ x ∧ x < q + p * 3
          · rw [if_pos h, if_pos (by omega)]
          · rw [if_neg h, if_neg (show ¬ (q ≤ x ∧ x < q + (p + 1) * 3) by omega)]
theorem gw_wrF (C : List Int) (q : Nat) (F : List Int) (hq : q + 96 ≤ C.length) (x : Nat) : gw (wrF C q F) x = if q ≤ x ∧ x < q + 96 then byI F (x - q) else gw C x :=
  (congrArg (fun D => gw D x) (wrF_eq C q F)).symm.trans (gw_wrTo C q F hq 32 (by omega) x)
theorem gw_rdTo (Z B : List Int) (hZ : Z.length = 64) : ∀ k, k ≤ 64 → ∀ i, gw (rdTo Z B k) i = if i < k then rdI B i else gw Z i
  | 0, _, i => by rw [if_neg (by omega)]; rfl
  | k + 1, hk, i => by
    have e : rdTo Z B (k + 1) = (rdTo Z B k).set k (rdI B k) := rfl
    rw [e, gw_set _ _ _ _ (by rw [rdTo_len]; omega), gw_rdTo Z B hZ k (by omega) i]
    by_cases c : i = k
    · subst c; rw [if_pos rfl, if_pos (by omega)]
    · rw [if_neg c]
      by_cases h : i < k
      · rw [if_pos h, if_pos (by omega)]
      · rw [if_neg h, if_neg (by omega)]
theorem gw_rdF (B : List Int) (i : Nat) (hi : i < 64) : gw (rdF B) i = rdI B i := by
  rw [← rdF_eq, gw_rdTo zeroF B zeroF_len 64 (by omega) i, if_pos hi]
theorem rd_by {B F : List Int} (hF : Fr F) (hn : Narrow F) (h : ∀ j, j < 96 → gw B j = byI F j) (i : Nat) (hi : i < 64) : rdI B i = gw F i := by
  have a0 := (hF.bd (2 * (i / 2))).1
  have a1 := hn (2 * (i / 2)) (by omega)
  have b0 := (hF.bd (2 * (i / 2) + 1)).1
  have b1 := hn (2 * (i / 2) + 1) (by omega)
  unfold rdI
  rw [h _ (by omega), h _ (by omega), h _ (by omega), byI_0, byI_1, byI_2]
  by_cases c : i % 2 = 0
  · rw [if_pos c]
    rw [show gw F i = gw F (2 * (i / 2)) by rw [show 2 * (i / 2) = i by omega]]
    omega
  · rw [if_neg c]
    rw [show gw F i = gw F (2 * (i / 2) + 1) by rw [show 2 * (i / 2) + 1 = i by omega]]
    omega
/-- What is written is read again. -/
theorem rdF_by {B F : List Int} (hF : Fr F) (hn : Narrow F) (h : ∀ j, j < 96 → gw B j = byI F j) : rdF B = F :=
  ext_gw (by rw [rdF_len, hF.len]) fun k hk => by
    rw [rdF_len] at hk
    rw [gw_rdF B k hk, rd_by hF hn h k hk]
theorem byI_bd {F : List Int} (hF : Fr F) (hn : Narrow F) (j : Nat) (hj : j < 96) : 0 ≤ byI F j ∧ byI F j ≤ 255 := by
  have a0 := (hF.bd (j / 3 * 2)).1
  have a1 := hn (j / 3 * 2) (by omega)
  have b0 := (hF.bd (j / 3 * 2 + 1)).1
  have b1 := hn (j / 3 * 2 + 1) (by omega)
  unfold byI
  split
  · omega
  · split <;> omega
/-- Four bits of a frame: the piece n, from the first word's highest bits on. -/
def halfI (F : List Int) (n : Nat) : Int := gw F (n / 3) / 2 ^ (8 - n % 3 * 4) % 16
theorem half_by {F : List Int} (hF : Fr F) (hn : Narrow F) (j : Nat) (hj : j < 96) : halfI F (2 * j) * 16 + halfI F (2 * j + 1) = byI F j := by
  have a0 := (hF.bd (j / 3 * 2)).1
  have a1 := hn (j / 3 * 2) (by omega)
  have b0 := (hF.bd (j / 3 * 2 + 1)).1
  have b1 := hn (j / 3 * 2 + 1) (by omega)
  have c : j % 3 = 0 ∨ j % 3 = 1 ∨ j % 3 = 2 := by omega
  unfold halfI byI
  rcases c with c | c | c
  · rw [if_pos c, show 2 * j / 3 = j / 3 * 2 by omega, show (2 * j + 1) / 3 = j / 3 * 2 by omega, show 2 * j % 3 = 0 by omega, show (2 * j + 1) % 3 = 1 by omega]
    have e0 : (2 : Int) ^ (8 - 0 * 4) = 256 := rfl
    have e1 : (2 : Int) ^ (8 - 1 * 4) = 16 := rfl
    rw [e0, e1]
    omega
  · rw [if_neg (by omega), if_pos c, show 2 * j / 3 = j / 3 * 2 by omega, show (2 * j + 1) / 3 = j / 3 * 2 + 1 by omega, show 2 * j % 3 = 2 by omega, show (2 * j + 1) % 3 = 0 by omega]
    have e0 : (2 : Int) ^ (8 - 2 * 4) = 1 := rfl
    have e1 : (2 : Int) ^ (8 - 0 * 4) = 256 := rfl
    rw [e0, e1]
    omega
  · rw [if_neg (by omega), if_neg (by omega), show 2 * j / 3 = j / 3 * 2 + 1 by omega, show (2 * j + 1) / 3 = j / 3 * 2 + 1 by omega, show 2 * j % 3 = 1 by omega, show (2 * j + 1) % 3 = 2 by omega]
    have e0 : (2 : Int) ^ (8 - 1 * 4) = 16 := rfl
    have e1 : (2 : Int) ^ (8 - 2 * 4) = 1 := rfl
    rw [e0, e1]
    omega
theorem halfI_bd (F : List Int) (n : Nat) : 0 ≤ halfI F n ∧ halfI F n ≤ 15 := by unfold halfI; omega
theorem halfI_is (F : List Int) (n : Nat) : halfI F n = gw F (n / 3) / 2 ^ (8 - n % 3 * 4) % 16 := rfl
attribute [irreducible] halfI byI
end Go.Proofs.YthkccbeffonaaaaGreatDoor

/-
  A region that draws its order, whose operations but the last ones leave the world within a class (a callee may make memory), and whose last ones come in their order behind all others: one walk serves every order.
  The class's version of the library's theorem on one still world and a tail; its counting of what is listed is imported.
-/
namespace Go.Proofs.YthkccbeffonaaaaGreatDoor
open Go

section
variable {P : Program} {ops : Array Oper} {md : Region.Mode} {C : World → Prop}

/-- Whatever order is picked of the first n operations, L holds where they end. -/
def Heads (P : Program) (md : Region.Mode) (ops : Array Oper) (C : World → Prop) (n : Nat) (L : Array Bool → Act → Prop) : Nat → Array Bool → Act → Prop
  | 0, listed, a => L listed a
  | f + 1, listed, a => Region.ready md ops listed ≠ [] ∧ ∀ i ∈ Region.ready md ops listed, i < n ∧ qOp P ops C i (Heads P md ops C n L f (listed.setIfInBounds i true)) a

theorem Heads.any {n g : Nat} {L : Array Bool → Act → Prop} {Q : Exit → Act → World → Prop} (hL : ∀ listed a w, C w → L listed a → wpAny P md ops Q g listed a w) :
    ∀ (f : Nat) (listed : Array Bool) (a : Act) (w : World), C w → Heads P md ops C n L f listed a → wpAny P md ops Q (f + g) listed a w
  | 0, _, _, _, hw, h => by rw [Nat.zero_add]; exact hL _ _ _ hw h
  | f + 1, _, _, _, hw, h => by
    rw [Nat.add_right_comm]
    exact ⟨fun e => absurd e h.1, fun i hi => wpOp_of_qOp hw (fun a' w' hw' h' => Heads.any hL f _ a' w' hw' h') (h.2 i hi).2⟩

theorem Heads.first {n i : Nat} {oi : Oper} {v : Value} {L : Array Bool → Act → Prop} (hi : ops[i]? = some oi) (hsel : ∀ (j : Nat) (o : Oper) cs b, ops[j]? = some o → o.op ≠ .select cs b)
    (hs : Region.sinkB md ops n = true) (hc : Region.chainB md ops n = true) (hn : n < ops.size) (hin : i < n) (hdone : ∀ listed a, L listed a → ∀ j ∈ Region.ready md ops listed, n ≤ j) (f : Nat) :
    ∀ (listed : Array Bool) (a : Act), HeadInv md ops n listed →
      (∀ j oj, ops[j]? = some oj → j ≠ i → listed.getD j true = false → (∀ e ∈ oj.after, Region.binds md e = true → e.on ≠ i) → oi.apart ops oj = true) →
      i ∈ Region.ready md ops listed → YieldsIn P ops C oi v a → Heads P md ops C n L f (listed.setIfInBounds i true) (a.put oi.dst v) → Heads P md ops C n L (f + 1) listed a := by
  have low : ∀ listed, HeadInv md ops n listed → listed.getD i true = false → ∀ j ∈ Region.ready md ops listed, j < n := fun listed inv hun j hj =>
    (Nat.lt_or_ge j n).elim id fun h => absurd hj (tail_waits hs hc hn inv _ i rfl hin hun j h)
  induction f with
  | zero =>
    intro listed a inv _ hr hy H
    refine ⟨List.ne_nil_of_mem hr, fun j hj => ⟨low listed inv (mem_ready.1 hr).1 j hj, ?_⟩⟩
    by_cases e : j = i
    · subst e; exact hy.qOp hi H
    · exact absurd (hdone _ _ H j (ready_mono hj e)) (by have := low listed inv (mem_ready.1 hr).1 j hj; omega)
  | succ f ih =>
    intro listed a inv free hr hy H
    have hun := (mem_ready.1 hr).1
    refine ⟨List.ne_nil_of_mem hr, fun j hj => ⟨low listed inv hun j hj, ?_⟩⟩
    by_cases e : j = i
    · subst e; exact hy.qOp hi H
    · obtain ⟨jun, oj, hoj, all⟩ := mem_ready.1 hj
      have nowait : ∀ e ∈ oj.after, Region.binds md e = true → e.on ≠ i := fun e he hb eq => by
        have h1 := all e he hb
        rw [eq, getD_both hun] at h1
        cases h1
      have free' : ∀ k ok, ops[k]? = some ok → k ≠ i → (listed.setIfInBounds j true).getD k true = false → (∀ e ∈ ok.after, Region.binds md e = true → e.on ≠ i) → oi.apart ops ok = true := fun k ok hk hki kun hno => by
        by_cases ejk : j = k
        · subst ejk; exact free j ok hk hki jun hno
        · rw [getD_set_ne true ejk] at kun; exact free k ok hk hki kun hno
      have step := qOp_put hoj (free j oj hoj e jun nowait) (fun cs b => hsel i oi cs b hi) (fun cs b => hsel j oj cs b hoj) hy (H.2 j (ready_mono hj e)).2
      refine qOp_mono (fun a' h3 => ih _ a' (inv.set hj (low listed inv hun j hj)) free' (ready_mono hr (Ne.symm e)) h3.1 ?_) step
      rw [Array.setIfInBounds_comm _ _ e]
      exact h3.2

theorem Heads.lex {n g : Nat} {Lq : Act → Prop} (hsel : Region.noSelect ops = true) (hs : Region.sinkB md ops n = true) (hc : Region.chainB md ops n = true) (hn : n < ops.size) :
    ∀ (l : List Oper) (k : Nat) (listed : Array Bool) (a : Act), (∀ j, j < l.length → l[j]? = ops[k + j]?) → k + l.length = n → HeadInv md ops n listed →
    Region.lexHead md ops g l.length k listed = true → wpQuiet P ops C Lq l a → Heads P md ops C n (fun listed' a' => Region.seqB md ops g n listed' = true ∧ Lq a') l.length listed a
  | [], k, listed, a, _, hk, _, hB, h => by
    obtain rfl : k = n := by simpa using hk
    exact ⟨by simpa [Region.lexHead] using hB, h⟩
  | o :: l, k, listed, a, hl, hk, inv, hB, h => by
    have h0 : ops[k]? = some o := by simpa using (hl 0 (by simp)).symm
    simp only [List.length_cons, Region.lexHead, Bool.and_eq_true] at hB
    obtain ⟨⟨hr, hf⟩, hB'⟩ := hB
    have hkn : k < n := by simp only [List.length_cons] at hk; omega
    have hr' : k ∈ Region.ready md ops listed := by simpa using hr
    have hq : qOp P ops C k (wpQuiet P ops C Lq l) a := by unfold qOp; simp only [h0]; exact h
    obtain ⟨v, hy, hK⟩ := yieldsIn_of_qOp h0 hq
    refine Heads.first h0 (Region.noSelect_spec hsel) hs hc hn hkn (fun _ _ hL => seqB_ready hL.1) l.length listed a inv (Region.free_spec h0 hf) hr' hy ?_
    exact Heads.lex hsel hs hc hn l (k + 1) _ _ (fun j hj => by have := hl (j + 1) (by simp; omega); simpa [Nat.add_assoc, Nat.add_comm 1 j] using this) (by simp only [List.length_cons] at hk; omega) (inv.set hr' hkn) hB' hK

theorem region_quiet_tail {id : Nat} {Q : Exit → Act → World → Prop} {a : Act} {w : World} {l : List Oper} (n : Nat) (hm : P.follows .mixedOrders = true) (hB : Region.lexTailB .any l.toArray n = true) (hC : C w.drew)
    (h : wpQuiet P l.toArray C (fun a' => ∀ w', C w' → wpList P l.toArray Q (l.drop n) a' w') (l.take n) a) : (Code.region id l.toArray true).wp P Q a w := by
  simp only [Region.lexTailB, Bool.and_eq_true, decide_eq_true_eq] at hB
  obtain ⟨⟨⟨⟨hsel, hn⟩, hs⟩, hc⟩, hlex⟩ := hB
  have hn' : n < l.length := by simpa using hn
  have tk : (l.take n).length = n := by simp; omega
  have dk : (l.drop n).length = l.toArray.size - n := by simp
  have inv0 : HeadInv .any l.toArray n (Array.replicate l.toArray.size false) :=
    ⟨by simp, fun j oj _ hl => (by rw [getD_replicate_false] at hl; cases hl), fun t _ ht => getD_in (by simpa using ht) (getD_replicate_false _ _)⟩
  have H := Heads.lex (md := .any) (g := l.toArray.size - n) hsel hs hc hn (l.take n) 0 _ a (fun j hj => by
    have hj' : j < n := by rw [tk] at hj; exact hj
    simp [hj']) (by simpa using tk) inv0 (by rw [tk]; exact hlex) h
  refine wp_region_any hm ?_
  have G := Heads.any (Q := Q) (g := l.toArray.size - n) (fun listed a' w' hw' hL => by
    have := wpAny_of_seq (md := .any) (Q' := Q) (l.drop n) n listed a' w' (fun j => by simp [List.getElem?_drop]) (by rw [dk]; exact hL.1) (hL.2 w' hw')
    rwa [dk] at this) _ _ _ w.drew hC H
  rw [tk, show n + (l.toArray.size - n) = l.toArray.size by omega] at G
  exact G
/-- .. over the class of the worlds with more blocks. -/
theorem region_gx_tail {id : Nat} {Q : Exit → Act → World → Prop} {a : Act} {w : World} {y : Ext} {l : List Oper} (n : Nat) (hm : P.follows .mixedOrders = true) (hB : Region.lexTailB .any l.toArray n = true)
    (h : wpQuiet P l.toArray (fun w' => ∃ x, w' = gx w x) (fun a' => ∀ w', (∃ x, w' = gx w x) → wpList P l.toArray Q (l.drop n) a' w') (l.take n) a) : (Code.region id l.toArray true).wp P Q a (gx w y) :=
  region_quiet_tail n hm hB (Gx.drew ⟨y, rfl⟩) h
end
end Go.Proofs.YthkccbeffonaaaaGreatDoor

/-
  What is wrong with a frame: contracts.
-/
namespace Go.Proofs.YthkccbeffonaaaaGreatDoor
open Go.RowKit

/-- A whole frame is read in a region that draws its order. -/
theorem quiet_fr {ops : Array Oper} {C : World → Prop} {Q : Act → Prop} {a : Act} {o : Oper} {rest : List Oper} (hw : Region.wanted o (yielded ops a.tmps) = true) (x : Operand) (ho : o.op = .load 57 x)
    (g : Nat) (hx : a.eval x = .pointer (some ⟨g, 0, none⟩)) (F : List Int) (hC : ∀ w, C w → At w g (.cells (fc F) 57 (0, 0))) (hl : F.length = 64)
    (h : wpQuiet Tryz.prog ops C Q rest (a.put o.dst (.agg (fc F)))) : wpQuiet Tryz.prog ops C Q (o :: rest) a := by
  refine BigFrame.wpQuiet_want hw fun K hK => ⟨.agg (fc F), fun w hw' => ?_, hK _ h⟩
  unfold Oper.quietAt execOp
  simp only [ho, hx, Instr.loadAt, Instr.sureAddr, Sem.run_bind, Sem.run_pure, Result.andThen_ok, load_at (hC w hw') hl]
  exact ⟨rfl, rfl⟩

set_option maxHeartbeats 600000 in
set_option maxRecDepth 100000 in
theorem fitsSync_any (F : List Int) (hF : Fr F) (w : World) (hT : Tab w) :
    Calls Tryz.prog 168 #[.agg (fc F)] w fun e w' => e = .returned (.bool (syncOk F)) ∧ ∃ x, w' = gx w x := by
  have hl := hF.len
  have b0 := (numI_bd F).1
  have e : (gw F 0 == syncI (numI F)) = syncOk F := rfl
  go_enter Tryz.func168, Tryz.ntmps168
  go_wp2
  first | (with_reducible refine region_gxx (by kernel_rfl) (by kernel_rfl) ?_) | (with_reducible refine region_gx (by kernel_rfl) (by kernel_rfl) ?_)
  repeat (any_goals (first | (refine quiet_fr rfl _ rfl _ rfl ?_ ?_ ?_ ?_; rotate_left; (focus (rintro _ ⟨x, rfl⟩; (focus (repeat (first | (with_reducible exact At.new _ _) | (with_reducible refine At.row ?_) | (with_reducible refine At.gx ?_) | ((with_reducible refine At.new' ?_); focus (simp; done)) | (with_reducible refine At.alloc ?_) | (with_reducible refine At.drew ?_) | (with_reducible exact Is.new _ _ _) | (with_reducible refine Is.row ?_) | (with_reducible refine Is.gx ?_) | ((with_reducible refine Is.new' ?_); focus (simp; done)) | (with_reducible refine Is.alloc ?_) | (with_reducible refine Is.drew ?_)))))); (focus (with_reducible (first | exact hl | exact hl1 | exact hl2 | exact hl3 | exact hl4 | exact zeroF_len)))) | go_big_quiet_step ((first | (go_at_call 142; exact calls_gx (numberOf_any F hF _)) | (go_at_call 156; exact calls_gx_same (syncFor_any _ b0 _ (by (focus (repeat (first | (with_reducible exact hT) | (with_reducible assumption) | (with_reducible refine Tab.gx ?_ _) | (with_reducible refine Tab.alloc ?_ _))))))))) | quiet_step ((first | (go_at_call 142; exact calls_gx (numberOf_any F hF _)) | (go_at_call 156; exact calls_gx_same (syncFor_any _ b0 _ (by (focus (repeat (first | (with_reducible exact hT) | (with_reducible assumption) | (with_reducible refine Tab.gx ?_ _) | (with_reducible refine Tab.alloc ?_ _)))))))))))
  refine wpQuiet_nil ?_
  rintro _ ⟨x, rfl⟩
  go_wp2
  go_ret
  exact ⟨rfl, (by repeat (first | (with_reducible exact Gx.refl _) | (with_reducible assumption) | (with_reducible refine Gx.gx ?_) | (with_reducible refine Gx.alloc ?_) | (with_reducible refine Gx.drew ?_) | (with_reducible refine Gx.drewN ?_) | (with_reducible refine Gx.setRow ?_ (by simp)) | (with_reducible refine Gx.setCell ?_ (by simp))))⟩

set_option maxHeartbeats 600000 in
set_option maxRecDepth 100000 in
theorem fitsSum_any (F : List Int) (hF : Fr F) (w : World) :
    Calls Tryz.prog 170 #[.agg (fc F)] w fun e w' => e = .returned (.bool (sumOk F)) ∧ ∃ x, w' = gx w x := by
  have hl := hF.len
  have k1 : 0 ≤ gw F 61 := (hF.bd _).1
  have k2 : gw F 61 ≤ 65535 := (hF.bd _).2
  have e : (gw F 61 % 2048 == sumI F) = sumOk F := rfl
  go_enter Tryz.func170, Tryz.ntmps170
  go_wp2
  first | (with_reducible refine region_gxx (by kernel_rfl) (by kernel_rfl) ?_) | (with_reducible refine region_gx (by kernel_rfl) (by kernel_rfl) ?_)
  repeat (any_goals (first | (refine quiet_fr rfl _ rfl _ rfl ?_ ?_ ?_ ?_; rotate_left; (focus (rintro _ ⟨x, rfl⟩; (focus (repeat (first | (with_reducible exact At.new _ _) | (with_reducible refine At.row ?_) | (with_reducible refine At.gx ?_) | ((with_reducible refine At.new' ?_); focus (simp; done)) | (with_reducible refine At.alloc ?_) | (with_reducible refine At.drew ?_) | (with_reducible exact Is.new _ _ _) | (with_reducible refine Is.row ?_) | (with_reducible refine Is.gx ?_) | ((with_reducible refine Is.new' ?_); focus (simp; done)) | (with_reducible refine Is.alloc ?_) | (with_reducible refine Is.drew ?_)))))); (focus (with_reducible (first | exact hl | exact hl1 | exact hl2 | exact hl3 | exact hl4 | exact zeroF_len)))) | go_big_quiet_step ((first | (go_at_call 173; exact calls_gx_same (dataOf_any _ k1 k2 _)) | (go_at_call 158; exact calls_gx (sumOf_any F hF _)))) | quiet_step ((first | (go_at_call 173; exact calls_gx_same (dataOf_any _ k1 k2 _)) | (go_at_call 158; exact calls_gx (sumOf_any F hF _))))))
  refine wpQuiet_nil ?_
  rintro _ ⟨x, rfl⟩
  go_wp2
  go_ret
  exact ⟨rfl, (by repeat (first | (with_reducible exact Gx.refl _) | (with_reducible assumption) | (with_reducible refine Gx.gx ?_) | (with_reducible refine Gx.alloc ?_) | (with_reducible refine Gx.drew ?_) | (with_reducible refine Gx.drewN ?_) | (with_reducible refine Gx.setRow ?_ (by simp)) | (with_reducible refine Gx.setCell ?_ (by simp))))⟩

theorem hi_bd (F : List Int) : 0 ≤ hiI F ∧ hiI F ≤ 4095 := wordI_bd _
theorem lo_bd (F : List Int) : 0 ≤ loI F ∧ loI F ≤ 4095 := wordI_bd _

set_option maxHeartbeats 600000 in
set_option maxRecDepth 100000 in
theorem fitsCheck_any (F : List Int) (hF : Fr F) (hn : Narrow F) (w : World) :
    Calls Tryz.prog 171 #[.agg (fc F)] w fun e w' => e = .returned (.bool (chkOk F)) ∧ ∃ x, w' = gx w x := by
  have hl := hF.len
  have k1 : 0 ≤ gw F 62 := (hF.bd _).1
  have k2 : gw F 62 ≤ 65535 := (hF.bd _).2
  have k3 : 0 ≤ gw F 63 := (hF.bd _).1
  have k4 : gw F 63 ≤ 65535 := (hF.bd _).2
  have q1 := (hi_bd F).1
  have q2 : hiI F ≤ 65535 := by have := (hi_bd F).2; omega
  have q3 := (lo_bd F).1
  have q4 : loI F ≤ 65535 := by have := (lo_bd F).2; omega
  have e1 : (gw F 62 % 2048 == hiI F % 2048) = hiOk F := rfl
  have e2 : (gw F 63 % 2048 == loI F % 2048) = loOk F := rfl
  cases h : hiOk F
  all_goals
    go_enter Tryz.func171, Tryz.ntmps171
    go_wp2_with (first | (refine load_fr rfl _ rfl _ rfl ?_ ?_ ?_ ?_; rotate_left; (focus (repeat (first | (with_reducible exact At.new _ _) | (with_reducible refine At.row ?_) | (with_reducible refine At.gx ?_) | ((with_reducible refine At.new' ?_); focus (simp; done)) | (with_reducible refine At.alloc ?_) | (with_reducible refine At.drew ?_) | (with_reducible exact Is.new _ _ _) | (with_reducible refine Is.row ?_) | (with_reducible refine Is.gx ?_) | ((with_reducible refine Is.new' ?_); focus (simp; done)) | (with_reducible refine Is.alloc ?_) | (with_reducible refine Is.drew ?_)))); (focus (with_reducible (first | exact hl | exact hl1 | exact hl2 | exact hl3 | exact hl4 | exact zeroF_len)))) | (go_at_call 159; refine (checkWords_any F hF hn _).mono ?_; rintro e w' ⟨rfl, z, rfl⟩) | (go_at_call 173; refine (dataOf_any _ (by assumption) (by assumption) _).mono ?_; rintro e w' ⟨rfl, rfl⟩))
    go_ret
    exact ⟨by unfold chkOk; rw [h]; rfl, (by repeat (first | (with_reducible exact Gx.refl _) | (with_reducible assumption) | (with_reducible refine Gx.gx ?_) | (with_reducible refine Gx.alloc ?_) | (with_reducible refine Gx.drew ?_) | (with_reducible refine Gx.drewN ?_) | (with_reducible refine Gx.setRow ?_ (by simp)) | (with_reducible refine Gx.setCell ?_ (by simp))))⟩

set_option maxHeartbeats 1000000 in
set_option maxRecDepth 100000 in
theorem isSound_any (F : List Int) (hF : Fr F) (hn : Narrow F) (w : World) (hT : Tab w) :
    Calls Tryz.prog 140 #[.agg (fc F)] w fun e w' => e = .returned (.bool (soundB F)) ∧ ∃ x, w' = gx w x := by
  have hl := hF.len
  have hs : soundB F = (syncOk F && (parOk F 63 && (sumOk F && chkOk F))) := rfl
  have Hs := Lib.hid hs
  clear hs
  cases h1 : syncOk F
  · go_enter Tryz.func140, Tryz.ntmps140
    go_wp2_with (first | (refine load_fr rfl _ rfl _ rfl ?_ ?_ ?_ ?_; rotate_left; (focus (repeat (first | (with_reducible exact At.new _ _) | (with_reducible refine At.row ?_) | (with_reducible refine At.gx ?_) | ((with_reducible refine At.new' ?_); focus (simp; done)) | (with_reducible refine At.alloc ?_) | (with_reducible refine At.drew ?_) | (with_reducible exact Is.new _ _ _) | (with_reducible refine Is.row ?_) | (with_reducible refine Is.gx ?_) | ((with_reducible refine Is.new' ?_); focus (simp; done)) | (with_reducible refine Is.alloc ?_) | (with_reducible refine Is.drew ?_)))); (focus (with_reducible (first | exact hl | exact hl1 | exact hl2 | exact hl3 | exact hl4 | exact zeroF_len)))) | (go_at_call 168; refine (fitsSync_any F hF _ ?_).mono ?_; (focus (repeat (first | (with_reducible exact hT) | (with_reducible assumption) | (with_reducible refine Tab.gx ?_ _) | (with_reducible refine Tab.alloc ?_ _)))); rintro e w' ⟨rfl, z, rfl⟩))
    go_ret
    exact ⟨by rw [Hs.out, h1]; rfl, (by repeat (first | (with_reducible exact Gx.refl _) | (with_reducible assumption) | (with_reducible refine Gx.gx ?_) | (with_reducible refine Gx.alloc ?_) | (with_reducible refine Gx.drew ?_) | (with_reducible refine Gx.drewN ?_) | (with_reducible refine Gx.setRow ?_ (by simp)) | (with_reducible refine Gx.setCell ?_ (by simp))))⟩
  · go_enter Tryz.func140, Tryz.ntmps140
    go_wp2_with (first | (refine load_fr rfl _ rfl _ rfl ?_ ?_ ?_ ?_; rotate_left; (focus (repeat (first | (with_reducible exact At.new _ _) | (with_reducible refine At.row ?_) | (with_reducible refine At.gx ?_) | ((with_reducible refine At.new' ?_); focus (simp; done)) | (with_reducible refine At.alloc ?_) | (with_reducible refine At.drew ?_) | (with_reducible exact Is.new _ _ _) | (with_reducible refine Is.row ?_) | (with_reducible refine Is.gx ?_) | ((with_reducible refine Is.new' ?_); focus (simp; done)) | (with_reducible refine Is.alloc ?_) | (with_reducible refine Is.drew ?_)))); (focus (with_reducible (first | exact hl | exact hl1 | exact hl2 | exact hl3 | exact hl4 | exact zeroF_len)))) | (go_at_call 168; refine (fitsSync_any F hF _ ?_).mono ?_; (focus (repeat (first | (with_reducible exact hT) | (with_reducible assumption) | (with_reducible refine Tab.gx ?_ _) | (with_reducible refine Tab.alloc ?_ _)))); rintro e w' ⟨rfl, z, rfl⟩))
    go_loopw [3] (fun i wr => ∃ (k : Nat) (x : Ext), k ≤ 63 ∧ i = .int .i64 (k + 1 : Nat) ∧ parOk F k = true ∧ wr = gx (w.alloc (.cells (fc F) 57)) x) (fun i _ => 65 - (intOf i).toNat)
    case atStart => exact ⟨0, _, Nat.zero_le _, rfl, rfl, rfl⟩
    case round =>
      obtain ⟨k, y, hk, rfl, hp, rfl⟩ := hrel
      by_cases hlt : k < 63
      · have hlt' : k + 1 < 64 := by omega
        have k1 : 0 ≤ gw F (k + 1) := (hF.bd _).1
        have k2 : gw F (k + 1) ≤ 65535 := (hF.bd _).2
        cases ho : oddI (gw F (k + 1))
        · have hnp : parOk F 63 = false := by
            cases h : parOk F 63 with
            | false => rfl
            | true => rw [(parOk_true F 63).1 h (k + 1) (by omega) (by omega)] at ho; cases ho
          have Hp := Lib.hid hnp
          clear hnp hp
          go_wp2_with (go_at_call 169; refine (isEven_any _ k1 k2 _).mono ?_; rintro e w' ⟨rfl, z, rfl⟩)
          go_ret
          exact ⟨by rw [Hs.out, h1, Hp.out]; rfl, (by repeat (first | (with_reducible exact Gx.refl _) | (with_reducible assumption) | (with_reducible refine Gx.gx ?_) | (with_reducible refine Gx.alloc ?_) | (with_reducible refine Gx.drew ?_) | (with_reducible refine Gx.drewN ?_) | (with_reducible refine Gx.setRow ?_ (by simp)) | (with_reducible refine Gx.setCell ?_ (by simp))))⟩
        · have Hp : Hid (parOk F (k + 1) = true) := by show (parOk F k && _) = true; rw [hp, ho]; rfl
          clear hp
          go_wp2_with (go_at_call 169; refine (isEven_any _ k1 k2 _).mono ?_; rintro e w' ⟨rfl, z, rfl⟩)
          go_roundw
          case rel => exact ⟨k + 1, _, by omega, by go_num, Hp.out, rfl⟩
          case measure => simp [intOf]; omega
      · obtain rfl : k = 63 := by omega
        have Hp := Lib.hid hp
        clear hp
        cases h3 : sumOk F
        all_goals
          go_wp2_with (first | (refine load_fr rfl _ rfl _ rfl ?_ ?_ ?_ ?_; rotate_left; (focus (repeat (first | (with_reducible exact At.new _ _) | (with_reducible refine At.row ?_) | (with_reducible refine At.gx ?_) | ((with_reducible refine At.new' ?_); focus (simp; done)) | (with_reducible refine At.alloc ?_) | (with_reducible refine At.drew ?_) | (with_reducible exact Is.new _ _ _) | (with_reducible refine Is.row ?_) | (with_reducible refine Is.gx ?_) | ((with_reducible refine Is.new' ?_); focus (simp; done)) | (with_reducible refine Is.alloc ?_) | (with_reducible refine Is.drew ?_)))); (focus (with_reducible (first | exact hl | exact hl1 | exact hl2 | exact hl3 | exact hl4 | exact zeroF_len)))) | (go_at_call 170; refine (fitsSum_any F hF _).mono ?_; rintro e w' ⟨rfl, z, rfl⟩) | (go_at_call 171; refine (fitsCheck_any F hF hn _).mono ?_; rintro e w' ⟨rfl, z, rfl⟩))
          go_ret
          exact ⟨by rw [Hs.out, h1, Hp.out, h3]; rfl, (by repeat (first | (with_reducible exact Gx.refl _) | (with_reducible assumption) | (with_reducible refine Gx.gx ?_) | (with_reducible refine Gx.alloc ?_) | (with_reducible refine Gx.drew ?_) | (with_reducible refine Gx.drewN ?_) | (with_reducible refine Gx.setRow ?_ (by simp)) | (with_reducible refine Gx.setCell ?_ (by simp))))⟩

end Go.Proofs.YthkccbeffonaaaaGreatDoor

/-
  Two frames compared, and the small frame that every law asks for.
-/
namespace Go.Proofs.YthkccbeffonaaaaGreatDoor
open Go.RowKit

/-- Are two frames equal? -/
def eqF (F G : List Int) : Bool := (List.range 64).all fun i => gw F i == gw G i
theorem eqF_iff {F G : List Int} (hF : F.length = 64) (hG : G.length = 64) : eqF F G = true ↔ F = G := by
  unfold eqF
  rw [List.all_eq_true]
  constructor
  · intro h
    exact ext_gw (by omega) fun k hk => by
      have := h k (List.mem_range.2 (by omega))
      simpa using this
  · rintro rfl i _
    simp
theorem eqF_self (F : List Int) : eqF F F = true := by unfold eqF; simp
attribute [irreducible] eqF

theorem info16 : ∃ i, Tryz.prog.info? 55 = some i ∧ i.size = 1 := by
  have h : (Tryz.prog.info? 55).map (·.size) = some 1 := by kernel_rfl
  obtain ⟨i, h1, h2⟩ := Option.map_eq_some_iff.1 h
  exact ⟨i, h1, h2⟩

theorem part_fr (F : List Int) (i : Nat) (hi : i < 64) (hF : F.length = 64) (w : World) : (part 55 (fc F) i).run Tryz.prog w = .ok (.int .u16 (gw F i)) w := by
  have hg := fc_get F i (by omega)
  simp [part, go_sem, hg]

theorem eqItems_fr (d : Nat) (F G : List Int) (hF : F.length = 64) (hG : G.length = 64) (w : World) : ∀ is : List Nat, (∀ i ∈ is, i < 64) →
    (Op.eqItems (d + 1) 55 1 (fc F) (fc G) is).run Tryz.prog w = .ok (is.all fun i => gw F i == gw G i) w
  | [], _ => by simp [Op.eqItems]
  | i :: is, h => by
    have hi : i < 64 := h i (by simp)
    have ih := eqItems_fr d F G hF hG w is fun j hj => h j (by simp [hj])
    simp only [Op.eqItems, Nat.mul_one, Sem.run_bind, part_fr F i hi hF, part_fr G i hi hG, Result.andThen_ok, run_equalIn_int w d 55 .u16 .u16 _ _ Tryz.underlying55]
    cases hb : gw F i == gw G i
    · simp [hb]
    · simp [hb, ih]

@[go_sem high] theorem equal_fr (F G : List Int) (hF : F.length = 64) (hG : G.length = 64) (w : World) : (Op.equalIn 10000 57 (.agg (fc F)) (.agg (fc G))).run Tryz.prog w = .ok (eqF F G) w := by
  obtain ⟨i, h1, h2⟩ := info16
  rw [run_equalIn_array w 9999 (fc F) (fc G) Tryz.underlying57 h1]
  have h3 : Tryz.prog.cellsOf 55 = 1 := by kernel_rfl
  rw [h3]
  unfold eqF
  exact eqItems_fr 9998 F G hF hG w (List.range 64) fun i hi => List.mem_range.1 hi

/-! Slices that a call makes. -/
def ic (B : List Int) : Array Value := (B.map (Value.int .i64)).toArray
@[go_sem] theorem ic_get (F : List Int) (k : Nat) (h : k < F.length) : (ic F)[k]? = some (.int .i64 (gw F k)) := by
  simp [ic, gw, List.getD, List.getElem?_eq_getElem h]
@[go_sem] theorem ic_set (F : List Int) (k : Nat) (v : Int) : (ic F).setIfInBounds k (.int .i64 v) = ic (F.set k v) := by
  simp [ic, List.map_set]
@[irreducible] def zerosI (n : Nat) : List Int := List.replicate n 0
theorem zerosI_len (n : Nat) : (zerosI n).length = n := by unfold zerosI; simp
theorem zerosI_get (n k : Nat) : gw (zerosI n) k = 0 := by unfold zerosI gw; exact getD_zeros n k
@[go_sem high] theorem make58 (w : World) : (Instr.makeSlice 23 (.int .i64 58) (.int .i64 58)).run Tryz.prog w = .ok (.slice (some ⟨w.heap.size, 0, none⟩) 58 58) (w.alloc (.cells (ic (zerosI 58)) 3)) := by
  unfold zerosI
  kernel_rfl
@[go_sem high] theorem make98 (w : World) : (Instr.makeSlice 39 (.int .i64 98) (.int .i64 98)).run Tryz.prog w = .ok (.slice (some ⟨w.heap.size, 0, none⟩) 98 98) (w.alloc (.cells (bc (zerosI 98)) 5)) := by
  unfold zerosI
  kernel_rfl

/-! The small frame. -/
def dataD : List Int := (zerosI 58).set 0 5
theorem dataD_len : dataD.length = 58 := by unfold dataD; simp [zerosI_len]
def smallF : List Int := newF zeroF 2050 dataD
theorem smallE : newE 2050 dataD = 0 := by decide +kernel
theorem small0 : gw smallF 0 = 2631 := by decide +kernel
theorem small1 : gw smallF 1 = 2 := by decide +kernel
theorem small2 : gw smallF 2 = 1 := by decide +kernel
theorem small3 : gw smallF 3 = 2053 := by decide +kernel
theorem small_sound : soundB smallF = true := by decide +kernel
theorem small_wide : wideB smallF = false := by decide +kernel
def smallB : List Int := wrF (zerosI 98) 1 smallF
theorem smallB0 : gw smallB 0 = 0 := by decide +kernel
theorem smallB97 : gw smallB 97 = 0 := by decide +kernel
def smallT : List Int := smallB.drop 1
theorem small_read : rdF smallT = smallF := by decide +kernel
theorem smallB_len : smallB.length = 98 := by unfold smallB; rw [wrF_len, zerosI_len]
theorem small_len : smallF.length = 64 := by decide +kernel
theorem small_fr : Fr smallF := by
  have hi : inTo dataD 58 = true := by decide +kernel
  have h : smallF = sealI (newTo zeroF 2050 dataD 58) := by unfold smallF newF; rw [smallE]; rfl
  rw [h]
  exact sealI_fr (newTo_fr zeroF_fr 2050 dataD (by decide) (by decide) 58 (by omega) hi)
theorem zeros_bs (n : Nat) : Bs (zerosI n) := fun k => by rw [zerosI_get]; decide
theorem smallB_bs : Bs smallB := wrF_bs (zeros_bs 98) 1 small_fr (wideB_false.1 small_wide)
theorem gw_drop (F : List Int) (n k : Nat) : gw (F.drop n) k = gw F (n + k) := by
  unfold gw
  simp [List.getD, List.getElem?_drop]
theorem smallT_eq : smallB.drop (0 + 1) = smallT := rfl
theorem smallT_bs : Bs smallT := fun k => by unfold smallT; rw [gw_drop]; exact smallB_bs _
attribute [irreducible] dataD smallF smallB smallT

theorem Bs.drop {C : List Int} (h : Bs C) (n : Nat) : Bs (C.drop n) := fun k => by rw [gw_drop]; exact h _
theorem cells_of_at {w : World} {g : Nat} {C : List Int} (hA : At w g (.cells (bc C) 5 (0, 0))) (q n : Nat) (h : q + n ≤ C.length) {B : List Int} (hB : C.drop q = B) : ∀ j, j < n → w.cell? ⟨g, q + j, none⟩ = some (.int .u8 (gw B j)) := by
  intro j hj
  subst hB
  rw [cell_of_row w g (q + j) _ _ _ hA, bc_get C (q + j) (by omega), gw_drop]

theorem icells_of_at {w : World} {g : Nat} {D : List Int} (hA : At w g (.cells (ic D) 3 (0, 0))) (n : Nat) (h : n ≤ D.length) : ∀ j, j < n → w.cell? ⟨g, 0 + j, none⟩ = some (.int .i64 (gw D j)) := by
  intro j hj
  rw [Nat.zero_add, cell_of_row w g j _ _ _ hA, ic_get D j (by omega)]

end Go.Proofs.YthkccbeffonaaaaGreatDoor
