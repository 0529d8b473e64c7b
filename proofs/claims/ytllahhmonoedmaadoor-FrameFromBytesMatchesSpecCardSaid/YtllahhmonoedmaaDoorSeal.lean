/-
  Sealing a frame: contracts.
-/
import Derived.Test.YtllahhmonoedmaaDoorFrame
namespace Go.Proofs.YtllahhmonoedmaaDoor
open Go.RowKit

set_option maxHeartbeats 1000000 in
set_option maxRecDepth 100000 in
theorem checkWords_any (F : List Int) (hF : Fr F) (hn : Narrow F) (w : World) :
    Calls Tryd.prog 115 #[.agg (fc F)] w fun e w' => e = .returned (.tuple #[.int .u16 (hiI F), .int .u16 (loI F)]) ∧ ∃ x, w' = gx w x := by
  have hl := hF.len
  have hb := chkI_bd F
  have b0 := hb.1
  have b1 := hb.2
  have e1 : wordI (chkI F / 2048) = hiI F := rfl
  have e2 : wordI (chkI F % 2048) = loI F := rfl
  clear hb
  go_enter Tryd.func115, Tryd.ntmps115
  go_wp2_with (first | (refine load_fr rfl _ rfl _ rfl ?_ ?_ ?_ ?_; rotate_left; (focus (repeat (first | (with_reducible exact At.new _ _) | (with_reducible refine At.row ?_) | (with_reducible refine At.gx ?_) | ((with_reducible refine At.new' ?_); focus (simp; done)) | (with_reducible refine At.alloc ?_) | (with_reducible refine At.drew ?_) | (with_reducible exact Is.new _ _ _) | (with_reducible refine Is.row ?_) | (with_reducible refine Is.gx ?_) | ((with_reducible refine Is.new' ?_); focus (simp; done)) | (with_reducible refine Is.alloc ?_) | (with_reducible refine Is.drew ?_)))); (focus (with_reducible (first | exact hl | exact hl1 | exact hl2 | exact hl3 | exact hl4 | exact zeroF_len)))) | (go_at_call 118; refine (checkOf_any F hF hn _).mono ?_; rintro e w' ⟨rfl, x, rfl⟩) | (go_at_call 73; refine (withParity_any _ (by omega) (by omega) _).mono ?_; rintro e w' ⟨rfl, x, rfl⟩))
  go_ret2
  exact ⟨rfl, (by repeat (first | (with_reducible exact Gx.refl _) | (with_reducible assumption) | (with_reducible refine Gx.gx ?_) | (with_reducible refine Gx.alloc ?_) | (with_reducible refine Gx.drew ?_) | (with_reducible refine Gx.drewN ?_) | (with_reducible refine Gx.setRow ?_ (by simp)) | (with_reducible refine Gx.setCell ?_ (by simp))))⟩

set_option maxHeartbeats 600000 in
set_option maxRecDepth 100000 in
theorem sealed_any (F : List Int) (hF : Fr F) (hn : Narrow F) (w : World) (hT : Tab w) :
    Calls Tryd.prog 80 #[.agg (fc F)] w fun e w' => e = .returned (.agg (fc (sealI F))) ∧ ∃ x, w' = gx w x := by
  have hl := hF.len
  have hb := numI_bd F
  have b0 := hb.1
  clear hb
  go_enter Tryd.func80, Tryd.ntmps80
  go_wp2_with (first | (refine load_fr rfl _ rfl _ rfl ?_ ?_ ?_ ?_; rotate_left; (focus (repeat (first | (with_reducible exact At.new _ _) | (with_reducible refine At.row ?_) | (with_reducible refine At.gx ?_) | ((with_reducible refine At.new' ?_); focus (simp; done)) | (with_reducible refine At.alloc ?_) | (with_reducible refine At.drew ?_) | (with_reducible exact Is.new _ _ _) | (with_reducible refine Is.row ?_) | (with_reducible refine Is.gx ?_) | ((with_reducible refine Is.new' ?_); focus (simp; done)) | (with_reducible refine Is.alloc ?_) | (with_reducible refine Is.drew ?_)))); (focus (with_reducible (first | exact hl | exact hl1 | exact hl2 | exact hl3 | exact hl4 | exact zeroF_len)))) | (go_at_call 83; refine (numberOf_any F hF _).mono ?_; rintro e w' ⟨rfl, x, rfl⟩) | (go_at_call 78; refine (syncFor_any _ b0 _ ?_).mono ?_; (focus (repeat (first | (with_reducible exact hT) | (with_reducible assumption) | (with_reducible refine Tab.gx ?_ _) | (with_reducible refine Tab.alloc ?_ _)))); rintro e w' ⟨rfl, rfl⟩))
  go_loopw [3] (fun i wr => ∃ (k : Nat) (x : Ext), k ≤ 60 ∧ i = .int .i64 (k + 1 : Nat) ∧ wr = gx ((w.alloc (.cells (fc (parTo F k)) 32)).alloc (.cells (fc zeroF) 32)) x) (fun i _ => 62 - (intOf i).toNat)
  case atStart => exact ⟨0, _, Nat.zero_le _, rfl, rfl⟩
  case round =>
    obtain ⟨k, y, hk, rfl, rfl⟩ := hrel
    have hp := parTo_fr hF k hk
    by_cases hlt : k < 60
    · have hlp := hp.len
      have hlt' : k + 1 < 64 := by omega
      have k1 : 0 ≤ gw (parTo F k) (k + 1) := (hp.bd _).1
      have k2 : gw (parTo F k) (k + 1) ≤ 65535 := (hp.bd _).2
      have e : (parTo F k).set (k + 1) (wordI (gw (parTo F k) (k + 1))) = parTo F (k + 1) := rfl
      go_wp2_with (go_at_call 73; refine (withParity_any _ k1 k2 _).mono ?_; rintro e w' ⟨rfl, z, rfl⟩)
      go_roundw
      case rel => exact ⟨k + 1, _, by omega, by go_num, rfl⟩
      case measure => simp [intOf]; omega
    · obtain rfl : k = 60 := by omega
      have hnp := parTo_narrow hF hn 60 hk
      generalize hG : parTo F 60 = G at *
      have hsF : sealI F = chkW (sumW G) := by unfold sealI; rw [hG]
      clear hG
      have Hs := Lib.hid hsF
      clear hsF hl
      have hl := hp.len
      have hb := sumI_bd G
      have b1 := hb.1
      have b2 : sumI G ≤ 65535 := by omega
      clear hb
      have e1 : G.set 61 (wordI (sumI G)) = sumW G := rfl
      have hl1 : (sumW G).length = 64 := (sumW_fr hp).len
      have e2 : ((sumW G).set 62 (hiI (sumW G))).set 63 (loI (sumW G)) = chkW (sumW G) := rfl
      have hl2 : (chkW (sumW G)).length = 64 := (chkW_fr (sumW_fr hp)).len
      go_wp2_with (first | (refine load_fr rfl _ rfl _ rfl ?_ ?_ ?_ ?_; rotate_left; (focus (repeat (first | (with_reducible exact At.new _ _) | (with_reducible refine At.row ?_) | (with_reducible refine At.gx ?_) | ((with_reducible refine At.new' ?_); focus (simp; done)) | (with_reducible refine At.alloc ?_) | (with_reducible refine At.drew ?_) | (with_reducible exact Is.new _ _ _) | (with_reducible refine Is.row ?_) | (with_reducible refine Is.gx ?_) | ((with_reducible refine Is.new' ?_); focus (simp; done)) | (with_reducible refine Is.alloc ?_) | (with_reducible refine Is.drew ?_)))); (focus (with_reducible (first | exact hl | exact hl1 | exact hl2 | exact hl3 | exact hl4 | exact zeroF_len)))) | (refine store_fr rfl _ _ rfl _ rfl _ rfl ?_ ?_ ?_ ?_ ?_; rotate_left; (focus (repeat (first | (with_reducible exact At.new _ _) | (with_reducible refine At.row ?_) | (with_reducible refine At.gx ?_) | ((with_reducible refine At.new' ?_); focus (simp; done)) | (with_reducible refine At.alloc ?_) | (with_reducible refine At.drew ?_) | (with_reducible exact Is.new _ _ _) | (with_reducible refine Is.row ?_) | (with_reducible refine Is.gx ?_) | ((with_reducible refine Is.new' ?_); focus (simp; done)) | (with_reducible refine Is.alloc ?_) | (with_reducible refine Is.drew ?_)))); (focus (with_reducible (first | exact hl | exact hl1 | exact hl2 | exact hl3 | exact hl4 | exact zeroF_len))); (focus (with_reducible (first | exact hl | exact hl1 | exact hl2 | exact hl3 | exact hl4 | exact zeroF_len)))) | (go_at_call 114; refine (sumOf_any G hp _).mono ?_; rintro e w' ⟨rfl, z, rfl⟩) | (go_at_call 115; refine (checkWords_any (sumW G) (sumW_fr hp) (sumW_narrow hp hnp) _).mono ?_; rintro e w' ⟨rfl, z, rfl⟩) | (go_at_call 73; refine (withParity_any _ b1 b2 _).mono ?_; rintro e w' ⟨rfl, z, rfl⟩))
      (refine ret_fr rfl _ _ _ ?_ rfl rfl ?_ ?_ ?_; rotate_left; (focus (repeat (first | (with_reducible exact At.new _ _) | (with_reducible refine At.row ?_) | (with_reducible refine At.gx ?_) | ((with_reducible refine At.new' ?_); focus (simp; done)) | (with_reducible refine At.alloc ?_) | (with_reducible refine At.drew ?_) | (with_reducible exact Is.new _ _ _) | (with_reducible refine Is.row ?_) | (with_reducible refine Is.gx ?_) | ((with_reducible refine Is.new' ?_); focus (simp; done)) | (with_reducible refine Is.alloc ?_) | (with_reducible refine Is.drew ?_)))); (focus (with_reducible (first | exact hl | exact hl1 | exact hl2 | exact hl3 | exact hl4 | exact zeroF_len))))
      exact ⟨by rw [Hs.out], (by repeat (first | (with_reducible exact Gx.refl _) | (with_reducible assumption) | (with_reducible refine Gx.gx ?_) | (with_reducible refine Gx.alloc ?_) | (with_reducible refine Gx.drew ?_) | (with_reducible refine Gx.drewN ?_) | (with_reducible refine Gx.setRow ?_ (by simp)) | (with_reducible refine Gx.setCell ?_ (by simp))))⟩

set_option maxHeartbeats 600000 in
set_option maxRecDepth 100000 in
theorem Seal_any (F : List Int) (hF : Fr F) (w : World) (hT : Tab w) :
    Calls Tryd.prog 27 #[.agg (fc F)] w fun e w' => e = .returned (.tuple #[.agg (fc (sealF F zeroF)), .int .i64 (wideE F)]) ∧ ∃ x, w' = gx w x := by
  have hl := hF.len
  have hl1 : (sealI F).length = 64 := by rw [sealI_len]; exact hl
  cases hw : wideB F
  · have hn := wideB_false.1 hw
    go_enter Tryd.func27, Tryd.ntmps27
    go_wp2_with (first | (refine load_fr rfl _ rfl _ rfl ?_ ?_ ?_ ?_; rotate_left; (focus (repeat (first | (with_reducible exact At.new _ _) | (with_reducible refine At.row ?_) | (with_reducible refine At.gx ?_) | ((with_reducible refine At.new' ?_); focus (simp; done)) | (with_reducible refine At.alloc ?_) | (with_reducible refine At.drew ?_) | (with_reducible exact Is.new _ _ _) | (with_reducible refine Is.row ?_) | (with_reducible refine Is.gx ?_) | ((with_reducible refine Is.new' ?_); focus (simp; done)) | (with_reducible refine Is.alloc ?_) | (with_reducible refine Is.drew ?_)))); (focus (with_reducible (first | exact hl | exact hl1 | exact hl2 | exact hl3 | exact hl4 | exact zeroF_len)))) | (refine store_fr rfl _ _ rfl _ rfl _ rfl ?_ ?_ ?_ ?_ ?_; rotate_left; (focus (repeat (first | (with_reducible exact At.new _ _) | (with_reducible refine At.row ?_) | (with_reducible refine At.gx ?_) | ((with_reducible refine At.new' ?_); focus (simp; done)) | (with_reducible refine At.alloc ?_) | (with_reducible refine At.drew ?_) | (with_reducible exact Is.new _ _ _) | (with_reducible refine Is.row ?_) | (with_reducible refine Is.gx ?_) | ((with_reducible refine Is.new' ?_); focus (simp; done)) | (with_reducible refine Is.alloc ?_) | (with_reducible refine Is.drew ?_)))); (focus (with_reducible (first | exact hl | exact hl1 | exact hl2 | exact hl3 | exact hl4 | exact zeroF_len))); (focus (with_reducible (first | exact hl | exact hl1 | exact hl2 | exact hl3 | exact hl4 | exact zeroF_len)))) | (go_at_call 84; refine (isWide_any F hF _).mono ?_; rintro e w' ⟨rfl, z, rfl⟩) | (go_at_call 80; refine (sealed_any F hF hn _ ?_).mono ?_; (focus (repeat (first | (with_reducible exact hT) | (with_reducible assumption) | (with_reducible refine Tab.gx ?_ _) | (with_reducible refine Tab.alloc ?_ _)))); rintro e w' ⟨rfl, z, rfl⟩))
    (refine ret_fr_tmp rfl _ _ _ ?_ rfl rfl ?_ ?_ ?_; rotate_left; (focus (repeat (first | (with_reducible exact At.new _ _) | (with_reducible refine At.row ?_) | (with_reducible refine At.gx ?_) | ((with_reducible refine At.new' ?_); focus (simp; done)) | (with_reducible refine At.alloc ?_) | (with_reducible refine At.drew ?_) | (with_reducible exact Is.new _ _ _) | (with_reducible refine Is.row ?_) | (with_reducible refine Is.gx ?_) | ((with_reducible refine Is.new' ?_); focus (simp; done)) | (with_reducible refine Is.alloc ?_) | (with_reducible refine Is.drew ?_)))); (focus (with_reducible (first | exact hl | exact hl1 | exact hl2 | exact hl3 | exact hl4 | exact zeroF_len))))
    exact ⟨by unfold sealF wideE; rw [hw]; rfl, (by repeat (first | (with_reducible exact Gx.refl _) | (with_reducible assumption) | (with_reducible refine Gx.gx ?_) | (with_reducible refine Gx.alloc ?_) | (with_reducible refine Gx.drew ?_) | (with_reducible refine Gx.drewN ?_) | (with_reducible refine Gx.setRow ?_ (by simp)) | (with_reducible refine Gx.setCell ?_ (by simp))))⟩
  · go_enter Tryd.func27, Tryd.ntmps27
    go_wp2_with (first | (refine load_fr rfl _ rfl _ rfl ?_ ?_ ?_ ?_; rotate_left; (focus (repeat (first | (with_reducible exact At.new _ _) | (with_reducible refine At.row ?_) | (with_reducible refine At.gx ?_) | ((with_reducible refine At.new' ?_); focus (simp; done)) | (with_reducible refine At.alloc ?_) | (with_reducible refine At.drew ?_) | (with_reducible exact Is.new _ _ _) | (with_reducible refine Is.row ?_) | (with_reducible refine Is.gx ?_) | ((with_reducible refine Is.new' ?_); focus (simp; done)) | (with_reducible refine Is.alloc ?_) | (with_reducible refine Is.drew ?_)))); (focus (with_reducible (first | exact hl | exact hl1 | exact hl2 | exact hl3 | exact hl4 | exact zeroF_len)))) | (refine store_fr rfl _ _ rfl _ rfl _ rfl ?_ ?_ ?_ ?_ ?_; rotate_left; (focus (repeat (first | (with_reducible exact At.new _ _) | (with_reducible refine At.row ?_) | (with_reducible refine At.gx ?_) | ((with_reducible refine At.new' ?_); focus (simp; done)) | (with_reducible refine At.alloc ?_) | (with_reducible refine At.drew ?_) | (with_reducible exact Is.new _ _ _) | (with_reducible refine Is.row ?_) | (with_reducible refine Is.gx ?_) | ((with_reducible refine Is.new' ?_); focus (simp; done)) | (with_reducible refine Is.alloc ?_) | (with_reducible refine Is.drew ?_)))); (focus (with_reducible (first | exact hl | exact hl1 | exact hl2 | exact hl3 | exact hl4 | exact zeroF_len))); (focus (with_reducible (first | exact hl | exact hl1 | exact hl2 | exact hl3 | exact hl4 | exact zeroF_len)))) | (go_at_call 84; refine (isWide_any F hF _).mono ?_; rintro e w' ⟨rfl, z, rfl⟩))
    (refine ret_fr_tmp rfl _ _ _ ?_ rfl rfl ?_ ?_ ?_; rotate_left; (focus (repeat (first | (with_reducible exact At.new _ _) | (with_reducible refine At.row ?_) | (with_reducible refine At.gx ?_) | ((with_reducible refine At.new' ?_); focus (simp; done)) | (with_reducible refine At.alloc ?_) | (with_reducible refine At.drew ?_) | (with_reducible exact Is.new _ _ _) | (with_reducible refine Is.row ?_) | (with_reducible refine Is.gx ?_) | ((with_reducible refine Is.new' ?_); focus (simp; done)) | (with_reducible refine Is.alloc ?_) | (with_reducible refine Is.drew ?_)))); (focus (with_reducible (first | exact hl | exact hl1 | exact hl2 | exact hl3 | exact hl4 | exact zeroF_len))))
    exact ⟨by unfold sealF wideE; rw [hw]; rfl, (by repeat (first | (with_reducible exact Gx.refl _) | (with_reducible assumption) | (with_reducible refine Gx.gx ?_) | (with_reducible refine Gx.alloc ?_) | (with_reducible refine Gx.drew ?_) | (with_reducible refine Gx.drewN ?_) | (with_reducible refine Gx.setRow ?_ (by simp)) | (with_reducible refine Gx.setCell ?_ (by simp))))⟩
end Go.Proofs.YtllahhmonoedmaaDoor
