/-
  The reference's functions that look at a frame, and its sealing: contracts.
-/
import Derived.Test.YtllahhmonoedmaaDoorSeal
namespace Go.Proofs.YtllahhmonoedmaaDoor
open Go.RowKit

@[go_sem high] theorem index_frame (F : List Int) (k : Nat) (h : k < F.length) (hl : F.length = 64) (w : World) :
    (Instr.index 32 (.agg (fc F)) (.int .i64 (k : Int))).run Tryd.prog w = .ok (.int .u16 (gw F k)) w := by
  have hk : ¬ 64 ≤ k := by omega
  have hg := fc_get F k h
  simp [Instr.index, asIntOf, go_sem, run_underlying Tryd.underlying32, hk, part, hg, Sem.run_bind]

set_option maxHeartbeats 400000 in
theorem word_any (d : Int) (h0 : 0 ≤ d) (h1 : d ≤ 2047) (w : World) :
    Calls Tryd.prog 74 #[.int .i64 d] w fun e w' => e = .returned (.int .i64 (wordI d)) ∧ w = w' := by
  have hm : d % 2048 = d := by omega
  have hw : wordI d = if oddI d then d else d + 2048 := by unfold wordI; rw [hm]
  have Hw := Lib.hid hw
  clear hw hm
  cases h : oddI d
  all_goals
    go_enter Tryd.func74, Tryd.ntmps74
    go_wp2_with (go_at_call 77; refine (odd_any _ h0 (by omega) _).mono ?_; rintro e w' ⟨rfl, rfl⟩)
    go_ret
    refine ⟨?_, rfl⟩
    rw [Hw.out, h]
    rfl

set_option maxHeartbeats 400000 in
theorem Right_any (a : Int) (h0 : 0 ≤ a) (h1 : a ≤ 65535) (w : World) :
    Calls Tryd.prog 92 #[.int .u16 a] w fun e w' => e = .returned (.bool (toldI a)) ∧ w = w' := by
  by_cases h : a ≤ 4095
  · go_enter Tryd.func92, Tryd.ntmps92
    go_wp2_with (go_at_call 77; refine (odd_any _ h0 h1 _).mono ?_; rintro e w' ⟨rfl, rfl⟩)
    go_ret
    exact ⟨by unfold toldI; rw [decide_eq_true (show a < 4096 by omega)]; rfl, rfl⟩
  · go_enter Tryd.func92, Tryd.ntmps92
    go_wp2_with (go_at_call 77; refine (odd_any _ h0 h1 _).mono ?_; rintro e w' ⟨rfl, rfl⟩)
    go_ret
    exact ⟨by unfold toldI; rw [decide_eq_false (show ¬ a < 4096 by omega)]; rfl, rfl⟩

set_option maxHeartbeats 400000 in
theorem RnumberOf_any (F : List Int) (hF : Fr F) (w : World) :
    Calls Tryd.prog 93 #[.agg (fc F)] w fun e w' => e = .returned (.int .i64 (numI F)) ∧ ∃ x, w' = gx w x := by
  have hl := hF.len
  have h1 := hF.bd 1
  have h2 := hF.bd 2
  have k1 : 0 ≤ gw F 1 := h1.1
  have k2 : gw F 1 ≤ 65535 := h1.2
  have k3 : 0 ≤ gw F 2 := h2.1
  have k4 : gw F 2 ≤ 65535 := h2.2
  clear h1 h2
  go_enter Tryd.func93, Tryd.ntmps93
  go_wp2
  go_ret
  exact ⟨by unfold numI; rfl, (by repeat (first | (with_reducible exact Gx.refl _) | (with_reducible assumption) | (with_reducible refine Gx.gx ?_) | (with_reducible refine Gx.alloc ?_) | (with_reducible refine Gx.drew ?_) | (with_reducible refine Gx.drewN ?_) | (with_reducible refine Gx.setRow ?_ (by simp)) | (with_reducible refine Gx.setCell ?_ (by simp))))⟩

set_option maxHeartbeats 1000000 in
theorem Rsum_any (F : List Int) (hF : Fr F) (w : World) :
    Calls Tryd.prog 94 #[.agg (fc F)] w fun e w' => e = .returned (.int .i64 (sumI F)) ∧ ∃ x, w' = gx w x := by
  have hl := hF.len
  go_enter Tryd.func94, Tryd.ntmps94
  go_wp2
  go_loop [3, 4] (fun s i => ∃ k : Nat, k ≤ 60 ∧ i = .int .i64 (k + 1 : Nat) ∧ s = .int .i64 (sumTo F k)) (fun _ i => 62 - (intOf i).toNat)
  case atStart => exact ⟨0, Nat.zero_le _, rfl, rfl⟩
  case round =>
    obtain ⟨k, hk, rfl, rfl⟩ := hrel
    by_cases hlt : k < 60
    · have hb := sumTo_bd F k
      have hlt' : k + 1 < 64 := by omega
      have k1 : 0 ≤ gw F (k + 1) := (hF.bd (k + 1)).1
      have k2 : gw F (k + 1) ≤ 65535 := (hF.bd (k + 1)).2
      have hx : bits .xor .i64 (sumTo F k) (gw F (k + 1) % 2048) = sumTo F (k + 1) := by
        rw [bits_xor .i64 63 (by decide) wraps_i64 _ _ hb.1 (by omega) (by omega) (by omega)]; rfl
      clear hb
      go_wp2
      go_round
      case rel => exact ⟨k + 1, by omega, by go_num, rfl⟩
      case measure => simp [intOf]; omega
    · obtain rfl : k = 60 := by omega
      go_wp2
      go_ret
      exact ⟨by unfold sumI; rfl, (by repeat (first | (with_reducible exact Gx.refl _) | (with_reducible assumption) | (with_reducible refine Gx.gx ?_) | (with_reducible refine Gx.alloc ?_) | (with_reducible refine Gx.drew ?_) | (with_reducible refine Gx.drewN ?_) | (with_reducible refine Gx.setRow ?_ (by simp)) | (with_reducible refine Gx.setCell ?_ (by simp))))⟩

set_option maxHeartbeats 1000000 in
set_option maxRecDepth 100000 in
theorem Wide_any (F : List Int) (hF : Fr F) (w : World) :
    Calls Tryd.prog 96 #[.agg (fc F)] w fun e w' => e = .returned (.bool (wideB F)) ∧ ∃ x, w' = gx w x := by
  have hl := hF.len
  go_enter Tryd.func96, Tryd.ntmps96
  go_wp2_with (refine load_fr rfl _ rfl _ rfl ?_ ?_ ?_ ?_; rotate_left; (focus (repeat (first | (with_reducible exact At.new _ _) | (with_reducible refine At.row ?_) | (with_reducible refine At.gx ?_) | ((with_reducible refine At.new' ?_); focus (simp; done)) | (with_reducible refine At.alloc ?_) | (with_reducible refine At.drew ?_) | (with_reducible exact Is.new _ _ _) | (with_reducible refine Is.row ?_) | (with_reducible refine Is.gx ?_) | ((with_reducible refine Is.new' ?_); focus (simp; done)) | (with_reducible refine Is.alloc ?_) | (with_reducible refine Is.drew ?_)))); (focus (with_reducible (first | exact hl | exact hl1 | exact hl2 | exact hl3 | exact hl4 | exact zeroF_len))))
  go_loop [6] (fun i => ∃ k : Nat, k ≤ 64 ∧ i = .int .i64 k ∧ wideTo F k = false) (fun i => 64 - (intOf i).toNat)
  case atStart => exact ⟨0, Nat.zero_le _, rfl, rfl⟩
  case round =>
    obtain ⟨k, hk, rfl, hrel⟩ := hrel
    by_cases hlt : k < 64
    · have hs : wideTo F (k + 1) = decide (4096 ≤ gw F k) := by show (wideTo F k || _) = _; rw [hrel]; rfl
      by_cases hwide : 4095 < gw F k
      · have hn : Hid (wideB F = true) := by
          show wideTo F 64 = true
          exact wideTo_mono F (k + 1) 64 (by omega) (by rw [hs]; exact decide_eq_true (by omega))
        clear hrel hs
        go_wp2
        go_ret
        exact ⟨by rw [hn.out]; rfl, (by repeat (first | (with_reducible exact Gx.refl _) | (with_reducible assumption) | (with_reducible refine Gx.gx ?_) | (with_reducible refine Gx.alloc ?_) | (with_reducible refine Gx.drew ?_) | (with_reducible refine Gx.drewN ?_) | (with_reducible refine Gx.setRow ?_ (by simp)) | (with_reducible refine Gx.setCell ?_ (by simp))))⟩
      · have hn : Hid (wideTo F (k + 1) = false) := by
          show _ = _
          rw [hs]; exact decide_eq_false (by omega)
        clear hrel hs
        go_wp2
        go_round
        case rel => exact ⟨k + 1, by omega, by go_num, hn.out⟩
        case measure => simp [intOf]; omega
    · obtain rfl : k = 64 := by omega
      have hn : Hid (wideB F = false) := hrel
      clear hrel
      go_wp2
      go_ret
      exact ⟨by rw [hn.out]; rfl, (by repeat (first | (with_reducible exact Gx.refl _) | (with_reducible assumption) | (with_reducible refine Gx.gx ?_) | (with_reducible refine Gx.alloc ?_) | (with_reducible refine Gx.drew ?_) | (with_reducible refine Gx.drewN ?_) | (with_reducible refine Gx.setRow ?_ (by simp)) | (with_reducible refine Gx.setCell ?_ (by simp))))⟩

set_option maxHeartbeats 1000000 in
set_option maxRecDepth 100000 in
theorem check_any (F : List Int) (hF : Fr F) (hn : Narrow F) (w : World) :
    Calls Tryd.prog 95 #[.agg (fc F)] w fun e w' => e = .returned (.int .i64 (chkI F)) ∧ ∃ x, w' = gx w x := by
  have hl := hF.len
  have he := refTo_end F hl hn
  have He := Lib.hid he
  clear he
  have e0 : (0 : Int) = regI (refTo F 0) := by unfold regI; rfl
  have H0 := Lib.hid e0
  clear e0
  go_enter Tryd.func95, Tryd.ntmps95
  go_wp2
  go_loop [3, 4] (fun r i => ∃ k : Nat, k ≤ 766 ∧ i = .int .i64 k ∧ r = .int .i64 (regI (refTo F k))) (fun _ i => 766 - (intOf i).toNat)
  case atStart => exact ⟨0, Nat.zero_le _, rfl, by rw [← H0.out]⟩
  case round =>
    obtain ⟨k, hk, rfl, rfl⟩ := hrel
    have hb := regI_bd (refTo F k)
    have b0 := hb.1
    have b1 := hb.2
    clear hb
    have hc := bitI_bd F k
    have c0 := hc.1
    have c1 := hc.2
    clear hc
    have hr := regI_ref F k
    have Hr := Lib.hid hr
    clear hr
    by_cases hlt : k < 766
    · by_cases hw : k < 744
      · have hq : k / 12 < 64 := by omega
        have k1 : 0 ≤ gw F (k / 12) := (hF.bd _).1
        have k2 : gw F (k / 12) ≤ 4095 := hn _ hq
        have hp : (0 : Int) < 2 ^ (11 - k % 12) := Int.pow_pos (by decide)
        have hd0 : 0 ≤ gw F (k / 12) / 2 ^ (11 - k % 12) := Int.ediv_nonneg k1 (by omega)
        have hd1 : gw F (k / 12) / 2 ^ (11 - k % 12) ≤ gw F (k / 12) := Int.ediv_le_self _ k1
        have hbit : bits .and .i64 (gw F (k / 12) / 2 ^ (11 - k % 12)) 1 = bitI F k := by
          rw [← bitI_word F k hw k1]
          exact bits_mask .i64 63 (by decide) wraps_i64 1 (by decide) _ hd0 (by omega)
        clear hp hd0 hd1
        by_cases hbig : 4194304 ≤ regI (refTo F k) * 2 + bitI F k
        · have hx : bits .xor .i64 (regI (refTo F k) * 2 + bitI F k) 6291471 = regI (refTo F (k + 1)) := by
            rw [bits_xor .i64 63 (by decide) wraps_i64 _ _ (by omega) (by omega) (by omega) (by omega), Hr.out, if_pos hbig]
          go_wp2
          go_round
          case rel => exact ⟨k + 1, by omega, by go_num, rfl⟩
          case measure => simp [intOf]; omega
        · go_wp2
          go_round
          case rel => exact ⟨k + 1, by omega, by go_num, by rw [Hr.out, if_neg hbig]⟩
          case measure => simp [intOf]; omega
      · have hz := bitI_zero F k hw
        by_cases hbig : 4194304 ≤ regI (refTo F k) * 2
        · have hx : bits .xor .i64 (regI (refTo F k) * 2) 6291471 = regI (refTo F (k + 1)) := by
            rw [bits_xor .i64 63 (by decide) wraps_i64 _ _ (by omega) (by omega) (by omega) (by omega), Hr.out, if_pos (by omega), hz, Int.add_zero]
          clear hz
          go_wp2
          go_round
          case rel => exact ⟨k + 1, by omega, by go_num, rfl⟩
          case measure => simp [intOf]; omega
        · have hz' := Lib.hid hz
          clear hz
          go_wp2
          go_round
          case rel => exact ⟨k + 1, by omega, by go_num, by rw [Hr.out, hz'.out, Int.add_zero, if_neg hbig]⟩
          case measure => simp [intOf]; omega
    · obtain rfl : k = 766 := by omega
      go_wp2
      go_ret
      exact ⟨by rw [← He.out]; rfl, (by repeat (first | (with_reducible exact Gx.refl _) | (with_reducible assumption) | (with_reducible refine Gx.gx ?_) | (with_reducible refine Gx.alloc ?_) | (with_reducible refine Gx.drew ?_) | (with_reducible refine Gx.drewN ?_) | (with_reducible refine Gx.setRow ?_ (by simp)) | (with_reducible refine Gx.setCell ?_ (by simp))))⟩

set_option maxHeartbeats 600000 in
set_option maxRecDepth 100000 in
theorem checked_any (F : List Int) (hF : Fr F) (hn : Narrow F) (w : World) :
    Calls Tryd.prog 116 #[.agg (fc F)] w fun e w' => e = .returned (.agg (fc (chkW F))) ∧ ∃ x, w' = gx w x := by
  have hl := hF.len
  have hb := chkI_bd F
  have b0 := hb.1
  have b1 := hb.2
  clear hb
  have e1 : wordI (chkI F / 2048) = hiI F := rfl
  have e2 : wordI (chkI F % 2048) = loI F := rfl
  have q1 := wordI_bd (chkI F / 2048)
  have q2 := wordI_bd (chkI F % 2048)
  rw [e1] at q1
  rw [e2] at q2
  have q3 := q1.1
  have q4 := q1.2
  have q5 := q2.1
  have q6 := q2.2
  clear q1 q2
  have hl2 : (chkW F).length = 64 := (chkW_fr hF).len
  have e3 : (F.set 62 (hiI F)).set 63 (loI F) = chkW F := rfl
  go_enter Tryd.func116, Tryd.ntmps116
  go_wp2_with (first | (refine load_fr rfl _ rfl _ rfl ?_ ?_ ?_ ?_; rotate_left; (focus (repeat (first | (with_reducible exact At.new _ _) | (with_reducible refine At.row ?_) | (with_reducible refine At.gx ?_) | ((with_reducible refine At.new' ?_); focus (simp; done)) | (with_reducible refine At.alloc ?_) | (with_reducible refine At.drew ?_) | (with_reducible exact Is.new _ _ _) | (with_reducible refine Is.row ?_) | (with_reducible refine Is.gx ?_) | ((with_reducible refine Is.new' ?_); focus (simp; done)) | (with_reducible refine Is.alloc ?_) | (with_reducible refine Is.drew ?_)))); (focus (with_reducible (first | exact hl | exact hl1 | exact hl2 | exact hl3 | exact hl4 | exact zeroF_len)))) | (refine store_fr rfl _ _ rfl _ rfl _ rfl ?_ ?_ ?_ ?_ ?_; rotate_left; (focus (repeat (first | (with_reducible exact At.new _ _) | (with_reducible refine At.row ?_) | (with_reducible refine At.gx ?_) | ((with_reducible refine At.new' ?_); focus (simp; done)) | (with_reducible refine At.alloc ?_) | (with_reducible refine At.drew ?_) | (with_reducible exact Is.new _ _ _) | (with_reducible refine Is.row ?_) | (with_reducible refine Is.gx ?_) | ((with_reducible refine Is.new' ?_); focus (simp; done)) | (with_reducible refine Is.alloc ?_) | (with_reducible refine Is.drew ?_)))); (focus (with_reducible (first | exact hl | exact hl1 | exact hl2 | exact hl3 | exact hl4 | exact zeroF_len))); (focus (with_reducible (first | exact hl | exact hl1 | exact hl2 | exact hl3 | exact hl4 | exact zeroF_len)))) | (go_at_call 95; refine (check_any F hF hn _).mono ?_; rintro e w' ⟨rfl, z, rfl⟩) | (go_at_call 74; refine (word_any _ (by omega) (by omega) _).mono ?_; rintro e w' ⟨rfl, rfl⟩))
  (refine ret_fr rfl _ _ _ ?_ rfl rfl ?_ ?_ ?_; rotate_left; (focus (repeat (first | (with_reducible exact At.new _ _) | (with_reducible refine At.row ?_) | (with_reducible refine At.gx ?_) | ((with_reducible refine At.new' ?_); focus (simp; done)) | (with_reducible refine At.alloc ?_) | (with_reducible refine At.drew ?_) | (with_reducible exact Is.new _ _ _) | (with_reducible refine Is.row ?_) | (with_reducible refine Is.gx ?_) | ((with_reducible refine Is.new' ?_); focus (simp; done)) | (with_reducible refine Is.alloc ?_) | (with_reducible refine Is.drew ?_)))); (focus (with_reducible (first | exact hl | exact hl1 | exact hl2 | exact hl3 | exact hl4 | exact zeroF_len))))
  exact ⟨rfl, (by repeat (first | (with_reducible exact Gx.refl _) | (with_reducible assumption) | (with_reducible refine Gx.gx ?_) | (with_reducible refine Gx.alloc ?_) | (with_reducible refine Gx.drew ?_) | (with_reducible refine Gx.drewN ?_) | (with_reducible refine Gx.setRow ?_ (by simp)) | (with_reducible refine Gx.setCell ?_ (by simp))))⟩

set_option maxHeartbeats 600000 in
set_option maxRecDepth 100000 in
theorem Rsealed_any (F : List Int) (hF : Fr F) (hn : Narrow F) (w : World) :
    Calls Tryd.prog 81 #[.agg (fc F)] w fun e w' => e = .returned (.agg (fc (sealI F))) ∧ ∃ x, w' = gx w x := by
  have hl := hF.len
  go_enter Tryd.func81, Tryd.ntmps81
  go_wp2
  go_loopw [3] (fun i wr => ∃ (k : Nat) (x : Ext), k ≤ 60 ∧ i = .int .i64 (k + 1 : Nat) ∧ wr = gx ((w.alloc (.cells (fc (parRTo F k)) 32)).alloc (.cells (fc zeroF) 32)) x) (fun i _ => 62 - (intOf i).toNat)
  case atStart => exact ⟨0, _, Nat.zero_le _, rfl, (gx_none _).symm⟩
  case round =>
    obtain ⟨k, y, hk, rfl, rfl⟩ := hrel
    have hp := parRTo_fr hF k hk
    by_cases hlt : k < 60
    · have hlp := hp.len
      have hlt' : k + 1 < 64 := by omega
      have k1 : 0 ≤ gw (parRTo F k) (k + 1) := (hp.bd _).1
      have k2 : gw (parRTo F k) (k + 1) ≤ 65535 := (hp.bd _).2
      have a0 : 0 ≤ gw (parRTo F k) (k + 1) % 2048 := by omega
      have a1 : gw (parRTo F k) (k + 1) % 2048 ≤ 2047 := by omega
      have ec : wordI (gw (parRTo F k) (k + 1) % 2048) = wordI (gw (parRTo F k) (k + 1)) := wordI_cong _ _ (by omega)
      have e : (parRTo F k).set (k + 1) (wordI (gw (parRTo F k) (k + 1))) = parRTo F (k + 1) := rfl
      have q := wordI_bd (gw (parRTo F k) (k + 1))
      have q1 := q.1
      have q2 := q.2
      clear q
      go_wp2_with (go_at_call 74; refine (word_any _ a0 a1 _).mono ?_; rintro e w' ⟨rfl, rfl⟩)
      go_roundw
      case rel => exact ⟨k + 1, _, by omega, by go_num, rfl⟩
      case measure => simp [intOf]; omega
    · obtain rfl : k = 60 := by omega
      have hnp := parRTo_narrow hF hn 60 hk
      have hsF : sealI F = sealR F := (sealR_eq F hl).symm
      have hsF2 : sealR F = chkW (sumW (syncW (parRTo F 60))) := rfl
      rw [hsF2] at hsF
      clear hsF2
      have Hs := Lib.hid hsF
      clear hsF
      generalize parRTo F 60 = G at *
      clear hl
      have hl := hp.len
      have h2 := syncW_fr hp
      have hn2 := syncW_narrow hp hnp
      have h3 := sumW_fr h2
      have hn3 := sumW_narrow h2 hn2
      have h4 := chkW_fr h3
      have hl2 := h2.len
      have hl3 := h3.len
      have hl4 := h4.len
      have hb := sumI_bd (syncW G)
      have b1 := hb.1
      have b2 := hb.2
      clear hb
      have b3 := (numI_bd G).1
      have q := syncI_bd (numI G)
      have q1 := q.1
      have q2 := q.2
      clear q
      have q := wordI_bd (sumI (syncW G))
      have q3 := q.1
      have q4 := q.2
      clear q
      have e0 : G.set 0 (syncI (numI G)) = syncW G := rfl
      have e1 : (syncW G).set 61 (wordI (sumI (syncW G))) = sumW (syncW G) := rfl
      go_wp2_with (first | (refine load_fr rfl _ rfl _ rfl ?_ ?_ ?_ ?_; rotate_left; (focus (repeat (first | (with_reducible exact At.new _ _) | (with_reducible refine At.row ?_) | (with_reducible refine At.gx ?_) | ((with_reducible refine At.new' ?_); focus (simp; done)) | (with_reducible refine At.alloc ?_) | (with_reducible refine At.drew ?_) | (with_reducible exact Is.new _ _ _) | (with_reducible refine Is.row ?_) | (with_reducible refine Is.gx ?_) | ((with_reducible refine Is.new' ?_); focus (simp; done)) | (with_reducible refine Is.alloc ?_) | (with_reducible refine Is.drew ?_)))); (focus (with_reducible (first | exact hl | exact hl1 | exact hl2 | exact hl3 | exact hl4 | exact zeroF_len)))) | (refine store_fr rfl _ _ rfl _ rfl _ rfl ?_ ?_ ?_ ?_ ?_; rotate_left; (focus (repeat (first | (with_reducible exact At.new _ _) | (with_reducible refine At.row ?_) | (with_reducible refine At.gx ?_) | ((with_reducible refine At.new' ?_); focus (simp; done)) | (with_reducible refine At.alloc ?_) | (with_reducible refine At.drew ?_) | (with_reducible exact Is.new _ _ _) | (with_reducible refine Is.row ?_) | (with_reducible refine Is.gx ?_) | ((with_reducible refine Is.new' ?_); focus (simp; done)) | (with_reducible refine Is.alloc ?_) | (with_reducible refine Is.drew ?_)))); (focus (with_reducible (first | exact hl | exact hl1 | exact hl2 | exact hl3 | exact hl4 | exact zeroF_len))); (focus (with_reducible (first | exact hl | exact hl1 | exact hl2 | exact hl3 | exact hl4 | exact zeroF_len)))) | (go_at_call 94; refine (Rsum_any _ h2 _).mono ?_; rintro e w' ⟨rfl, z, rfl⟩) | (go_at_call 93; refine (RnumberOf_any G hp _).mono ?_; rintro e w' ⟨rfl, z, rfl⟩) | (go_at_call 79; refine (syncOf_any _ b3 _).mono ?_; rintro e w' ⟨rfl, rfl⟩) | (go_at_call 116; refine (checked_any _ h3 hn3 _).mono ?_; rintro e w' ⟨rfl, z, rfl⟩) | (go_at_call 74; refine (word_any _ b1 b2 _).mono ?_; rintro e w' ⟨rfl, rfl⟩))
      (refine ret_fr rfl _ _ _ ?_ rfl rfl ?_ ?_ ?_; rotate_left; (focus (repeat (first | (with_reducible exact At.new _ _) | (with_reducible refine At.row ?_) | (with_reducible refine At.gx ?_) | ((with_reducible refine At.new' ?_); focus (simp; done)) | (with_reducible refine At.alloc ?_) | (with_reducible refine At.drew ?_) | (with_reducible exact Is.new _ _ _) | (with_reducible refine Is.row ?_) | (with_reducible refine Is.gx ?_) | ((with_reducible refine Is.new' ?_); focus (simp; done)) | (with_reducible refine Is.alloc ?_) | (with_reducible refine Is.drew ?_)))); (focus (with_reducible (first | exact hl | exact hl1 | exact hl2 | exact hl3 | exact hl4 | exact zeroF_len))))
      exact ⟨by rw [Hs.out], (by repeat (first | (with_reducible exact Gx.refl _) | (with_reducible assumption) | (with_reducible refine Gx.gx ?_) | (with_reducible refine Gx.alloc ?_) | (with_reducible refine Gx.drew ?_) | (with_reducible refine Gx.drewN ?_) | (with_reducible refine Gx.setRow ?_ (by simp)) | (with_reducible refine Gx.setCell ?_ (by simp))))⟩

set_option maxHeartbeats 600000 in
set_option maxRecDepth 100000 in
theorem RSeal_any (F : List Int) (hF : Fr F) (w : World) :
    Calls Tryd.prog 36 #[.agg (fc F)] w fun e w' => e = .returned (.tuple #[.agg (fc (sealF F zeroF)), .int .i64 (wideE F)]) ∧ ∃ x, w' = gx w x := by
  have hl := hF.len
  have hl1 : (sealI F).length = 64 := by rw [sealI_len]; exact hl
  cases hw : wideB F
  · have hn := wideB_false.1 hw
    go_enter Tryd.func36, Tryd.ntmps36
    go_wp2_with (first | (refine load_fr rfl _ rfl _ rfl ?_ ?_ ?_ ?_; rotate_left; (focus (repeat (first | (with_reducible exact At.new _ _) | (with_reducible refine At.row ?_) | (with_reducible refine At.gx ?_) | ((with_reducible refine At.new' ?_); focus (simp; done)) | (with_reducible refine At.alloc ?_) | (with_reducible refine At.drew ?_) | (with_reducible exact Is.new _ _ _) | (with_reducible refine Is.row ?_) | (with_reducible refine Is.gx ?_) | ((with_reducible refine Is.new' ?_); focus (simp; done)) | (with_reducible refine Is.alloc ?_) | (with_reducible refine Is.drew ?_)))); (focus (with_reducible (first | exact hl | exact hl1 | exact hl2 | exact hl3 | exact hl4 | exact zeroF_len)))) | (refine store_fr rfl _ _ rfl _ rfl _ rfl ?_ ?_ ?_ ?_ ?_; rotate_left; (focus (repeat (first | (with_reducible exact At.new _ _) | (with_reducible refine At.row ?_) | (with_reducible refine At.gx ?_) | ((with_reducible refine At.new' ?_); focus (simp; done)) | (with_reducible refine At.alloc ?_) | (with_reducible refine At.drew ?_) | (with_reducible exact Is.new _ _ _) | (with_reducible refine Is.row ?_) | (with_reducible refine Is.gx ?_) | ((with_reducible refine Is.new' ?_); focus (simp; done)) | (with_reducible refine Is.alloc ?_) | (with_reducible refine Is.drew ?_)))); (focus (with_reducible (first | exact hl | exact hl1 | exact hl2 | exact hl3 | exact hl4 | exact zeroF_len))); (focus (with_reducible (first | exact hl | exact hl1 | exact hl2 | exact hl3 | exact hl4 | exact zeroF_len)))) | (go_at_call 96; refine (Wide_any F hF _).mono ?_; rintro e w' ⟨rfl, z, rfl⟩) | (go_at_call 81; refine (Rsealed_any F hF hn _).mono ?_; rintro e w' ⟨rfl, z, rfl⟩))
    (refine ret_fr_tmp rfl _ _ _ ?_ rfl rfl ?_ ?_ ?_; rotate_left; (focus (repeat (first | (with_reducible exact At.new _ _) | (with_reducible refine At.row ?_) | (with_reducible refine At.gx ?_) | ((with_reducible refine At.new' ?_); focus (simp; done)) | (with_reducible refine At.alloc ?_) | (with_reducible refine At.drew ?_) | (with_reducible exact Is.new _ _ _) | (with_reducible refine Is.row ?_) | (with_reducible refine Is.gx ?_) | ((with_reducible refine Is.new' ?_); focus (simp; done)) | (with_reducible refine Is.alloc ?_) | (with_reducible refine Is.drew ?_)))); (focus (with_reducible (first | exact hl | exact hl1 | exact hl2 | exact hl3 | exact hl4 | exact zeroF_len))))
    exact ⟨by unfold sealF wideE; rw [hw]; rfl, (by repeat (first | (with_reducible exact Gx.refl _) | (with_reducible assumption) | (with_reducible refine Gx.gx ?_) | (with_reducible refine Gx.alloc ?_) | (with_reducible refine Gx.drew ?_) | (with_reducible refine Gx.drewN ?_) | (with_reducible refine Gx.setRow ?_ (by simp)) | (with_reducible refine Gx.setCell ?_ (by simp))))⟩
  · go_enter Tryd.func36, Tryd.ntmps36
    go_wp2_with (first | (refine load_fr rfl _ rfl _ rfl ?_ ?_ ?_ ?_; rotate_left; (focus (repeat (first | (with_reducible exact At.new _ _) | (with_reducible refine At.row ?_) | (with_reducible refine At.gx ?_) | ((with_reducible refine At.new' ?_); focus (simp; done)) | (with_reducible refine At.alloc ?_) | (with_reducible refine At.drew ?_) | (with_reducible exact Is.new _ _ _) | (with_reducible refine Is.row ?_) | (with_reducible refine Is.gx ?_) | ((with_reducible refine Is.new' ?_); focus (simp; done)) | (with_reducible refine Is.alloc ?_) | (with_reducible refine Is.drew ?_)))); (focus (with_reducible (first | exact hl | exact hl1 | exact hl2 | exact hl3 | exact hl4 | exact zeroF_len)))) | (refine store_fr rfl _ _ rfl _ rfl _ rfl ?_ ?_ ?_ ?_ ?_; rotate_left; (focus (repeat (first | (with_reducible exact At.new _ _) | (with_reducible refine At.row ?_) | (with_reducible refine At.gx ?_) | ((with_reducible refine At.new' ?_); focus (simp; done)) | (with_reducible refine At.alloc ?_) | (with_reducible refine At.drew ?_) | (with_reducible exact Is.new _ _ _) | (with_reducible refine Is.row ?_) | (with_reducible refine Is.gx ?_) | ((with_reducible refine Is.new' ?_); focus (simp; done)) | (with_reducible refine Is.alloc ?_) | (with_reducible refine Is.drew ?_)))); (focus (with_reducible (first | exact hl | exact hl1 | exact hl2 | exact hl3 | exact hl4 | exact zeroF_len))); (focus (with_reducible (first | exact hl | exact hl1 | exact hl2 | exact hl3 | exact hl4 | exact zeroF_len)))) | (go_at_call 96; refine (Wide_any F hF _).mono ?_; rintro e w' ⟨rfl, z, rfl⟩))
    (refine ret_fr_tmp rfl _ _ _ ?_ rfl rfl ?_ ?_ ?_; rotate_left; (focus (repeat (first | (with_reducible exact At.new _ _) | (with_reducible refine At.row ?_) | (with_reducible refine At.gx ?_) | ((with_reducible refine At.new' ?_); focus (simp; done)) | (with_reducible refine At.alloc ?_) | (with_reducible refine At.drew ?_) | (with_reducible exact Is.new _ _ _) | (with_reducible refine Is.row ?_) | (with_reducible refine Is.gx ?_) | ((with_reducible refine Is.new' ?_); focus (simp; done)) | (with_reducible refine Is.alloc ?_) | (with_reducible refine Is.drew ?_)))); (focus (with_reducible (first | exact hl | exact hl1 | exact hl2 | exact hl3 | exact hl4 | exact zeroF_len))))
    exact ⟨by unfold sealF wideE; rw [hw]; rfl, (by repeat (first | (with_reducible exact Gx.refl _) | (with_reducible assumption) | (with_reducible refine Gx.gx ?_) | (with_reducible refine Gx.alloc ?_) | (with_reducible refine Gx.drew ?_) | (with_reducible refine Gx.drewN ?_) | (with_reducible refine Gx.setRow ?_ (by simp)) | (with_reducible refine Gx.setCell ?_ (by simp))))⟩
end Go.Proofs.YtllahhmonoedmaaDoor
