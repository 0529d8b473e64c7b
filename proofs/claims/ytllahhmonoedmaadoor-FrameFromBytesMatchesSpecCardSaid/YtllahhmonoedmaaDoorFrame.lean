/-
  The functions of package frame that look at a frame: contracts.
-/
import Derived.Test.YtllahhmonoedmaaDoorLeaf
namespace Go.Proofs.YtllahhmonoedmaaDoor
open Go.RowKit

set_option maxHeartbeats 1000000 in
theorem numberOf_any (F : List Int) (hF : Fr F) (w : World) :
    Calls Tryd.prog 83 #[.agg (fc F)] w fun e w' => e = .returned (.int .i64 (numI F)) ∧ ∃ x, w' = gx w x := by
  have hl := hF.len
  have h1 := hF.bd 1
  have h2 := hF.bd 2
  have k1 : 0 ≤ gw F 1 := h1.1
  have k2 : gw F 1 ≤ 65535 := h1.2
  have k3 : 0 ≤ gw F 2 := h2.1
  have k4 : gw F 2 ≤ 65535 := h2.2
  clear h1 h2
  go_enter Tryd.func83, Tryd.ntmps83
  go_wp2
  refine region_gx (by kernel_rfl) (by kernel_rfl) ?_
  repeat (any_goals (first | go_big_quiet_step ((go_at_call 75; exact calls_gx_same (dataOf_any _ (by omega) (by omega) _))) | quiet_step ((go_at_call 75; exact calls_gx_same (dataOf_any _ (by omega) (by omega) _)))))
  refine wpQuiet_nil ?_
  rintro _ ⟨x, rfl⟩
  go_wp2
  go_ret
  exact ⟨by unfold numI; rfl, by simp only [alloc_is, gx_gx]; exact ⟨_, rfl⟩⟩

set_option maxHeartbeats 1000000 in
theorem isWide_any (F : List Int) (hF : Fr F) (w : World) :
    Calls Tryd.prog 84 #[.agg (fc F)] w fun e w' => e = .returned (.bool (wideB F)) ∧ ∃ x, w' = gx w x := by
  have hl := hF.len
  go_enter Tryd.func84, Tryd.ntmps84
  go_wp2
  go_loop [4] (fun i => ∃ k : Nat, k ≤ 64 ∧ i = .int .i64 k ∧ wideTo F k = false) (fun i => 64 - (intOf i).toNat)
  case atStart => exact ⟨0, Nat.zero_le _, rfl, rfl⟩
  case round =>
    obtain ⟨k, hk, rfl, hrel⟩ := hrel
    by_cases hlt : k < 64
    · have hs : wideTo F (k + 1) = decide (4096 ≤ gw F k) := by show (wideTo F k || _) = _; rw [hrel]; rfl
      by_cases hwide : 4096 ≤ gw F k
      · have hn : Hid (wideB F = true) := by
          show wideTo F 64 = true
          exact wideTo_mono F (k + 1) 64 (by omega) (by rw [hs]; exact decide_eq_true hwide)
        clear hrel hs
        have hd : decide (4096 ≤ gw F k) = true := decide_eq_true hwide
        go_wp2_with (go_at_call 87; refine (isTooWide_any _ _).mono ?_; rintro e w' ⟨rfl, rfl⟩)
        go_ret
        exact ⟨by rw [hn.out]; rfl, _, alloc_is _ _⟩
      · have hn : Hid (wideTo F (k + 1) = false) := by
          show _ = _
          rw [hs]; exact decide_eq_false hwide
        clear hrel hs
        have hd : decide (4096 ≤ gw F k) = false := decide_eq_false hwide
        go_wp2_with (go_at_call 87; refine (isTooWide_any _ _).mono ?_; rintro e w' ⟨rfl, rfl⟩)
        go_round
        case rel => exact ⟨k + 1, by omega, by go_num, hn.out⟩
        case measure => simp [intOf]; omega
    · obtain rfl : k = 64 := by omega
      have hn : Hid (wideB F = false) := hrel
      clear hrel
      go_wp2
      go_ret
      exact ⟨by rw [hn.out]; rfl, _, alloc_is _ _⟩

set_option maxHeartbeats 1000000 in
theorem sumOf_any (F : List Int) (hF : Fr F) (w : World) :
    Calls Tryd.prog 114 #[.agg (fc F)] w fun e w' => e = .returned (.int .u16 (sumI F)) ∧ ∃ x, w' = gx w x := by
  have hl := hF.len
  go_enter Tryd.func114, Tryd.ntmps114
  go_wp2
  go_loop [3, 4] (fun s i => ∃ k : Nat, k ≤ 60 ∧ i = .int .i64 (k + 1 : Nat) ∧ s = .int .u16 (sumTo F k)) (fun _ i => 62 - (intOf i).toNat)
  case atStart => exact ⟨0, Nat.zero_le _, rfl, rfl⟩
  case round =>
    obtain ⟨k, hk, rfl, rfl⟩ := hrel
    by_cases hlt : k < 60
    · have hb := sumTo_bd F k
      have hlt' : k + 1 < 64 := by omega
      have k1 : 0 ≤ gw F (k + 1) := (hF.bd (k + 1)).1
      have k2 : gw F (k + 1) ≤ 65535 := (hF.bd (k + 1)).2
      have hx : bits .xor .u16 (sumTo F k) (gw F (k + 1) % 2048) = sumTo F (k + 1) := by
        rw [bits_xor .u16 16 (by decide) wraps_u16 _ _ hb.1 (by omega) (by omega) (by omega)]; rfl
      clear hb
      go_wp2_with (go_at_call 75; refine (dataOf_any _ k1 k2 _).mono ?_; rintro e w' ⟨rfl, rfl⟩)
      go_round
      case rel => exact ⟨k + 1, by omega, by go_num, rfl⟩
      case measure => simp [intOf]; omega
    · obtain rfl : k = 60 := by omega
      go_wp2
      go_ret
      exact ⟨by unfold sumI; rfl, _, alloc_is _ _⟩

set_option maxHeartbeats 600000 in
set_option maxRecDepth 100000 in
theorem checkOf_any (F : List Int) (hF : Fr F) (hn : Narrow F) (w : World) :
    Calls Tryd.prog 118 #[.agg (fc F)] w fun e w' => e = .returned (.int .u32 (chkI F)) ∧ ∃ x, w' = gx w x := by
  have hl := hF.len
  have e0 : (0 : Int) = regI (crcTo F 0) := by unfold regI; rfl
  have H0 := Lib.hid e0
  clear e0
  go_enter Tryd.func118, Tryd.ntmps118
  go_wp2
  go_loop [3, 6] (fun r i => ∃ k : Nat, k ≤ 62 ∧ i = .int .i64 k ∧ r = .int .u32 (regI (crcTo F k))) (fun _ i => 62 - (intOf i).toNat)
  case atStart => exact ⟨0, Nat.zero_le _, rfl, by rw [← H0.out]⟩
  case round =>
    obtain ⟨k, hk, rfl, rfl⟩ := hrel
    by_cases hlt : k < 62
    · have hs := Lib.hid (crcTo_succ F k (by omega))
      have hlt' : k < 64 := by omega
      have hb := regI_bd (crcTo F k)
      have k1 : 0 ≤ gw F k := (hF.bd k).1
      have k2 : gw F k ≤ 4095 := hn k (by omega)
      have hx : bits .xor .u32 (regI (crcTo F k)) (gw F k * 1024) = regI (mixW (crcTo F k) (gw F k)) := by
        rw [bits_xor .u32 32 (by decide) wraps_u32 _ _ hb.1 (by omega) (by omega) (by omega)]; exact regI_mix _ _ k1 k2
      clear hb
      go_wp2
      go_loop [3, 16] (fun r i => ∃ j : Nat, j ≤ 12 ∧ i = .int .i64 j ∧ r = .int .u32 (regI (itB j (mixW (crcTo F k) (gw F k))))) (fun _ i => 12 - (intOf i).toNat)
      case atStart => exact ⟨0, Nat.zero_le _, rfl, rfl⟩
      case round =>
        obtain ⟨j, hj, rfl, rfl⟩ := hrel
        clear hx
        generalize hy : itB j (mixW (crcTo F k) (gw F k)) = y
        have Hy := Lib.hid hy
        clear hy
        have hb := regI_bd y
        have b0 := hb.1
        have b1 := hb.2
        have hx : bits .xor .u32 (regI y * 2) (regI y / 2097152 * 6291471) = regI (shB y) := by
          rw [bits_xor .u32 32 (by decide) wraps_u32 _ _ (by omega) (by omega) (by omega) (by omega)]; exact regI_sh y
        clear hb
        by_cases hj2 : j < 12
        · go_wp2
          go_round
          case rel => exact ⟨j + 1, by omega, by go_num, by rw [itB_succ, Hy.out]⟩
          case measure => simp [intOf]; omega
        · obtain rfl : j = 12 := by omega
          go_wp2
          go_round
          case rel => exact ⟨k + 1, by omega, by go_num, by rw [hs.out, Hy.out]⟩
          case measure => simp [intOf]; omega
    · obtain rfl : k = 62 := by omega
      go_wp2
      go_ret
      exact ⟨by unfold chkI; rfl, _, alloc_is _ _⟩
end Go.Proofs.YtllahhmonoedmaaDoor
