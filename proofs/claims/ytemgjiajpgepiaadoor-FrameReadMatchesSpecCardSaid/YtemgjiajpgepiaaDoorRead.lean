/-
  Number and Values of any frame, the program's and the reference's: contracts.
-/
import Derived.Test.YtemgjiajpgepiaaDoorRMend
import Derived.Test.YtemgjiajpgepiaaDoorMakeWalk
namespace Go.Proofs.YtemgjiajpgepiaaDoor
open Go.RowKit
-- AT2

def nmB (F : List Int) : Bool := toldI (gw F 1) && toldI (gw F 2)
def nmI (F : List Int) : Int := if nmB F then numI F else 0

set_option maxHeartbeats 400000 in
set_option maxRecDepth 100000 in
theorem Number_gen (F : List Int) (hF : Fr F) (w : World) :
    Calls Tryd.prog 25 #[.agg (fc F)] w fun e w' => e = .returned (.tuple #[.int .i64 (nmI F), .bool (nmB F)]) ∧ ∃ x, w' = gx w x := by
  have hl := hF.len
  have t1 : (decide (gw F 1 < 4096) && oddI (gw F 1)) = toldI (gw F 1) := rfl
  have t2 : (decide (gw F 2 < 4096) && oddI (gw F 2)) = toldI (gw F 2) := rfl
  have T1 := Lib.hid t1
  have T2 := Lib.hid t2
  have hn : nmB F = (toldI (gw F 1) && toldI (gw F 2)) := rfl
  have hi : nmI F = if nmB F then numI F else 0 := rfl
  have Hn := Lib.hid hn
  have Hi := Lib.hid hi
  clear t1 t2 hn hi
  cases h1 : toldI (gw F 1)
  · go_enter Tryd.func25, Tryd.ntmps25
    go_wp2_with (first | go_skip | (refine load_fr rfl _ rfl _ rfl ?_ ?_ ?_ ?_; rotate_left; (focus (repeat (first | (with_reducible assumption) | (with_reducible exact At.new _ _) | (with_reducible refine At.row ?_) | (with_reducible refine At.app ?_) | (with_reducible refine At.tick ?_) | (with_reducible refine At.gx ?_) | ((with_reducible refine At.new' ?_); focus (simp; done)) | (with_reducible refine At.alloc ?_) | (with_reducible refine At.drew ?_) | (with_reducible exact Is.new _ _ _) | (with_reducible refine Is.row ?_) | (with_reducible refine Is.gx ?_) | ((with_reducible refine Is.new' ?_); focus (simp; done)) | (with_reducible refine Is.alloc ?_) | (with_reducible refine Is.drew ?_)))); (focus (with_reducible (first | exact hl | exact hl1 | exact hl2 | exact hl3 | exact hl4 | exact zeroF_len)))) | (go_at_call 82; refine (isTold_any _ (hF.bd _).1 (hF.bd _).2 _).mono ?_; (first | rw [T1.out] | rw [T2.out]); rintro e w' ⟨rfl, z, rfl⟩) | (go_at_call 83; refine (numberOf_any F hF _).mono ?_; rintro e w' ⟨rfl, z, rfl⟩))
    go_ret2
    exact ⟨by rw [Hi.out, Hn.out, h1]; rfl, (by repeat (first | (with_reducible exact Gx.refl _) | (with_reducible assumption) | (with_reducible refine Gx.gx ?_) | (with_reducible refine Gx.alloc ?_) | (with_reducible refine Gx.drew ?_) | (with_reducible refine Gx.drewN ?_) | (with_reducible refine Gx.setRow ?_ (by simp)) | (with_reducible refine Gx.setCell ?_ (by simp))))⟩
  · cases h2 : toldI (gw F 2)
    all_goals
      go_enter Tryd.func25, Tryd.ntmps25
      go_wp2_with (first | go_skip | (refine load_fr rfl _ rfl _ rfl ?_ ?_ ?_ ?_; rotate_left; (focus (repeat (first | (with_reducible assumption) | (with_reducible exact At.new _ _) | (with_reducible refine At.row ?_) | (with_reducible refine At.app ?_) | (with_reducible refine At.tick ?_) | (with_reducible refine At.gx ?_) | ((with_reducible refine At.new' ?_); focus (simp; done)) | (with_reducible refine At.alloc ?_) | (with_reducible refine At.drew ?_) | (with_reducible exact Is.new _ _ _) | (with_reducible refine Is.row ?_) | (with_reducible refine Is.gx ?_) | ((with_reducible refine Is.new' ?_); focus (simp; done)) | (with_reducible refine Is.alloc ?_) | (with_reducible refine Is.drew ?_)))); (focus (with_reducible (first | exact hl | exact hl1 | exact hl2 | exact hl3 | exact hl4 | exact zeroF_len)))) | (go_at_call 82; refine (isTold_any _ (hF.bd _).1 (hF.bd _).2 _).mono ?_; (first | rw [T1.out] | rw [T2.out]); rintro e w' ⟨rfl, z, rfl⟩) | (go_at_call 83; refine (numberOf_any F hF _).mono ?_; rintro e w' ⟨rfl, z, rfl⟩))
      go_ret2
      exact ⟨by rw [Hi.out, Hn.out, h1, h2]; rfl, (by repeat (first | (with_reducible exact Gx.refl _) | (with_reducible assumption) | (with_reducible refine Gx.gx ?_) | (with_reducible refine Gx.alloc ?_) | (with_reducible refine Gx.drew ?_) | (with_reducible refine Gx.drewN ?_) | (with_reducible refine Gx.setRow ?_ (by simp)) | (with_reducible refine Gx.setCell ?_ (by simp))))⟩

set_option maxHeartbeats 400000 in
set_option maxRecDepth 100000 in
theorem RNumber_gen (F : List Int) (hF : Fr F) (w : World) :
    Calls Tryd.prog 31 #[.agg (fc F)] w fun e w' => e = .returned (.tuple #[.int .i64 (nmI F), .bool (nmB F)]) ∧ ∃ x, w' = gx w x := by
  have hl := hF.len
  have a0 : 0 ≤ gw F 1 := (hF.bd 1).1
  have a1 : gw F 1 ≤ 65535 := (hF.bd 1).2
  have b0 : 0 ≤ gw F 2 := (hF.bd 2).1
  have b1 : gw F 2 ≤ 65535 := (hF.bd 2).2
  have hn : nmB F = (toldI (gw F 1) && toldI (gw F 2)) := rfl
  have hi : nmI F = if nmB F then numI F else 0 := rfl
  have Hn := Lib.hid hn
  have Hi := Lib.hid hi
  clear hn hi
  cases h1 : toldI (gw F 1)
  · go_enter Tryd.func31, Tryd.ntmps31
    go_wp2_with (first | go_skip | (refine load_fr rfl _ rfl _ rfl ?_ ?_ ?_ ?_; rotate_left; (focus (repeat (first | (with_reducible assumption) | (with_reducible exact At.new _ _) | (with_reducible refine At.row ?_) | (with_reducible refine At.app ?_) | (with_reducible refine At.tick ?_) | (with_reducible refine At.gx ?_) | ((with_reducible refine At.new' ?_); focus (simp; done)) | (with_reducible refine At.alloc ?_) | (with_reducible refine At.drew ?_) | (with_reducible exact Is.new _ _ _) | (with_reducible refine Is.row ?_) | (with_reducible refine Is.gx ?_) | ((with_reducible refine Is.new' ?_); focus (simp; done)) | (with_reducible refine Is.alloc ?_) | (with_reducible refine Is.drew ?_)))); (focus (with_reducible (first | exact hl | exact hl1 | exact hl2 | exact hl3 | exact hl4 | exact zeroF_len)))) | (go_at_call 92; refine (Right_any _ (by assumption) (by assumption) _).mono ?_; rintro e w' ⟨rfl, rfl⟩) | (go_at_call 93; refine (RnumberOf_any F hF _).mono ?_; rintro e w' ⟨rfl, z, rfl⟩))
    go_ret2
    exact ⟨by rw [Hi.out, Hn.out, h1]; rfl, (by repeat (first | (with_reducible exact Gx.refl _) | (with_reducible assumption) | (with_reducible refine Gx.gx ?_) | (with_reducible refine Gx.alloc ?_) | (with_reducible refine Gx.drew ?_) | (with_reducible refine Gx.drewN ?_) | (with_reducible refine Gx.setRow ?_ (by simp)) | (with_reducible refine Gx.setCell ?_ (by simp))))⟩
  · cases h2 : toldI (gw F 2)
    all_goals
      go_enter Tryd.func31, Tryd.ntmps31
      go_wp2_with (first | go_skip | (refine load_fr rfl _ rfl _ rfl ?_ ?_ ?_ ?_; rotate_left; (focus (repeat (first | (with_reducible assumption) | (with_reducible exact At.new _ _) | (with_reducible refine At.row ?_) | (with_reducible refine At.app ?_) | (with_reducible refine At.tick ?_) | (with_reducible refine At.gx ?_) | ((with_reducible refine At.new' ?_); focus (simp; done)) | (with_reducible refine At.alloc ?_) | (with_reducible refine At.drew ?_) | (with_reducible exact Is.new _ _ _) | (with_reducible refine Is.row ?_) | (with_reducible refine Is.gx ?_) | ((with_reducible refine Is.new' ?_); focus (simp; done)) | (with_reducible refine Is.alloc ?_) | (with_reducible refine Is.drew ?_)))); (focus (with_reducible (first | exact hl | exact hl1 | exact hl2 | exact hl3 | exact hl4 | exact zeroF_len)))) | (go_at_call 92; refine (Right_any _ (by assumption) (by assumption) _).mono ?_; rintro e w' ⟨rfl, rfl⟩) | (go_at_call 93; refine (RnumberOf_any F hF _).mono ?_; rintro e w' ⟨rfl, z, rfl⟩))
      go_ret2
      exact ⟨by rw [Hi.out, Hn.out, h1, h2]; rfl, (by repeat (first | (with_reducible exact Gx.refl _) | (with_reducible assumption) | (with_reducible refine Gx.gx ?_) | (with_reducible refine Gx.alloc ?_) | (with_reducible refine Gx.drew ?_) | (with_reducible refine Gx.drewN ?_) | (with_reducible refine Gx.setRow ?_ (by simp)) | (with_reducible refine Gx.setCell ?_ (by simp))))⟩

/-- The value of a word, and whether it can be believed: 58 of them. -/
def vlI (F : List Int) (k : Nat) : Int := if gw F (3 + k) < 4096 then gw F (3 + k) % 2048 else 0
def vlTo (F : List Int) : Nat → List Int
  | 0 => zerosI 58
  | k + 1 => (vlTo F k).set k (vlI F k)
def tdTo (F : List Int) : Nat → List Bool
  | 0 => falses 58
  | k + 1 => (tdTo F k).set k (toldI (gw F (3 + k)))
theorem vlTo_len (F : List Int) : ∀ k, (vlTo F k).length = 58
  | 0 => by unfold vlTo; exact zerosI_len 58
  | k + 1 => by unfold vlTo; rw [List.length_set, vlTo_len F k]
theorem tdTo_len (F : List Int) : ∀ k, (tdTo F k).length = 58
  | 0 => by unfold tdTo; exact falses_len 58
  | k + 1 => by unfold tdTo; rw [List.length_set, tdTo_len F k]
theorem gw_vlTo (F : List Int) : ∀ k, k ≤ 58 → ∀ j, gw (vlTo F k) j = if j < k then vlI F j else 0
  | 0, _, j => by unfold vlTo; rw [zerosI_get]; simp
  | k + 1, hk, j => by
    unfold vlTo
    rw [gw_set _ _ _ _ (by rw [vlTo_len]; omega), gw_vlTo F k (by omega) j]
    by_cases e : j = k
    · subst e; rw [if_pos rfl, if_pos (by omega)]
    · rw [if_neg e]
      by_cases h : j < k
      · rw [if_pos h, if_pos (by omega)]
      · rw [if_neg h, if_neg (by omega)]
theorem gb_tdTo (F : List Int) : ∀ k, k ≤ 58 → ∀ j, j < k → gb (tdTo F k) j = toldI (gw F (3 + j))
  | k + 1, hk, j, hj => by
    unfold tdTo
    rw [gb_set _ _ _ _ (by rw [tdTo_len]; omega)]
    by_cases e : j = k
    · rw [if_pos e, e]
    · rw [if_neg e]; exact gb_tdTo F k (by omega) j (by omega)
theorem vl_set_zero (F : List Int) (k : Nat) (hk : k < 58) (h : ¬ gw F (3 + k) < 4096) : vlTo F (k + 1) = vlTo F k := by
  refine ext_gw (by rw [vlTo_len, vlTo_len]) fun j _ => ?_
  rw [gw_vlTo F (k + 1) (by omega) j, gw_vlTo F k (by omega) j]
  by_cases e : j = k
  · subst e
    rw [if_pos (by omega), if_neg (by omega)]
    unfold vlI; rw [if_neg h]
  · by_cases h2 : j < k
    · rw [if_pos h2, if_pos (by omega)]
    · rw [if_neg h2, if_neg (by omega)]
theorem vl_set (F : List Int) (k : Nat) (h : gw F (3 + k) < 4096) : (vlTo F k).set k (gw F (3 + k) % 2048) = vlTo F (k + 1) := by
  show _ = (vlTo F k).set k (vlI F k)
  unfold vlI; rw [if_pos h]
theorem td_set (F : List Int) (k : Nat) : (tdTo F k).set k (toldI (gw F (3 + k))) = tdTo F (k + 1) := rfl
attribute [irreducible] vlTo tdTo

set_option maxHeartbeats 1000000 in
set_option maxRecDepth 100000 in
theorem Values_gen (F : List Int) (hF : Fr F) (w : World) :
    Calls Tryd.prog 26 #[.agg (fc F)] w fun e w' => e = .returned (.tuple #[.slice (some ⟨w.heap.size + 1, 0, none⟩) 58 58, .slice (some ⟨w.heap.size + 1 + 1, 0, none⟩) 58 58]) ∧
      ∃ x, w' = gx (((w.alloc (.cells (fc F) 32)).alloc (.cells (ic (vlTo F 58)) 3)).alloc (.cells (lc (tdTo F 58)) 4)) x := by
  have hl := hF.len
  have z1 : zerosI 58 = vlTo F 0 := by rw [vlTo]
  have z2 : falses 58 = tdTo F 0 := by rw [tdTo]
  go_enter Tryd.func26, Tryd.ntmps26
  go_wp2
  try rw [z1, z2]
  go_loopw [10] (fun i wr => ∃ (k : Nat) (x : Ext), k ≤ 58 ∧ i = .int .i64 k ∧ wr = gx (((w.alloc (.cells (fc F) 32)).alloc (.cells (ic (vlTo F k)) 3)).alloc (.cells (lc (tdTo F k)) 4)) x) (fun i _ => 58 - (intOf i).toNat)
  case atStart => exact ⟨0, _, Nat.zero_le _, rfl, (gx_none _).symm⟩
  case round =>
    obtain ⟨k, y, hk, rfl, rfl⟩ := hrel
    by_cases hlt : k < 58
    · have hlt3 : 3 + k < 64 := by omega
      have k0 : 0 ≤ gw F (3 + k) := (hF.bd _).1
      have k1 : gw F (3 + k) ≤ 65535 := (hF.bd _).2
      have tt : (decide (gw F (3 + k) < 4096) && oddI (gw F (3 + k))) = toldI (gw F (3 + k)) := rfl
      have TT := Lib.hid tt
      have hr := td_set F k
      have lv := vlTo_len F k
      have lr := tdTo_len F k
      clear tt
      by_cases k2 : gw F (3 + k) < 4096
      · have hv := vl_set F k k2
        go_wp2_with (first | (go_at_call 75; refine (dataOf_any _ k0 k1 _).mono ?_; rintro e w' ⟨rfl, rfl⟩) | (go_at_call 82; refine (isTold_any _ k0 k1 _).mono ?_; rw [TT.out]; rintro e w' ⟨rfl, z, rfl⟩))
        go_roundw
        case rel => exact ⟨k + 1, _, by omega, by go_num, rfl⟩
        case measure => simp [intOf]; omega
      · have hv := Lib.hid (vl_set_zero F k hlt k2)
        go_wp2_with (first | (go_at_call 75; refine (dataOf_any _ k0 k1 _).mono ?_; rintro e w' ⟨rfl, rfl⟩) | (go_at_call 82; refine (isTold_any _ k0 k1 _).mono ?_; rw [TT.out]; rintro e w' ⟨rfl, z, rfl⟩))
        go_roundw
        case rel => exact ⟨k + 1, _, by omega, by go_num, by rw [hv.out]⟩
        case measure => simp [intOf]; omega
    · obtain rfl : k = 58 := by omega
      go_wp2
      go_ret2
      exact ⟨rfl, _, rfl⟩
end Go.Proofs.YtemgjiajpgepiaaDoor
