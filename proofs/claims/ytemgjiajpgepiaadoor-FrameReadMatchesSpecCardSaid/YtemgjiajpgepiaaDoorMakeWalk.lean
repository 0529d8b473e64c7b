/-
  Number, Values, and what compares lists: contracts.
-/
import Derived.Test.YtemgjiajpgepiaaDoorMade
import Derived.Test.YtemgjiajpgepiaaDoorFramed
namespace Go.Proofs.YtemgjiajpgepiaaDoor
open Go.RowKit

set_option maxHeartbeats 400000 in
set_option maxRecDepth 100000 in
theorem Number_any (F : List Int) (hF : Fr F) (hn : Narrow F) (o1 : oddI (gw F 1) = true) (o2 : oddI (gw F 2) = true) (w : World) :
    Calls Tryd.prog 25 #[.agg (fc F)] w fun e w' => e = .returned (.tuple #[.int .i64 (numI F), .bool true]) ∧ ∃ x, w' = gx w x := by
  have hl := hF.len
  have d1 : decide (gw F 1 < 4096) = true := decide_eq_true (by have := hn 1 (by omega); omega)
  have d2 : decide (gw F 2 < 4096) = true := decide_eq_true (by have := hn 2 (by omega); omega)
  go_enter Tryd.func25, Tryd.ntmps25
  go_wp2_with (first | (refine load_fr rfl _ rfl _ rfl ?_ ?_ ?_ ?_; rotate_left; (focus (repeat (first | (with_reducible exact At.new _ _) | (with_reducible refine At.row ?_) | (with_reducible refine At.gx ?_) | ((with_reducible refine At.new' ?_); focus (simp; done)) | (with_reducible refine At.alloc ?_) | (with_reducible refine At.drew ?_) | (with_reducible exact Is.new _ _ _) | (with_reducible refine Is.row ?_) | (with_reducible refine Is.gx ?_) | ((with_reducible refine Is.new' ?_); focus (simp; done)) | (with_reducible refine Is.alloc ?_) | (with_reducible refine Is.drew ?_)))); (focus (with_reducible (first | exact hl | exact hl1 | exact hl2 | exact hl3 | exact hl4 | exact zeroF_len)))) | (go_at_call 82; refine (isTold_any _ (hF.bd _).1 (hF.bd _).2 _).mono ?_; rintro e w' ⟨rfl, z, rfl⟩) | (go_at_call 83; refine (numberOf_any F hF _).mono ?_; rintro e w' ⟨rfl, z, rfl⟩))
  go_ret2
  exact ⟨rfl, (by repeat (first | (with_reducible exact Gx.refl _) | (with_reducible assumption) | (with_reducible refine Gx.gx ?_) | (with_reducible refine Gx.alloc ?_) | (with_reducible refine Gx.drew ?_) | (with_reducible refine Gx.drewN ?_) | (with_reducible refine Gx.setRow ?_ (by simp)) | (with_reducible refine Gx.setCell ?_ (by simp))))⟩

/-- The cells of bools. -/
def lc (B : List Bool) : Array Value := (B.map Value.bool).toArray
def gb (B : List Bool) (k : Nat) : Bool := B.getD k false
@[go_sem] theorem lc_get (F : List Bool) (k : Nat) (h : k < F.length) : (lc F)[k]? = some (.bool (gb F k)) := by
  simp [lc, gb, List.getD, List.getElem?_eq_getElem h]
@[go_sem] theorem lc_set (F : List Bool) (k : Nat) (v : Bool) : (lc F).setIfInBounds k (.bool v) = lc (F.set k v) := by
  simp [lc, List.map_set]
theorem gb_set (F : List Bool) (i k : Nat) (v : Bool) (h : i < F.length) : gb (F.set i v) k = if k = i then v else gb F k := by
  unfold gb
  by_cases e : k = i
  · subst e; simp [List.getD, h]
  · rw [if_neg e]; simp [List.getD, Ne.symm e]
@[irreducible] def falses (n : Nat) : List Bool := List.replicate n false
theorem falses_len (n : Nat) : (falses n).length = n := by unfold falses; simp
@[go_sem high] theorem makeB58 (w : World) : (Instr.makeSlice 37 (.int .i64 58) (.int .i64 58)).run Tryd.prog w = .ok (.slice (some ⟨w.heap.size, 0, none⟩) 58 58) (w.alloc (.cells (lc (falses 58)) 4)) := by
  unfold falses
  kernel_rfl

def valTo (F : List Int) : Nat → List Int
  | 0 => zerosI 58
  | k + 1 => (valTo F k).set k (gw F (3 + k) % 2048)
def rightTo (F : List Int) : Nat → List Bool
  | 0 => falses 58
  | k + 1 => (rightTo F k).set k true
theorem valTo_len (F : List Int) : ∀ k, (valTo F k).length = 58
  | 0 => by unfold valTo; exact zerosI_len 58
  | k + 1 => by unfold valTo; rw [List.length_set, valTo_len F k]
theorem rightTo_len (F : List Int) : ∀ k, (rightTo F k).length = 58
  | 0 => by unfold rightTo; exact falses_len 58
  | k + 1 => by unfold rightTo; rw [List.length_set, rightTo_len F k]
theorem gw_valTo (F : List Int) : ∀ k, k ≤ 58 → ∀ j, j < k → gw (valTo F k) j = gw F (3 + j) % 2048
  | k + 1, hk, j, hj => by
    unfold valTo
    rw [gw_set _ _ _ _ (by rw [valTo_len]; omega)]
    by_cases e : j = k
    · rw [if_pos e, e]
    · rw [if_neg e]; exact gw_valTo F k (by omega) j (by omega)
theorem gb_rightTo (F : List Int) : ∀ k, k ≤ 58 → ∀ j, j < k → gb (rightTo F k) j = true
  | k + 1, hk, j, hj => by
    unfold rightTo
    rw [gb_set _ _ _ _ (by rw [rightTo_len]; omega)]
    by_cases e : j = k
    · rw [if_pos e]
    · rw [if_neg e]; exact gb_rightTo F k (by omega) j (by omega)
attribute [irreducible] valTo rightTo gb

set_option maxHeartbeats 1000000 in
set_option maxRecDepth 100000 in
theorem Values_any (F : List Int) (hF : Fr F) (hn : Narrow F) (ho : ∀ j, 1 ≤ j → j ≤ 63 → oddI (gw F j) = true) (w : World) :
    Calls Tryd.prog 26 #[.agg (fc F)] w fun e w' => e = .returned (.tuple #[.slice (some ⟨w.heap.size + 1, 0, none⟩) 58 58, .slice (some ⟨w.heap.size + 1 + 1, 0, none⟩) 58 58]) ∧
      ∃ x, w' = gx (((w.alloc (.cells (fc F) 32)).alloc (.cells (ic (valTo F 58)) 3)).alloc (.cells (lc (rightTo F 58)) 4)) x := by
  have hl := hF.len
  have z1 : zerosI 58 = valTo F 0 := by rw [valTo]
  have z2 : falses 58 = rightTo F 0 := by rw [rightTo]
  have Ho := Lib.hid ho
  clear ho
  go_enter Tryd.func26, Tryd.ntmps26
  go_wp2
  try rw [z1, z2]
  go_loopw [10] (fun i wr => ∃ (k : Nat) (x : Ext), k ≤ 58 ∧ i = .int .i64 k ∧ wr = gx (((w.alloc (.cells (fc F) 32)).alloc (.cells (ic (valTo F k)) 3)).alloc (.cells (lc (rightTo F k)) 4)) x) (fun i _ => 58 - (intOf i).toNat)
  case atStart => exact ⟨0, _, Nat.zero_le _, rfl, (gx_none _).symm⟩
  case round =>
    obtain ⟨k, y, hk, rfl, rfl⟩ := hrel
    by_cases hlt : k < 58
    · have hlt3 : 3 + k < 64 := by omega
      have k0 : 0 ≤ gw F (3 + k) := (hF.bd _).1
      have k1 : gw F (3 + k) ≤ 65535 := (hF.bd _).2
      have k2 : gw F (3 + k) ≤ 4095 := hn _ (by omega)
      have k3 : decide (gw F (3 + k) < 4096) = true := decide_eq_true (by omega)
      have k4 : oddI (gw F (3 + k)) = true := Ho.out _ (by omega) (by omega)
      have hv : (valTo F k).set k (gw F (3 + k) % 2048) = valTo F (k + 1) := by rw [valTo]
      have hr : (rightTo F k).set k true = rightTo F (k + 1) := by rw [rightTo]
      have lv := valTo_len F k
      have lr := rightTo_len F k
      go_wp2_with (first | (go_at_call 75; refine (dataOf_any _ k0 k1 _).mono ?_; rintro e w' ⟨rfl, rfl⟩) | (go_at_call 82; refine (isTold_any _ k0 k1 _).mono ?_; rintro e w' ⟨rfl, z, rfl⟩))
      go_roundw
      case rel => exact ⟨k + 1, _, by omega, by go_num, rfl⟩
      case measure => simp [intOf]; omega
    · obtain rfl : k = 58 := by omega
      go_wp2
      go_ret2
      exact ⟨rfl, _, rfl⟩

set_option maxHeartbeats 400000 in
set_option maxRecDepth 100000 in
theorem IndexB_none (n b : Nat) (c : Nat) (hn : n ≤ 9223372036854775807) (w : World) (hc : ∀ j, j < n → w.cell? ⟨b, 0 + j, none⟩ = some (.bool true)) :
    Calls Tryd.prog 85 #[.slice (some ⟨b, 0, none⟩) n c, .bool false] w fun e w' => e = .returned (.int .i64 (-1)) ∧ w = w' := by
  have Hc := Lib.hid hc
  clear hc
  go_enter Tryd.func85, Tryd.ntmps85
  go_wp2
  go_loop [8] (fun i => ∃ k : Nat, k ≤ n ∧ i = .int .i64 k) (fun i => n - (intOf i).toNat)
  case atStart => exact ⟨0, Nat.zero_le _, rfl⟩
  case round =>
    obtain ⟨k, hk, rfl⟩ := hrel
    by_cases hlt : k < n
    · have c0 : w.cell? ⟨b, k, none⟩ = some (.bool true) := by have := Hc.out k hlt; rwa [Nat.zero_add] at this
      have hbw : b < w.heap.size := World.block_lt_of_cell? w _ c0
      go_wp2
      go_round
      case rel => exact ⟨k + 1, by omega, by go_num⟩
      case measure => simp [intOf]; omega
    · obtain rfl : k = n := by omega
      go_wp2
      go_ret
      exact ⟨rfl, rfl⟩

set_option maxHeartbeats 400000 in
theorem ContainsB_none (n b : Nat) (c : Nat) (hn : n ≤ 9223372036854775807) (w : World) (hc : ∀ j, j < n → w.cell? ⟨b, 0 + j, none⟩ = some (.bool true)) :
    Calls Tryd.prog 29 #[.slice (some ⟨b, 0, none⟩) n c, .bool false] w fun e w' => e = .returned (.bool false) ∧ w = w' := by
  go_enter Tryd.func29, Tryd.ntmps29
  go_wp2_with (go_at_call 85; refine (IndexB_none n b c hn _ hc).mono ?_; rintro e w' ⟨rfl, rfl⟩)
  go_ret
  exact ⟨rfl, rfl⟩

set_option maxHeartbeats 400000 in
set_option maxRecDepth 100000 in
theorem EqualI_same (D : List Int) (n b o c b' o' c' : Nat) (hn : n ≤ 9223372036854775807) (w : World) (hc : ∀ j, j < n → w.cell? ⟨b, o + j, none⟩ = some (.int .i64 (gw D j))) (hc' : ∀ j, j < n → w.cell? ⟨b', o' + j, none⟩ = some (.int .i64 (gw D j))) :
    Calls Tryd.prog 28 #[.slice (some ⟨b, o, none⟩) n c, .slice (some ⟨b', o', none⟩) n c'] w fun e w' => e = .returned (.bool true) ∧ ∃ x, w' = gx w x := by
  have Hc := Lib.hid hc
  have Hc' := Lib.hid hc'
  clear hc hc'
  go_enter Tryd.func28, Tryd.ntmps28
  go_wp2
  go_loopw [13] (fun i wr => ∃ (k : Nat) (x : Ext), k ≤ n ∧ i = .int .i64 k ∧ wr = gx w x) (fun i _ => n - (intOf i).toNat)
  case atStart => exact ⟨0, _, Nat.zero_le _, rfl, (gx_none _).symm⟩
  case round =>
    obtain ⟨k, y, hk, rfl, rfl⟩ := hrel
    by_cases hlt : k < n
    · have c0 := Hc.out k hlt
      have c1 := Hc'.out k hlt
      have hbw : b < w.heap.size := World.block_lt_of_cell? w _ c0
      have hbw' : b' < w.heap.size := World.block_lt_of_cell? w _ c1
      go_wp2
      first | (with_reducible refine region_gxx (by kernel_rfl) (by kernel_rfl) ?_) | (with_reducible refine region_gx (by kernel_rfl) (by kernel_rfl) ?_)
      repeat (any_goals (first | (refine quiet_fr rfl _ rfl _ rfl ?_ ?_ ?_ ?_; rotate_left; (focus (rintro _ ⟨x, rfl⟩; (focus (repeat (first | (with_reducible exact At.new _ _) | (with_reducible refine At.row ?_) | (with_reducible refine At.gx ?_) | ((with_reducible refine At.new' ?_); focus (simp; done)) | (with_reducible refine At.alloc ?_) | (with_reducible refine At.drew ?_) | (with_reducible exact Is.new _ _ _) | (with_reducible refine Is.row ?_) | (with_reducible refine Is.gx ?_) | ((with_reducible refine Is.new' ?_); focus (simp; done)) | (with_reducible refine Is.alloc ?_) | (with_reducible refine Is.drew ?_)))))); (focus (with_reducible (first | exact hl | exact hl1 | exact hl2 | exact hl3 | exact hl4 | exact zeroF_len)))) | go_big_quiet_step ((first | fail)) | quiet_step ((first | fail))))
      refine wpQuiet_nil ?_
      rintro _ ⟨x, rfl⟩
      go_wp2
      go_roundw
      case rel => exact ⟨k + 1, _, by omega, by go_num, rfl⟩
      case measure => simp [intOf]; omega
    · obtain rfl : k = n := by omega
      go_wp2
      go_ret
      exact ⟨rfl, (by repeat (first | (with_reducible exact Gx.refl _) | (with_reducible assumption) | (with_reducible refine Gx.gx ?_) | (with_reducible refine Gx.alloc ?_) | (with_reducible refine Gx.drew ?_) | (with_reducible refine Gx.drewN ?_) | (with_reducible refine Gx.setRow ?_ (by simp)) | (with_reducible refine Gx.setCell ?_ (by simp))))⟩
end Go.Proofs.YtemgjiajpgepiaaDoor
