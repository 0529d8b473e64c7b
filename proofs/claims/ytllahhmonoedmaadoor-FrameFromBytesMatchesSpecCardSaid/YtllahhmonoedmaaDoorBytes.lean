/-
  Frames in bytes, in place: contracts.
-/
import Derived.Test.YtllahhmonoedmaaDoorNew
namespace Go.Proofs.YtllahhmonoedmaaDoor
open Go.RowKit

/-- The cells of bytes. -/
def bc (B : List Int) : Array Value := (B.map (Value.int .u8)).toArray
@[go_sem] theorem bc_get (F : List Int) (k : Nat) (h : k < F.length) : (bc F)[k]? = some (.int .u8 (gw F k)) := by
  simp [bc, gw, List.getD, List.getElem?_eq_getElem h]
@[go_sem] theorem bc_set (F : List Int) (k : Nat) (v : Int) : (bc F).setIfInBounds k (.int .u8 v) = bc (F.set k v) := by
  simp [bc, List.map_set]
theorem bc_size (F : List Int) : (bc F).size = F.length := by simp [bc]

/-- The error of a place. -/
def placeE (n at_ k : Int) : Int := if at_ < 0 then 9 else if n - at_ < k then 3 else 0

set_option maxHeartbeats 400000 in
theorem checkRoom_any (A : Option Addr) (n c : Nat) (at_ k : Int) (hm : n ≤ 9223372036854775807) (ha : at_ ≤ 9223372036854775807) (w : World) :
    Calls Tryd.prog 110 #[.slice A n c, .int .i64 at_, .int .i64 k] w fun e w' => e = .returned (.int .i64 (placeE n at_ k)) ∧ w = w' := by
  have hp : placeE n at_ k = if at_ < 0 then 9 else if (n : Int) - at_ < k then 3 else 0 := rfl
  have Hp := Lib.hid hp
  clear hp
  by_cases h0 : at_ < 0
  · go_enter Tryd.func110, Tryd.ntmps110
    go_wp2
    go_ret
    exact ⟨by rw [Hp.out, if_pos h0]; rfl, rfl⟩
  · by_cases h1 : (n : Int) - at_ < k
    · go_enter Tryd.func110, Tryd.ntmps110
      go_wp2
      go_ret
      exact ⟨by rw [Hp.out, if_neg (by omega), if_pos h1]; rfl, rfl⟩
    · go_enter Tryd.func110, Tryd.ntmps110
      go_wp2
      go_ret
      exact ⟨by rw [Hp.out, if_neg (by omega), if_neg (by omega)]; rfl, rfl⟩

set_option maxHeartbeats 400000 in
theorem inPlace_bad (A : Option Addr) (n c : Nat) (at_ : Int) (hm : n ≤ 9223372036854775807) (ha : at_ ≤ 9223372036854775807) (w : World) (E : Int) (he : placeE n at_ 96 = E) (hE : E ≠ 0) :
    Calls Tryd.prog 106 #[.slice A n c, .int .i64 at_] w fun e w' => e = .returned (.tuple #[.pointer none, .int .i64 E]) ∧ w = w' := by
  have hb : (E != 0) = true := by rw [bne_iff_ne]; exact hE
  clear hE
  go_enter Tryd.func106, Tryd.ntmps106
  go_wp2_with (go_at_call 110; refine (checkRoom_any A n c at_ 96 hm ha _).mono ?_; rintro e w' ⟨rfl, rfl⟩)
  go_ret2
  exact ⟨rfl, rfl⟩

set_option maxHeartbeats 400000 in
set_option maxRecDepth 100000 in
theorem inPlace_good (b o n c : Nat) (a : Nat) (hm : n ≤ 9223372036854775807) (hnc : n ≤ c) (hcm : c ≤ 9223372036854775807) (h : a + 96 ≤ n) (w : World) :
    Calls Tryd.prog 106 #[.slice (some ⟨b, o, none⟩) n c, .int .i64 a] w fun e w' => e = .returned (.tuple #[.pointer (some ⟨b, o + a, none⟩), .int .i64 0]) ∧ w = w' := by
  have he : placeE n a 96 = 0 := by unfold placeE; rw [if_neg (by omega), if_neg (by omega)]
  have hac : ¬ (c = a) := by omega
  have hat : ∀ w, (Instr.arrayAt 120 (.slice (some ⟨b, o + a, none⟩) (n - a) (c - a))).run Tryd.prog w = .ok (.pointer (some ⟨b, o + a, none⟩)) w := fun w => run_arrayAt _ _ _ _ _ _ _ Tryd.underlying120 (by omega)
  go_enter Tryd.func106, Tryd.ntmps106
  go_wp2_with (go_at_call 110; refine (checkRoom_any _ n c a 96 hm (by omega) _).mono ?_; rintro e w' ⟨rfl, rfl⟩)
  go_ret2
  exact ⟨rfl, rfl⟩

def rdI (B : List Int) (i : Nat) : Int :=
  if i % 2 = 0 then gw B (i / 2 * 3) * 16 + gw B (i / 2 * 3 + 1) / 16 else gw B (i / 2 * 3 + 1) % 16 * 256 + gw B (i / 2 * 3 + 2)
def Bs (B : List Int) : Prop := ∀ k, 0 ≤ gw B k ∧ gw B k ≤ 255

set_option maxHeartbeats 400000 in
theorem readWord_any (B : List Int) (hB : Bs B) (b o i : Nat) (hi : i < 64) (w : World) (hc : ∀ j, j < 96 → w.cell? ⟨b, o + j, none⟩ = some (.int .u8 (gw B j))) :
    Calls Tryd.prog 109 #[.pointer (some ⟨b, o, none⟩), .int .i64 i] w fun e w' => e = .returned (.int .u16 (rdI B i)) ∧ ∃ x, w' = gx w x := by
  have c0 := hc (i / 2 * 3) (by omega)
  have c1 := hc (i / 2 * 3 + 1) (by omega)
  have c2 := hc (i / 2 * 3 + 2) (by omega)
  have hbw : b < w.heap.size := World.block_lt_of_cell? w _ c0
  have b0 := hB (i / 2 * 3)
  have b1 := hB (i / 2 * 3 + 1)
  have b2 := hB (i / 2 * 3 + 2)
  have k0 := b0.1
  have k1 := b0.2
  have k2 := b1.1
  have k3 := b1.2
  have k4 := b2.1
  have k5 := b2.2
  clear b0 b1 b2 hc
  have hr : rdI B i = if i % 2 = 0 then gw B (i / 2 * 3) * 16 + gw B (i / 2 * 3 + 1) / 16 else gw B (i / 2 * 3 + 1) % 16 * 256 + gw B (i / 2 * 3 + 2) := rfl
  have Hr := Lib.hid hr
  clear hr
  have i0 : i / 2 * 3 < 96 := by omega
  have i1 : i / 2 * 3 + 1 < 96 := by omega
  have i2 : i / 2 * 3 + 2 < 96 := by omega
  by_cases h : i % 2 = 0
  · have h' : ((i : Int) % 2 == 0) = true := by rw [beq_iff_eq]; omega
    have ho : bits .or .u16 (gw B (i / 2 * 3) * 16) (gw B (i / 2 * 3 + 1) / 16) = gw B (i / 2 * 3) * 16 + gw B (i / 2 * 3 + 1) / 16 :=
      bits_join .u16 16 (by decide) wraps_u16 4 _ _ (by omega) (by omega) (by omega) (by omega) (by omega) (by omega)
    have H := Lib.hid h
    clear h
    go_enter Tryd.func109, Tryd.ntmps109
    go_wp2
    refine region_gx (by kernel_rfl) (by kernel_rfl) ?_
    repeat (any_goals (first | go_big_quiet_step (fail) | quiet_step (fail)))
    refine wpQuiet_nil ?_
    rintro _ ⟨x, rfl⟩
    go_wp2
    go_ret
    exact ⟨by rw [Hr.out, if_pos H.out]; rfl, (by repeat (first | (with_reducible exact Gx.refl _) | (with_reducible assumption) | (with_reducible refine Gx.gx ?_) | (with_reducible refine Gx.alloc ?_) | (with_reducible refine Gx.drew ?_) | (with_reducible refine Gx.drewN ?_) | (with_reducible refine Gx.setRow ?_ (by simp)) | (with_reducible refine Gx.setCell ?_ (by simp))))⟩
  · have h' : ((i : Int) % 2 == 0) = false := by rw [beq_eq_false_iff_ne]; omega
    have hd : bits .and .u8 (gw B (i / 2 * 3 + 1)) 15 = gw B (i / 2 * 3 + 1) % 16 := u8_and15 _ k2 (by omega)
    have ho : bits .or .u16 (gw B (i / 2 * 3 + 1) % 16 * 256) (gw B (i / 2 * 3 + 2)) = gw B (i / 2 * 3 + 1) % 16 * 256 + gw B (i / 2 * 3 + 2) :=
      bits_join .u16 16 (by decide) wraps_u16 8 _ _ (by omega) (by omega) (by omega) (by omega) (by omega) (by omega)
    have H := Lib.hid h
    clear h
    go_enter Tryd.func109, Tryd.ntmps109
    go_wp2
    refine region_gx (by kernel_rfl) (by kernel_rfl) ?_
    repeat (any_goals (first | go_big_quiet_step (fail) | quiet_step (fail)))
    refine wpQuiet_nil ?_
    rintro _ ⟨x, rfl⟩
    go_wp2
    go_ret
    exact ⟨by rw [Hr.out, if_neg H.out]; rfl, (by repeat (first | (with_reducible exact Gx.refl _) | (with_reducible assumption) | (with_reducible refine Gx.gx ?_) | (with_reducible refine Gx.alloc ?_) | (with_reducible refine Gx.drew ?_) | (with_reducible refine Gx.drewN ?_) | (with_reducible refine Gx.setRow ?_ (by simp)) | (with_reducible refine Gx.setCell ?_ (by simp))))⟩

/-- The frame that is read, word by word. -/
def rdTo (Z B : List Int) : Nat → List Int
  | 0 => Z
  | k + 1 => (rdTo Z B k).set k (rdI B k)
theorem rdTo_len (Z B : List Int) : ∀ k, (rdTo Z B k).length = Z.length
  | 0 => rfl
  | k + 1 => by simp [rdTo, rdTo_len Z B k]
def rdF (B : List Int) : List Int := rdTo zeroF B 64
theorem rdF_len (B : List Int) : (rdF B).length = 64 := by unfold rdF; rw [rdTo_len]; exact zeroF_len
theorem rdF_eq (B : List Int) : rdTo zeroF B 64 = rdF B := rfl
attribute [irreducible] rdF
theorem rdI_bd {B : List Int} (hB : Bs B) (i : Nat) : 0 ≤ rdI B i ∧ rdI B i ≤ 4095 := by
  unfold rdI
  have b0 := hB (i / 2 * 3)
  have b1 := hB (i / 2 * 3 + 1)
  have b2 := hB (i / 2 * 3 + 2)
  split <;> omega

set_option maxHeartbeats 400000 in
set_option maxRecDepth 100000 in
theorem read_any (B : List Int) (hB : Bs B) (b o : Nat) (w : World) (hc : ∀ j, j < 96 → w.cell? ⟨b, o + j, none⟩ = some (.int .u8 (gw B j))) :
    Calls Tryd.prog 107 #[.pointer (some ⟨b, o, none⟩)] w fun e w' => e = .returned (.agg (fc (rdF B))) ∧ ∃ x, w' = gx w x := by
  have hbw : b < w.heap.size := World.block_lt_of_cell? w _ (hc 0 (by omega))
  have hc' := Lib.hid hc
  clear hc
  have hl := rdF_len B
  go_enter Tryd.func107, Tryd.ntmps107
  go_wp2
  go_loopw [5] (fun i wr => ∃ (k : Nat) (x : Ext), k ≤ 64 ∧ i = .int .i64 k ∧ wr = gx ((w.alloc (.cells (fc zeroF) 32)).alloc (.cells (fc (rdTo zeroF B k)) 32)) x) (fun i _ => 64 - (intOf i).toNat)
  case atStart => exact ⟨0, _, Nat.zero_le _, rfl, (gx_none _).symm⟩
  case round =>
    obtain ⟨k, y, hk, rfl, rfl⟩ := hrel
    by_cases hlt : k < 64
    · have hlk : (rdTo zeroF B k).length = 64 := by rw [rdTo_len]; exact zeroF_len
      have e : (rdTo zeroF B k).set k (rdI B k) = rdTo zeroF B (k + 1) := rfl
      go_wp2_with (go_at_call 109; refine (readWord_any B hB b o k hlt _ ?_).mono ?_; (focus (intro j hj; repeat (first | (with_reducible exact hc'.out j hj) | (with_reducible refine cell_keep_gx ?_) | (with_reducible refine cell_keep_alloc ?_)))); rintro e w' ⟨rfl, z, rfl⟩)
      go_roundw
      case rel => exact ⟨k + 1, _, by omega, by go_num, rfl⟩
      case measure => simp [intOf]; omega
    · obtain rfl : k = 64 := by omega
      rw [rdF_eq B]
      go_wp2_with (first | (refine load_fr rfl _ rfl _ rfl ?_ ?_ ?_ ?_; rotate_left; (focus (repeat (first | (with_reducible exact At.new _ _) | (with_reducible refine At.row ?_) | (with_reducible refine At.gx ?_) | ((with_reducible refine At.new' ?_); focus (simp; done)) | (with_reducible refine At.alloc ?_) | (with_reducible refine At.drew ?_) | (with_reducible exact Is.new _ _ _) | (with_reducible refine Is.row ?_) | (with_reducible refine Is.gx ?_) | ((with_reducible refine Is.new' ?_); focus (simp; done)) | (with_reducible refine Is.alloc ?_) | (with_reducible refine Is.drew ?_)))); (focus (with_reducible (first | exact hl | exact hl1 | exact hl2 | exact hl3 | exact hl4 | exact zeroF_len)))) | (refine store_fr rfl _ _ rfl _ rfl _ rfl ?_ ?_ ?_ ?_ ?_; rotate_left; (focus (repeat (first | (with_reducible exact At.new _ _) | (with_reducible refine At.row ?_) | (with_reducible refine At.gx ?_) | ((with_reducible refine At.new' ?_); focus (simp; done)) | (with_reducible refine At.alloc ?_) | (with_reducible refine At.drew ?_) | (with_reducible exact Is.new _ _ _) | (with_reducible refine Is.row ?_) | (with_reducible refine Is.gx ?_) | ((with_reducible refine Is.new' ?_); focus (simp; done)) | (with_reducible refine Is.alloc ?_) | (with_reducible refine Is.drew ?_)))); (focus (with_reducible (first | exact hl | exact hl1 | exact hl2 | exact hl3 | exact hl4 | exact zeroF_len))); (focus (with_reducible (first | exact hl | exact hl1 | exact hl2 | exact hl3 | exact hl4 | exact zeroF_len)))))
      (refine ret_fr rfl _ _ _ ?_ rfl rfl ?_ ?_ ?_; rotate_left; (focus (repeat (first | (with_reducible exact At.new _ _) | (with_reducible refine At.row ?_) | (with_reducible refine At.gx ?_) | ((with_reducible refine At.new' ?_); focus (simp; done)) | (with_reducible refine At.alloc ?_) | (with_reducible refine At.drew ?_) | (with_reducible exact Is.new _ _ _) | (with_reducible refine Is.row ?_) | (with_reducible refine Is.gx ?_) | ((with_reducible refine Is.new' ?_); focus (simp; done)) | (with_reducible refine Is.alloc ?_) | (with_reducible refine Is.drew ?_)))); (focus (with_reducible (first | exact hl | exact hl1 | exact hl2 | exact hl3 | exact hl4 | exact zeroF_len))))
      exact ⟨rfl, (by repeat (first | (with_reducible exact Gx.refl _) | (with_reducible assumption) | (with_reducible refine Gx.gx ?_) | (with_reducible refine Gx.alloc ?_) | (with_reducible refine Gx.drew ?_) | (with_reducible refine Gx.drewN ?_) | (with_reducible refine Gx.setRow ?_ (by simp)) | (with_reducible refine Gx.setCell ?_ (by simp))))⟩

set_option maxHeartbeats 400000 in
set_option maxRecDepth 100000 in
theorem Get_bad (A : Option Addr) (n c : Nat) (at_ : Int) (hm : n ≤ 9223372036854775807) (ha : at_ ≤ 9223372036854775807) (w : World) (E : Int) (he : placeE n at_ 96 = E) (hE : E ≠ 0) :
    Calls Tryd.prog 50 #[.slice A n c, .int .i64 at_] w fun e w' => e = .returned (.tuple #[.agg (fc zeroF), .int .i64 E]) ∧ ∃ x, w' = gx w x := by
  have hl := zeroF_len
  have hb : (E != 0) = true := by rw [bne_iff_ne]; exact hE
  have HE := Lib.hid he
  clear he
  go_enter Tryd.func50, Tryd.ntmps50
  go_wp2_with (first | (refine load_fr rfl _ rfl _ rfl ?_ ?_ ?_ ?_; rotate_left; (focus (repeat (first | (with_reducible exact At.new _ _) | (with_reducible refine At.row ?_) | (with_reducible refine At.gx ?_) | ((with_reducible refine At.new' ?_); focus (simp; done)) | (with_reducible refine At.alloc ?_) | (with_reducible refine At.drew ?_) | (with_reducible exact Is.new _ _ _) | (with_reducible refine Is.row ?_) | (with_reducible refine Is.gx ?_) | ((with_reducible refine Is.new' ?_); focus (simp; done)) | (with_reducible refine Is.alloc ?_) | (with_reducible refine Is.drew ?_)))); (focus (with_reducible (first | exact hl | exact hl1 | exact hl2 | exact hl3 | exact hl4 | exact zeroF_len)))) | (refine store_fr rfl _ _ rfl _ rfl _ rfl ?_ ?_ ?_ ?_ ?_; rotate_left; (focus (repeat (first | (with_reducible exact At.new _ _) | (with_reducible refine At.row ?_) | (with_reducible refine At.gx ?_) | ((with_reducible refine At.new' ?_); focus (simp; done)) | (with_reducible refine At.alloc ?_) | (with_reducible refine At.drew ?_) | (with_reducible exact Is.new _ _ _) | (with_reducible refine Is.row ?_) | (with_reducible refine Is.gx ?_) | ((with_reducible refine Is.new' ?_); focus (simp; done)) | (with_reducible refine Is.alloc ?_) | (with_reducible refine Is.drew ?_)))); (focus (with_reducible (first | exact hl | exact hl1 | exact hl2 | exact hl3 | exact hl4 | exact zeroF_len))); (focus (with_reducible (first | exact hl | exact hl1 | exact hl2 | exact hl3 | exact hl4 | exact zeroF_len)))) | (go_at_call 106; refine (inPlace_bad A n c at_ hm ha _ E HE.out hE).mono ?_; rintro e w' ⟨rfl, rfl⟩))
  (refine ret_fr_tmp rfl _ _ _ ?_ rfl rfl ?_ ?_ ?_; rotate_left; (focus (repeat (first | (with_reducible exact At.new _ _) | (with_reducible refine At.row ?_) | (with_reducible refine At.gx ?_) | ((with_reducible refine At.new' ?_); focus (simp; done)) | (with_reducible refine At.alloc ?_) | (with_reducible refine At.drew ?_) | (with_reducible exact Is.new _ _ _) | (with_reducible refine Is.row ?_) | (with_reducible refine Is.gx ?_) | ((with_reducible refine Is.new' ?_); focus (simp; done)) | (with_reducible refine Is.alloc ?_) | (with_reducible refine Is.drew ?_)))); (focus (with_reducible (first | exact hl | exact hl1 | exact hl2 | exact hl3 | exact hl4 | exact zeroF_len))))
  exact ⟨rfl, (by repeat (first | (with_reducible exact Gx.refl _) | (with_reducible assumption) | (with_reducible refine Gx.gx ?_) | (with_reducible refine Gx.alloc ?_) | (with_reducible refine Gx.drew ?_) | (with_reducible refine Gx.drewN ?_) | (with_reducible refine Gx.setRow ?_ (by simp)) | (with_reducible refine Gx.setCell ?_ (by simp))))⟩

set_option maxHeartbeats 400000 in
set_option maxRecDepth 100000 in
theorem Get_good (B : List Int) (hB : Bs B) (b o n c a : Nat) (hm : n ≤ 9223372036854775807) (hnc : n ≤ c) (hcm : c ≤ 9223372036854775807) (h : a + 96 ≤ n) (w : World)
    (hc : ∀ j, j < 96 → w.cell? ⟨b, o + a + j, none⟩ = some (.int .u8 (gw B j))) :
    Calls Tryd.prog 50 #[.slice (some ⟨b, o, none⟩) n c, .int .i64 a] w fun e w' => e = .returned (.tuple #[.agg (fc (rdF B)), .int .i64 0]) ∧ ∃ x, w' = gx w x := by
  have hl := zeroF_len
  have hl1 := rdF_len B
  have hc' := Lib.hid hc
  clear hc
  go_enter Tryd.func50, Tryd.ntmps50
  go_wp2_with (first | (refine load_fr rfl _ rfl _ rfl ?_ ?_ ?_ ?_; rotate_left; (focus (repeat (first | (with_reducible exact At.new _ _) | (with_reducible refine At.row ?_) | (with_reducible refine At.gx ?_) | ((with_reducible refine At.new' ?_); focus (simp; done)) | (with_reducible refine At.alloc ?_) | (with_reducible refine At.drew ?_) | (with_reducible exact Is.new _ _ _) | (with_reducible refine Is.row ?_) | (with_reducible refine Is.gx ?_) | ((with_reducible refine Is.new' ?_); focus (simp; done)) | (with_reducible refine Is.alloc ?_) | (with_reducible refine Is.drew ?_)))); (focus (with_reducible (first | exact hl | exact hl1 | exact hl2 | exact hl3 | exact hl4 | exact zeroF_len)))) | (refine store_fr rfl _ _ rfl _ rfl _ rfl ?_ ?_ ?_ ?_ ?_; rotate_left; (focus (repeat (first | (with_reducible exact At.new _ _) | (with_reducible refine At.row ?_) | (with_reducible refine At.gx ?_) | ((with_reducible refine At.new' ?_); focus (simp; done)) | (with_reducible refine At.alloc ?_) | (with_reducible refine At.drew ?_) | (with_reducible exact Is.new _ _ _) | (with_reducible refine Is.row ?_) | (with_reducible refine Is.gx ?_) | ((with_reducible refine Is.new' ?_); focus (simp; done)) | (with_reducible refine Is.alloc ?_) | (with_reducible refine Is.drew ?_)))); (focus (with_reducible (first | exact hl | exact hl1 | exact hl2 | exact hl3 | exact hl4 | exact zeroF_len))); (focus (with_reducible (first | exact hl | exact hl1 | exact hl2 | exact hl3 | exact hl4 | exact zeroF_len)))) | (go_at_call 106; refine (inPlace_good b o n c a hm hnc hcm h _).mono ?_; rintro e w' ⟨rfl, rfl⟩) | (go_at_call 107; refine (read_any B hB b (o + a) _ ?_).mono ?_; (focus (intro j hj; repeat (first | (with_reducible exact hc'.out j hj) | (with_reducible refine cell_keep_gx ?_) | (with_reducible refine cell_keep_alloc ?_)))); rintro e w' ⟨rfl, z, rfl⟩))
  (refine ret_fr_tmp rfl _ _ _ ?_ rfl rfl ?_ ?_ ?_; rotate_left; (focus (repeat (first | (with_reducible exact At.new _ _) | (with_reducible refine At.row ?_) | (with_reducible refine At.gx ?_) | ((with_reducible refine At.new' ?_); focus (simp; done)) | (with_reducible refine At.alloc ?_) | (with_reducible refine At.drew ?_) | (with_reducible exact Is.new _ _ _) | (with_reducible refine Is.row ?_) | (with_reducible refine Is.gx ?_) | ((with_reducible refine Is.new' ?_); focus (simp; done)) | (with_reducible refine Is.alloc ?_) | (with_reducible refine Is.drew ?_)))); (focus (with_reducible (first | exact hl | exact hl1 | exact hl2 | exact hl3 | exact hl4 | exact zeroF_len))))
  exact ⟨rfl, (by repeat (first | (with_reducible exact Gx.refl _) | (with_reducible assumption) | (with_reducible refine Gx.gx ?_) | (with_reducible refine Gx.alloc ?_) | (with_reducible refine Gx.drew ?_) | (with_reducible refine Gx.drewN ?_) | (with_reducible refine Gx.setRow ?_ (by simp)) | (with_reducible refine Gx.setCell ?_ (by simp))))⟩
end Go.Proofs.YtllahhmonoedmaaDoor
