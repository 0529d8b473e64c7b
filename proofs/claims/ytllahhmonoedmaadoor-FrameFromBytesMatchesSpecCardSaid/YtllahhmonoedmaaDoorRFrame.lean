/-
  The reference's frame: read from bytes, four bits at a time.
-/
import Derived.Test.YtllahhmonoedmaaDoorLawPut
namespace Go.Proofs.YtllahhmonoedmaaDoor
open Go.RowKit
-- AT2

/-- Four bits of the bytes: the piece n. -/
def nibI (B : List Int) (n : Nat) : Int := if n % 2 = 0 then gw B (n / 2) / 16 else gw B (n / 2) % 16
/-- Word i after its first k pieces. -/
def accI (B : List Int) (i : Nat) : Nat → Int
  | 0 => 0
  | k + 1 => accI B i k * 16 + nibI B (3 * i + k)
theorem nibI_bd {B : List Int} (hB : Bs B) (n : Nat) : 0 ≤ nibI B n ∧ nibI B n ≤ 15 := by
  have := hB (n / 2)
  unfold nibI
  split <;> omega
theorem accI_bd {B : List Int} (hB : Bs B) (i : Nat) : ∀ k, k ≤ 2 → 0 ≤ accI B i k ∧ accI B i k ≤ 255
  | 0, _ => by simp [accI]
  | 1, _ => by have := nibI_bd hB (3 * i + 0); simp only [accI]; omega
  | 2, _ => by have := nibI_bd hB (3 * i + 0); have := nibI_bd hB (3 * i + 1); simp only [accI]; omega
theorem accI_end (B : List Int) (i : Nat) : accI B i 3 = rdI B i := by
  simp only [accI]
  have c : i % 2 = 0 ∨ i % 2 = 1 := by omega
  unfold nibI rdI
  rcases c with c | c
  · rw [if_pos (show (3 * i + 0) % 2 = 0 by omega), if_neg (show ¬ (3 * i + 1) % 2 = 0 by omega), if_pos (show (3 * i + 2) % 2 = 0 by omega), if_pos c, show (3 * i + 0) / 2 = i / 2 * 3 by omega, show (3 * i + 1) / 2 = i / 2 * 3 by omega, show (3 * i + 2) / 2 = i / 2 * 3 + 1 by omega]
    omega
  · rw [if_neg (show ¬ (3 * i + 0) % 2 = 0 by omega), if_pos (show (3 * i + 1) % 2 = 0 by omega), if_neg (show ¬ (3 * i + 2) % 2 = 0 by omega), if_neg (show ¬ i % 2 = 0 by omega), show (3 * i + 0) / 2 = i / 2 * 3 + 1 by omega, show (3 * i + 1) / 2 = i / 2 * 3 + 2 by omega, show (3 * i + 2) / 2 = i / 2 * 3 + 2 by omega]
    omega
theorem set_same (G : List Int) (i : Nat) (v : Int) (h : gw G i = v) (hi : i < G.length) : G.set i v = G :=
  ext_gw (by simp) fun k _ => by
    rw [gw_set _ _ _ _ hi]
    split
    · rename_i e; subst e; exact h.symm
    · rfl
theorem rd_zero (B : List Int) (i : Nat) (hi : i < 64) : (rdTo zeroF B i).set i (accI B i 0) = rdTo zeroF B i :=
  set_same _ _ _ (by rw [gw_rdTo zeroF B zeroF_len i (by omega) i, if_neg (by omega), zeroF_get]; rfl) (by rw [rdTo_len, zeroF_len]; exact hi)
theorem rd_step (B : List Int) (i : Nat) : (rdTo zeroF B i).set i (accI B i 3) = rdTo zeroF B (i + 1) := by rw [accI_end]; rfl
attribute [irreducible] nibI accI

set_option maxHeartbeats 1000000 in
set_option maxRecDepth 100000 in
theorem Rframe_any (B : List Int) (hB : Bs B) (b o n c : Nat) (hn : 96 ≤ n) (hm : n ≤ 9223372036854775807) (w : World) (hc : ∀ j, j < 96 → w.cell? ⟨b, o + j, none⟩ = some (.int .u8 (gw B j))) :
    Calls Tryd.prog 105 #[.slice (some ⟨b, o, none⟩) n c] w fun e w' => e = .returned (.agg (fc (rdF B))) ∧ ∃ x, w' = gx w x := by
  have hbw : b < w.heap.size := World.block_lt_of_cell? w _ (hc 0 (by omega))
  have hc' := Lib.hid hc
  clear hc
  have hl := rdF_len B
  have hz := zeroF_len
  go_enter Tryd.func105, Tryd.ntmps105
  go_wp2_with (first | (refine load_fr rfl _ rfl _ rfl ?_ ?_ ?_ ?_; rotate_left; (focus (repeat (first | (with_reducible assumption) | (with_reducible exact At.new _ _) | (with_reducible refine At.row ?_) | (with_reducible refine At.app ?_) | (with_reducible refine At.tick ?_) | (with_reducible refine At.gx ?_) | ((with_reducible refine At.new' ?_); focus (simp; done)) | (with_reducible refine At.alloc ?_) | (with_reducible refine At.drew ?_) | (with_reducible exact Is.new _ _ _) | (with_reducible refine Is.row ?_) | (with_reducible refine Is.gx ?_) | ((with_reducible refine Is.new' ?_); focus (simp; done)) | (with_reducible refine Is.alloc ?_) | (with_reducible refine Is.drew ?_)))); (focus (with_reducible (first | exact hl | exact hl1 | exact hl2 | exact hl3 | exact hl4 | exact zeroF_len)))) | (refine store_fr rfl _ _ rfl _ rfl _ rfl ?_ ?_ ?_ ?_ ?_; rotate_left; (focus (repeat (first | (with_reducible assumption) | (with_reducible exact At.new _ _) | (with_reducible refine At.row ?_) | (with_reducible refine At.app ?_) | (with_reducible refine At.tick ?_) | (with_reducible refine At.gx ?_) | ((with_reducible refine At.new' ?_); focus (simp; done)) | (with_reducible refine At.alloc ?_) | (with_reducible refine At.drew ?_) | (with_reducible exact Is.new _ _ _) | (with_reducible refine Is.row ?_) | (with_reducible refine Is.gx ?_) | ((with_reducible refine Is.new' ?_); focus (simp; done)) | (with_reducible refine Is.alloc ?_) | (with_reducible refine Is.drew ?_)))); (focus (with_reducible (first | exact hl | exact hl1 | exact hl2 | exact hl3 | exact hl4 | exact zeroF_len))); (focus (with_reducible (first | exact hl | exact hl1 | exact hl2 | exact hl3 | exact hl4 | exact zeroF_len)))))
  go_loopw [9] (fun i wr => ∃ k : Nat, k ≤ 64 ∧ i = .int .i64 k ∧ wr = (w.alloc (.cells (fc zeroF) 32)).alloc (.cells (fc (rdTo zeroF B k)) 32)) (fun i _ => 64 - (intOf i).toNat)
  case atStart => exact ⟨0, Nat.zero_le _, rfl, rfl⟩
  case round =>
    obtain ⟨i, hi, rfl, rfl⟩ := hrel
    by_cases hlt : i < 64
    · have hlk : (rdTo zeroF B i).length = 64 := by rw [rdTo_len]; exact zeroF_len
      go_wp2
      go_loopw [12] (fun kk wr => ∃ k : Nat, k ≤ 3 ∧ kk = .int .i64 k ∧ wr = (w.alloc (.cells (fc zeroF) 32)).alloc (.cells (fc ((rdTo zeroF B i).set i (accI B i k))) 32)) (fun kk _ => 3 - (intOf kk).toNat)
      case atStart => exact ⟨0, Nat.zero_le _, rfl, by rw [rd_zero B i hlt]⟩
      case round =>
        obtain ⟨k, hk, rfl, rfl⟩ := hrel
        by_cases hk3 : k < 3
        · obtain ⟨m, hm2⟩ : ∃ m : Nat, m = 3 * i + k := ⟨_, rfl⟩
          have hmi : 3 * (i : Int) + (k : Int) = (m : Int) := by omega
          have hm96 : m / 2 < 96 := by omega
          have hmn : m / 2 < n := by omega
          have c0 := hc'.out (m / 2) hm96
          have b0 := (hB (m / 2)).1
          have b1 := (hB (m / 2)).2
          have a := accI_bd hB i k (by omega)
          have a0 := a.1
          have a1 := a.2
          clear a
          have hlg : ((rdTo zeroF B i).set i (accI B i k)).length = 64 := by rw [List.length_set]; exact hlk
          have hga : gw ((rdTo zeroF B i).set i (accI B i k)) i = accI B i k := by rw [gw_set _ _ _ _ (by omega), if_pos rfl]
          by_cases hp : m % 2 = 0
          · have hp' : ((m : Int) % 2 == 1) = false := by rw [beq_eq_false_iff_ne]; omega
            have hs : ((rdTo zeroF B i).set i (accI B i k)).set i (accI B i k * 16 + gw B (m / 2) / 16) = (rdTo zeroF B i).set i (accI B i (k + 1)) := by
              rw [List.set_set]; congr 1; rw [show accI B i (k + 1) = accI B i k * 16 + nibI B (3 * i + k) by rw [accI], ← hm2]; unfold nibI; rw [if_pos hp]
            clear hm2
            go_wp2
            go_roundw
            case rel => exact ⟨k + 1, by omega, by go_num, rfl⟩
            case measure => simp [intOf]; omega
          · have hp' : ((m : Int) % 2 == 1) = true := by rw [beq_iff_eq]; omega
            have hs : ((rdTo zeroF B i).set i (accI B i k)).set i (accI B i k * 16 + gw B (m / 2) % 16) = (rdTo zeroF B i).set i (accI B i (k + 1)) := by
              rw [List.set_set]; congr 1; rw [show accI B i (k + 1) = accI B i k * 16 + nibI B (3 * i + k) by rw [accI], ← hm2]; unfold nibI; rw [if_neg hp]
            clear hm2
            go_wp2
            go_roundw
            case rel => exact ⟨k + 1, by omega, by go_num, rfl⟩
            case measure => simp [intOf]; omega
        · obtain rfl : k = 3 := by omega
          rw [rd_step B i]
          go_wp2
          go_roundw
          case rel => exact ⟨i + 1, by omega, by go_num, rfl⟩
          case measure => simp [intOf]; omega
    · obtain rfl : i = 64 := by omega
      rw [rdF_eq B]
      go_wp2_with (first | (refine load_fr rfl _ rfl _ rfl ?_ ?_ ?_ ?_; rotate_left; (focus (repeat (first | (with_reducible assumption) | (with_reducible exact At.new _ _) | (with_reducible refine At.row ?_) | (with_reducible refine At.app ?_) | (with_reducible refine At.tick ?_) | (with_reducible refine At.gx ?_) | ((with_reducible refine At.new' ?_); focus (simp; done)) | (with_reducible refine At.alloc ?_) | (with_reducible refine At.drew ?_) | (with_reducible exact Is.new _ _ _) | (with_reducible refine Is.row ?_) | (with_reducible refine Is.gx ?_) | ((with_reducible refine Is.new' ?_); focus (simp; done)) | (with_reducible refine Is.alloc ?_) | (with_reducible refine Is.drew ?_)))); (focus (with_reducible (first | exact hl | exact hl1 | exact hl2 | exact hl3 | exact hl4 | exact zeroF_len)))) | (refine store_fr rfl _ _ rfl _ rfl _ rfl ?_ ?_ ?_ ?_ ?_; rotate_left; (focus (repeat (first | (with_reducible assumption) | (with_reducible exact At.new _ _) | (with_reducible refine At.row ?_) | (with_reducible refine At.app ?_) | (with_reducible refine At.tick ?_) | (with_reducible refine At.gx ?_) | ((with_reducible refine At.new' ?_); focus (simp; done)) | (with_reducible refine At.alloc ?_) | (with_reducible refine At.drew ?_) | (with_reducible exact Is.new _ _ _) | (with_reducible refine Is.row ?_) | (with_reducible refine Is.gx ?_) | ((with_reducible refine Is.new' ?_); focus (simp; done)) | (with_reducible refine Is.alloc ?_) | (with_reducible refine Is.drew ?_)))); (focus (with_reducible (first | exact hl | exact hl1 | exact hl2 | exact hl3 | exact hl4 | exact zeroF_len))); (focus (with_reducible (first | exact hl | exact hl1 | exact hl2 | exact hl3 | exact hl4 | exact zeroF_len)))))
      (refine ret_fr rfl _ _ _ ?_ rfl rfl ?_ ?_ ?_; rotate_left; (focus (repeat (first | (with_reducible assumption) | (with_reducible exact At.new _ _) | (with_reducible refine At.row ?_) | (with_reducible refine At.app ?_) | (with_reducible refine At.tick ?_) | (with_reducible refine At.gx ?_) | ((with_reducible refine At.new' ?_); focus (simp; done)) | (with_reducible refine At.alloc ?_) | (with_reducible refine At.drew ?_) | (with_reducible exact Is.new _ _ _) | (with_reducible refine Is.row ?_) | (with_reducible refine Is.gx ?_) | ((with_reducible refine Is.new' ?_); focus (simp; done)) | (with_reducible refine Is.alloc ?_) | (with_reducible refine Is.drew ?_)))); (focus (with_reducible (first | exact hl | exact hl1 | exact hl2 | exact hl3 | exact hl4 | exact zeroF_len))))
      exact ⟨rfl, (by repeat (first | (with_reducible exact Gx.refl _) | (with_reducible assumption) | (with_reducible refine Gx.gx ?_) | (with_reducible refine Gx.alloc ?_) | (with_reducible refine Gx.drew ?_) | (with_reducible refine Gx.drewN ?_) | (with_reducible refine Gx.setRow ?_ (by simp)) | (with_reducible refine Gx.setCell ?_ (by simp))))⟩
end Go.Proofs.YtllahhmonoedmaaDoor
