/-
  Texts that this claim leans on, merged: RFrame, SetWord, From, Info8, Same, GStates, GBank, GSign, GHead, GSort, GCopy, GCopyM, GSectors, GStand.
-/
import Derived.LoopN
import Derived.Test.YthkccbeffonaaaaGreatDoorM3

/-
  The reference's frame: read from bytes, four bits at a time.
-/
namespace Go.Proofs.YthkccbeffonaaaaGreatDoor
open Go.RowKit
-- AT2

/-- Four bits of the bytes: the piece n. -/
def nibI (B : List Int) (n : Nat) : Int := if n % 2 = 0 then gw B (n / 2) / 16 else gw B (n / 2) % 16
/-- Word i after its first k pieces. -/
def accI (B : List Int) (i : Nat) : Nat → Int
  | 0 => 0
  | k + 1 => accI B i k * 16 + nibI B (3 * i + k)
theorem nibI_bd {B : List Int} (hB : Bs B) (n : Nat) : 0 ≤ nibI B n ∧ nibI B n ≤ 15 := by
  have := hB (n / 2)
  unfold nibI
  split <;> omega
theorem accI_bd {B : List Int} (hB : Bs B) (i : Nat) : ∀ k, k ≤ 2 → 0 ≤ accI B i k ∧ accI B i k ≤ 255
  | 0, _ => by simp [accI]
  | 1, _ => by have := nibI_bd hB (3 * i + 0); simp only [accI]; omega
  | 2, _ => by have := nibI_bd hB (3 * i + 0); have := nibI_bd hB (3 * i + 1); simp only [accI]; omega
theorem accI_end (B : List Int) (i : Nat) : accI B i 3 = rdI B i := by
  simp only [accI]
  have c : i % 2 = 0 ∨ i % 2 = 1 := by omega
  unfold nibI rdI
  rcases c with c | c
  · rw [if_pos (show (3 * i + 0) % 2 = 0 by omega), if_neg (show ¬ (3 * i + 1) % 2 = 0 by omega), if_pos (show (3 * i + 2) % 2 = 0 by omega), if_pos c, show (3 * i + 0) / 2 = i / 2 * 3 by omega, show (3 * i + 1) / 2 = i / 2 * 3 by omega, show (3 * i + 2) / 2 = i / 2 * 3 + 1 by omega]
    omega
  · rw [if_neg (show ¬ (3 * i + 0) % 2 = 0 by omega), if_pos (show (3 * i + 1) % 2 = 0 by omega), if_neg (show ¬ (3 * i + 2) % 2 = 0 by omega), if_neg (show ¬ i % 2 = 0 by omega), show (3 * i + 0) / 2 = i / 2 * 3 + 1 by omega, show (3 * i + 1) / 2 = i / 2 * 3 + 2 by omega, show (3 * i + 2) / 2 = i / 2 * 3 + 2 by omega]
    omega
theorem set_same (G : List Int) (i : Nat) (v : Int) (h : gw G i = v) (hi : i < G.length) : G.set i v = G :=
  ext_gw (by simp) fun k _ => by
    rw [gw_set _ _ _ _ hi]
    split
    · rename_i e; subst e; exact h.symm
    · rfl
theorem rd_zero (B : List Int) (i : Nat) (hi : i < 64) : (rdTo zeroF B i).set i (accI B i 0) = rdTo zeroF B i :=
  set_same _ _ _ (by rw [gw_rdTo zeroF B zeroF_len i (by omega) i, if_neg (by omega), zeroF_get]; rfl) (by rw [rdTo_len, zeroF_len]; exact hi)
theorem rd_step (B : List Int) (i : Nat) : (rdTo zeroF B i).set i (accI B i 3) = rdTo zeroF B (i + 1) := by rw [accI_end]; rfl
attribute [irreducible] nibI accI

set_option maxHeartbeats 1000000 in
set_option maxRecDepth 100000 in
theorem Rframe_any (B : List Int) (hB : Bs B) (b o n c : Nat) (hn : 96 ≤ n) (hm : n ≤ 9223372036854775807) (w : World) (hc : ∀ j, j < 96 → w.cell? ⟨b, o + j, none⟩ = some (.int .u8 (gw B j))) :
    Calls Tryz.prog 136 #[.slice (some ⟨b, o, none⟩) n c] w fun e w' => e = .returned (.agg (fc (rdF B))) ∧ ∃ x, w' = gx w x := by
  have hbw : b < w.heap.size := World.block_lt_of_cell? w _ (hc 0 (by omega))
  have hc' := Lib.hid hc
  clear hc
  have hl := rdF_len B
  have hz := zeroF_len
  go_enter Tryz.func136, Tryz.ntmps136
  go_wp2_with (first | (refine load_fr rfl _ rfl _ rfl ?_ ?_ ?_ ?_; rotate_left; (focus (repeat (first | (with_reducible assumption) | (with_reducible exact At.new _ _) | (with_reducible refine At.row ?_) | (with_reducible refine At.app ?_) | (with_reducible refine At.tick ?_) | (with_reducible refine At.gx ?_) | ((with_reducible refine At.new' ?_); focus (simp; done)) | (with_reducible refine At.alloc ?_) | (with_reducible refine At.drew ?_) | (with_reducible exact Is.new _ _ _) | (with_reducible refine Is.row ?_) | (with_reducible refine Is.gx ?_) | ((with_reducible refine Is.new' ?_); focus (simp; done)) | (with_reducible refine Is.alloc ?_) | (with_reducible refine Is.drew ?_)))); (focus (with_reducible (first | exact hl | exact hl1 | exact hl2 | exact hl3 | exact hl4 | exact zeroF_len)))) | (refine store_fr rfl _ _ rfl _ rfl _ rfl ?_ ?_ ?_ ?_ ?_; rotate_left; (focus (repeat (first | (with_reducible assumption) | (with_reducible exact At.new _ _) | (with_reducible refine At.row ?_) | (with_reducible refine At.app ?_) | (with_reducible refine At.tick ?_) | (with_reducible refine At.gx ?_) | ((with_reducible refine At.new' ?_); focus (simp; done)) | (with_reducible refine At.alloc ?_) | (with_reducible refine At.drew ?_) | (with_reducible exact Is.new _ _ _) | (with_reducible refine Is.row ?_) | (with_reducible refine Is.gx ?_) | ((with_reducible refine Is.new' ?_); focus (simp; done)) | (with_reducible refine Is.alloc ?_) | (with_reducible refine Is.drew ?_)))); (focus (with_reducible (first | exact hl | exact hl1 | exact hl2 | exact hl3 | exact hl4 | exact zeroF_len))); (focus (with_reducible (first | exact hl | exact hl1 | exact hl2 | exact hl3 | exact hl4 | exact zeroF_len)))))
  go_loopw [9] (fun i wr => ∃ k : Nat, k ≤ 64 ∧ i = .int .i64 k ∧ wr = (w.alloc (.cells (fc zeroF) 57)).alloc (.cells (fc (rdTo zeroF B k)) 57)) (fun i _ => 64 - (intOf i).toNat)
  case atStart => exact ⟨0, Nat.zero_le _, rfl, rfl⟩
  case round =>
    obtain ⟨i, hi, rfl, rfl⟩ := hrel
    by_cases hlt : i < 64
    · have hlk : (rdTo zeroF B i).length = 64 := by rw [rdTo_len]; exact zeroF_len
      go_wp2
      go_loopw [12] (fun kk wr => ∃ k : Nat, k ≤ 3 ∧ kk = .int .i64 k ∧ wr = (w.alloc (.cells (fc zeroF) 57)).alloc (.cells (fc ((rdTo zeroF B i).set i (accI B i k))) 57)) (fun kk _ => 3 - (intOf kk).toNat)
      case atStart => exact ⟨0, Nat.zero_le _, rfl, by rw [rd_zero B i hlt]⟩
      case round =>
        obtain ⟨k, hk, rfl, rfl⟩ := hrel
        by_cases hk3 : k < 3
        · obtain ⟨m, hm2⟩ : ∃ m : Nat, m = 3 * i + k := ⟨_, rfl⟩
          have hmi : 3 * (i : Int) + (k : Int) = (m : Int) := by omega
          have hm96 : m / 2 < 96 := by omega
          have hmn : m / 2 < n := by omega
          have c0 := hc'.out (m / 2) hm96
          have b0 := (hB (m / 2)).1
          have b1 := (hB (m / 2)).2
          have a := accI_bd hB i k (by omega)
          have a0 := a.1
          have a1 := a.2
          clear a
          have hlg : ((rdTo zeroF B i).set i (accI B i k)).length = 64 := by rw [List.length_set]; exact hlk
          have hga : gw ((rdTo zeroF B i).set i (accI B i k)) i = accI B i k := by rw [gw_set _ _ _ _ (by omega), if_pos rfl]
          by_cases hp : m % 2 = 0
          · have hp' : ((m : Int) % 2 == 1) = false := by rw [beq_eq_false_iff_ne]; omega
            have hs : ((rdTo zeroF B i).set i (accI B i k)).set i (accI B i k * 16 + gw B (m / 2) / 16) = (rdTo zeroF B i).set i (accI B i (k + 1)) := by
              rw [List.set_set]; congr 1; rw [show accI B i (k + 1) = accI B i k * 16 + nibI B (3 * i + k) by rw [accI], ← hm2]; unfold nibI; rw [if_pos hp]
            clear hm2
            go_wp2
            go_roundw
            case rel => exact ⟨k + 1, by omega, by go_num, rfl⟩
            case measure => simp [intOf]; omega
          · have hp' : ((m : Int) % 2 == 1) = true := by rw [beq_iff_eq]; omega
            have hs : ((rdTo zeroF B i).set i (accI B i k)).set i (accI B i k * 16 + gw B (m / 2) % 16) = (rdTo zeroF B i).set i (accI B i (k + 1)) := by
              rw [List.set_set]; congr 1; rw [show accI B i (k + 1) = accI B i k * 16 + nibI B (3 * i + k) by rw [accI], ← hm2]; unfold nibI; rw [if_neg hp]
            clear hm2
            go_wp2
            go_roundw
            case rel => exact ⟨k + 1, by omega, by go_num, rfl⟩
            case measure => simp [intOf]; omega
        · obtain rfl : k = 3 := by omega
          rw [rd_step B i]
          go_wp2
          go_roundw
          case rel => exact ⟨i + 1, by omega, by go_num, rfl⟩
          case measure => simp [intOf]; omega
    · obtain rfl : i = 64 := by omega
      rw [rdF_eq B]
      go_wp2_with (first | (refine load_fr rfl _ rfl _ rfl ?_ ?_ ?_ ?_; rotate_left; (focus (repeat (first | (with_reducible assumption) | (with_reducible exact At.new _ _) | (with_reducible refine At.row ?_) | (with_reducible refine At.app ?_) | (with_reducible refine At.tick ?_) | (with_reducible refine At.gx ?_) | ((with_reducible refine At.new' ?_); focus (simp; done)) | (with_reducible refine At.alloc ?_) | (with_reducible refine At.drew ?_) | (with_reducible exact Is.new _ _ _) | (with_reducible refine Is.row ?_) | (with_reducible refine Is.gx ?_) | ((with_reducible refine Is.new' ?_); focus (simp; done)) | (with_reducible refine Is.alloc ?_) | (with_reducible refine Is.drew ?_)))); (focus (with_reducible (first | exact hl | exact hl1 | exact hl2 | exact hl3 | exact hl4 | exact zeroF_len)))) | (refine store_fr rfl _ _ rfl _ rfl _ rfl ?_ ?_ ?_ ?_ ?_; rotate_left; (focus (repeat (first | (with_reducible assumption) | (with_reducible exact At.new _ _) | (with_reducible refine At.row ?_) | (with_reducible refine At.app ?_) | (with_reducible refine At.tick ?_) | (with_reducible refine At.gx ?_) | ((with_reducible refine At.new' ?_); focus (simp; done)) | (with_reducible refine At.alloc ?_) | (with_reducible refine At.drew ?_) | (with_reducible exact Is.new _ _ _) | (with_reducible refine Is.row ?_) | (with_reducible refine Is.gx ?_) | ((with_reducible refine Is.new' ?_); focus (simp; done)) | (with_reducible refine Is.alloc ?_) | (with_reducible refine Is.drew ?_)))); (focus (with_reducible (first | exact hl | exact hl1 | exact hl2 | exact hl3 | exact hl4 | exact zeroF_len))); (focus (with_reducible (first | exact hl | exact hl1 | exact hl2 | exact hl3 | exact hl4 | exact zeroF_len)))))
      (refine ret_fr rfl _ _ _ ?_ rfl rfl ?_ ?_ ?_; rotate_left; (focus (repeat (first | (with_reducible assumption) | (with_reducible exact At.new _ _) | (with_reducible refine At.row ?_) | (with_reducible refine At.app ?_) | (with_reducible refine At.tick ?_) | (with_reducible refine At.gx ?_) | ((with_reducible refine At.new' ?_); focus (simp; done)) | (with_reducible refine At.alloc ?_) | (with_reducible refine At.drew ?_) | (with_reducible exact Is.new _ _ _) | (with_reducible refine Is.row ?_) | (with_reducible refine Is.gx ?_) | ((with_reducible refine Is.new' ?_); focus (simp; done)) | (with_reducible refine Is.alloc ?_) | (with_reducible refine Is.drew ?_)))); (focus (with_reducible (first | exact hl | exact hl1 | exact hl2 | exact hl3 | exact hl4 | exact zeroF_len))))
      exact ⟨rfl, (by repeat (first | (with_reducible exact Gx.refl _) | (with_reducible assumption) | (with_reducible refine Gx.gx ?_) | (with_reducible refine Gx.alloc ?_) | (with_reducible refine Gx.drew ?_) | (with_reducible refine Gx.drewN ?_) | (with_reducible refine Gx.setRow ?_ (by simp)) | (with_reducible refine Gx.setCell ?_ (by simp))))⟩
end Go.Proofs.YthkccbeffonaaaaGreatDoor

/-
  SetWord, the program's and the reference's: contracts, and what both leave.
-/
namespace Go.Proofs.YthkccbeffonaaaaGreatDoor
open Go.RowKit
-- AT2

theorem gw_wrI (C : List Int) (q i : Nat) (v : Int) (h : q + i / 2 * 3 + 2 < C.length) (x : Nat) : gw (wrI C q i v) x =
    if i % 2 = 0 then (if x = q + (i / 2 * 3 + 1) then v % 16 * 16 + gw C (q + (i / 2 * 3 + 1)) % 16 else if x = q + i / 2 * 3 then v / 16 else gw C x)
    else (if x = q + (i / 2 * 3 + 2) then v % 256 else if x = q + (i / 2 * 3 + 1) then gw C (q + (i / 2 * 3 + 1)) / 16 * 16 + v / 256 else gw C x) := by
  unfold wrI
  split
  · rw [gw_set _ _ _ _ (by rw [List.length_set]; omega), gw_set _ _ _ _ (by omega)]
  · rw [gw_set _ _ _ _ (by rw [List.length_set]; omega), gw_set _ _ _ _ (by omega)]
theorem rdI_0 (B : List Int) (p : Nat) : rdI B (2 * p) = gw B (p * 3) * 16 + gw B (p * 3 + 1) / 16 := by
  unfold rdI; rw [if_pos (by omega), show 2 * p / 2 = p by omega]
theorem rdI_1 (B : List Int) (p : Nat) : rdI B (2 * p + 1) = gw B (p * 3 + 1) % 16 * 256 + gw B (p * 3 + 2) := by
  unfold rdI; rw [if_neg (by omega), show (2 * p + 1) / 2 = p by omega]
theorem by_set (M : List Int) (hM : Bs M) (q i : Nat) (v : Int) (hi : i < 64) (hq : q + 96 ≤ M.length) (j : Nat) (hj : j < 96) : byI ((rdF (M.drop q)).set i v) j = gw (wrI M q i v) (q + j) := by
  have gG : ∀ t, t < 64 → gw ((rdF (M.drop q)).set i v) t = if t = i then v else rdI (M.drop q) t := fun t ht => by
    rw [gw_set _ _ _ _ (by rw [rdF_len]; exact hi), gw_rdF _ t ht]
  rw [gw_wrI M q i v (by omega)]
  obtain ⟨p, hp⟩ : ∃ p, p = j / 3 := ⟨_, rfl⟩
  have hp32 : p < 32 := by omega
  have g0 := gG (2 * p) (by omega)
  have g1 := gG (2 * p + 1) (by omega)
  rw [rdI_0, gw_drop, gw_drop] at g0
  rw [rdI_1, gw_drop, gw_drop] at g1
  have m0 := hM (q + p * 3)
  have m1 := hM (q + (p * 3 + 1))
  have m2 := hM (q + (p * 3 + 2))
  have r : j = p * 3 ∨ j = p * 3 + 1 ∨ j = p * 3 + 2 := by omega
  by_cases a : i = 2 * p
  · subst a
    rw [if_pos rfl] at g0
    rw [if_neg (by omega)] at g1
    rw [if_pos (show 2 * p % 2 = 0 by omega), show 2 * p / 2 = p by omega]
    rcases r with rfl | rfl | rfl
    · rw [byI_0, g0, if_neg (by omega), if_pos rfl]
    · rw [byI_1, g0, g1, if_pos rfl]; omega
    · rw [byI_2, g1, if_neg (by omega), if_neg (by omega)]; omega
  · by_cases b : i = 2 * p + 1
    · subst b
      rw [if_neg (by omega)] at g0
      rw [if_pos rfl] at g1
      rw [if_neg (show ¬ (2 * p + 1) % 2 = 0 by omega), show (2 * p + 1) / 2 = p by omega]
      rcases r with rfl | rfl | rfl
      · rw [byI_0, g0, if_neg (by omega), if_neg (by omega)]; omega
      · rw [byI_1, g0, g1, if_neg (by omega), if_pos rfl]; omega
      · rw [byI_2, g1, if_pos rfl]
    · rw [if_neg (by omega)] at g0 g1
      have e : (if i % 2 = 0 then (if q + j = q + (i / 2 * 3 + 1) then v % 16 * 16 + gw M (q + (i / 2 * 3 + 1)) % 16 else if q + j = q + i / 2 * 3 then v / 16 else gw M (q + j))
          else (if q + j = q + (i / 2 * 3 + 2) then v % 256 else if q + j = q + (i / 2 * 3 + 1) then gw M (q + (i / 2 * 3 + 1)) / 16 * 16 + v / 256 else gw M (q + j))) = gw M (q + j) := by
        split
        · rw [if_neg (by omega), if_neg (by omega)]
        · rw [if_neg (by omega), if_neg (by omega)]
      rw [e]
      rcases r with rfl | rfl | rfl
      · rw [byI_0, g0]; omega
      · rw [byI_1, g0, g1]; omega
      · rw [byI_2, g1]; omega
/-- What SetWord leaves of the slice and of the bytes around it. -/
theorem set_around {M C : List Int} {q i : Nat} {v : Int} (hM : Bs M) (hr : Around M C) (h : q + 96 ≤ M.length) (hi : i < 64) :
    (∀ j, j < M.length → gw (wrI C (5 + q) i v) (5 + j) = gw (putAt M q (packF ((rdF (M.drop q)).set i v))) j) ∧ (∀ j, j < 5 → gw (wrI C (5 + q) i v) j = gw [1, 2, 3, 4, 5] j) ∧ (∀ j, j < 7 → gw (wrI C (5 + q) i v) (5 + M.length + j) = gw [9, 8, 7, 6, 5, 4, 3] j) := by
  have hl := hr.len
  refine ⟨fun j hj => ?_, fun j hj => ?_, fun j hj => ?_⟩
  · have e : gw (wrI C (5 + q) i v) (5 + j) = gw (wrI M q i v) j := by
      have c1 : gw C (5 + q + (i / 2 * 3 + 1)) = gw M (q + (i / 2 * 3 + 1)) := by rw [← hr.mid _ (by omega)]; congr 1; omega
      rw [gw_wrI C (5 + q) i v (by omega), gw_wrI M q i v (by omega), hr.mid j hj, c1]
      split
      · by_cases x1 : j = q + (i / 2 * 3 + 1)
        · rw [if_pos (by omega), if_pos x1]
        · rw [if_neg (by omega), if_neg x1]
          by_cases x2 : j = q + i / 2 * 3
          · rw [if_pos (by omega), if_pos x2]
          · rw [if_neg (by omega), if_neg x2]
      · by_cases x1 : j = q + (i / 2 * 3 + 2)
        · rw [if_pos (by omega), if_pos x1]
        · rw [if_neg (by omega), if_neg x1]
          by_cases x2 : j = q + (i / 2 * 3 + 1)
          · rw [if_pos (by omega), if_pos x2]
          · rw [if_neg (by omega), if_neg x2]
    rw [e, gw_putAt _ M q j (by rw [packF_len]; exact h), packF_len]
    by_cases c : q ≤ j ∧ j < q + 96
    · rw [if_pos c, gw_packF _ _ (by omega), by_set M hM q i v hi h _ (by omega)]; congr 1; omega
    · rw [if_neg c, gw_wrI M q i v (by omega)]
      split
      · rw [if_neg (by omega), if_neg (by omega)]
      · rw [if_neg (by omega), if_neg (by omega)]
  · rw [gw_wrI C (5 + q) i v (by omega)]
    split
    · rw [if_neg (by omega), if_neg (by omega)]; exact hr.pre j hj
    · rw [if_neg (by omega), if_neg (by omega)]; exact hr.pre j hj
  · rw [gw_wrI C (5 + q) i v (by omega)]
    split
    · rw [if_neg (by omega), if_neg (by omega)]; exact hr.post j hj
    · rw [if_neg (by omega), if_neg (by omega)]; exact hr.post j hj

/-- Is a number outside the places or the words? -/
def offB (i v : Int) : Bool := decide (i < 0) || (decide (63 < i) || (decide (v < 0) || decide (4095 < v)))

end Go.Proofs.YthkccbeffonaaaaGreatDoor

/-
  Get, WordAt: contracts of both sides.
-/
namespace Go.Proofs.YthkccbeffonaaaaGreatDoor
open Go.RowKit
-- AT2

end Go.Proofs.YthkccbeffonaaaaGreatDoor
/-
  What the table of types says of a byte.
-/
namespace Go.Proofs.YthkccbeffonaaaaGreatDoor
open Go.RowKit

theorem info8 : ∃ i, Tryz.prog.info? 5 = some i ∧ i.size = 1 := by
  have h : (Tryz.prog.info? 5).map (·.size) = some 1 := by kernel_rfl
  obtain ⟨i, h1, h2⟩ := Option.map_eq_some_iff.1 h
  exact ⟨i, h1, h2⟩
end Go.Proofs.YthkccbeffonaaaaGreatDoor

/-
  FromBytes and Same: contracts of both sides.
-/
namespace Go.Proofs.YthkccbeffonaaaaGreatDoor
open Go.RowKit
-- AT2

set_option maxHeartbeats 600000 in
set_option maxRecDepth 100000 in
theorem FromBytes_bad (A : Option Addr) (n c : Nat) (hn : n < 96) (w : World) :
    Calls Tryz.prog 98 #[.slice A n c] w fun e w' => e = .returned (.tuple #[.agg (fc zeroF), .int .i64 3]) ∧ ∃ x, w' = gx w x := by
  have hl := zeroF_len
  have hp : placeE n 0 96 = 3 := by unfold placeE; rw [if_neg (by omega), if_pos (by omega)]
  have HP := Lib.hid hp
  clear hp
  go_enter Tryz.func98, Tryz.ntmps98
  go_wp2_with (first | (refine load_fr rfl _ rfl _ rfl ?_ ?_ ?_ ?_; rotate_left; (focus (repeat (first | (with_reducible assumption) | (with_reducible exact At.new _ _) | (with_reducible refine At.row ?_) | (with_reducible refine At.app ?_) | (with_reducible refine At.tick ?_) | (with_reducible refine At.gx ?_) | ((with_reducible refine At.new' ?_); focus (simp; done)) | (with_reducible refine At.alloc ?_) | (with_reducible refine At.drew ?_) | (with_reducible exact Is.new _ _ _) | (with_reducible refine Is.row ?_) | (with_reducible refine Is.gx ?_) | ((with_reducible refine Is.new' ?_); focus (simp; done)) | (with_reducible refine Is.alloc ?_) | (with_reducible refine Is.drew ?_)))); (focus (with_reducible (first | exact hl | exact hl1 | exact hl2 | exact hl3 | exact hl4 | exact zeroF_len)))) | (refine store_fr rfl _ _ rfl _ rfl _ rfl ?_ ?_ ?_ ?_ ?_; rotate_left; (focus (repeat (first | (with_reducible assumption) | (with_reducible exact At.new _ _) | (with_reducible refine At.row ?_) | (with_reducible refine At.app ?_) | (with_reducible refine At.tick ?_) | (with_reducible refine At.gx ?_) | ((with_reducible refine At.new' ?_); focus (simp; done)) | (with_reducible refine At.alloc ?_) | (with_reducible refine At.drew ?_) | (with_reducible exact Is.new _ _ _) | (with_reducible refine Is.row ?_) | (with_reducible refine Is.gx ?_) | ((with_reducible refine Is.new' ?_); focus (simp; done)) | (with_reducible refine Is.alloc ?_) | (with_reducible refine Is.drew ?_)))); (focus (with_reducible (first | exact hl | exact hl1 | exact hl2 | exact hl3 | exact hl4 | exact zeroF_len))); (focus (with_reducible (first | exact hl | exact hl1 | exact hl2 | exact hl3 | exact hl4 | exact zeroF_len)))) | (go_at_call 135; refine (Get_bad A n c 0 (by omega) (by omega) _ 3 HP.out (by decide)).mono ?_; rintro e w' ⟨rfl, z, rfl⟩))
  (refine ret_fr_tmp rfl _ _ _ ?_ rfl rfl ?_ ?_ ?_; rotate_left; (focus (repeat (first | (with_reducible assumption) | (with_reducible exact At.new _ _) | (with_reducible refine At.row ?_) | (with_reducible refine At.app ?_) | (with_reducible refine At.tick ?_) | (with_reducible refine At.gx ?_) | ((with_reducible refine At.new' ?_); focus (simp; done)) | (with_reducible refine At.alloc ?_) | (with_reducible refine At.drew ?_) | (with_reducible exact Is.new _ _ _) | (with_reducible refine Is.row ?_) | (with_reducible refine Is.gx ?_) | ((with_reducible refine Is.new' ?_); focus (simp; done)) | (with_reducible refine Is.alloc ?_) | (with_reducible refine Is.drew ?_)))); (focus (with_reducible (first | exact hl | exact hl1 | exact hl2 | exact hl3 | exact hl4 | exact zeroF_len))))
  exact ⟨rfl, (by repeat (first | (with_reducible exact Gx.refl _) | (with_reducible assumption) | (with_reducible refine Gx.gx ?_) | (with_reducible refine Gx.alloc ?_) | (with_reducible refine Gx.drew ?_) | (with_reducible refine Gx.drewN ?_) | (with_reducible refine Gx.setRow ?_ (by simp)) | (with_reducible refine Gx.setCell ?_ (by simp))))⟩
set_option maxHeartbeats 600000 in
set_option maxRecDepth 100000 in
theorem RFromBytes_bad (A : Option Addr) (n c : Nat) (hn : n < 96) (w : World) :
    Calls Tryz.prog 99 #[.slice A n c] w fun e w' => e = .returned (.tuple #[.agg (fc zeroF), .int .i64 3]) ∧ ∃ x, w' = gx w x := by
  have hl := zeroF_len
  have h1 : decide ((n : Int) < 96) = true := decide_eq_true (by omega)
  go_enter Tryz.func99, Tryz.ntmps99
  go_wp2_with (first | (refine load_fr rfl _ rfl _ rfl ?_ ?_ ?_ ?_; rotate_left; (focus (repeat (first | (with_reducible assumption) | (with_reducible exact At.new _ _) | (with_reducible refine At.row ?_) | (with_reducible refine At.app ?_) | (with_reducible refine At.tick ?_) | (with_reducible refine At.gx ?_) | ((with_reducible refine At.new' ?_); focus (simp; done)) | (with_reducible refine At.alloc ?_) | (with_reducible refine At.drew ?_) | (with_reducible exact Is.new _ _ _) | (with_reducible refine Is.row ?_) | (with_reducible refine Is.gx ?_) | ((with_reducible refine Is.new' ?_); focus (simp; done)) | (with_reducible refine Is.alloc ?_) | (with_reducible refine Is.drew ?_)))); (focus (with_reducible (first | exact hl | exact hl1 | exact hl2 | exact hl3 | exact hl4 | exact zeroF_len)))) | (refine store_fr rfl _ _ rfl _ rfl _ rfl ?_ ?_ ?_ ?_ ?_; rotate_left; (focus (repeat (first | (with_reducible assumption) | (with_reducible exact At.new _ _) | (with_reducible refine At.row ?_) | (with_reducible refine At.app ?_) | (with_reducible refine At.tick ?_) | (with_reducible refine At.gx ?_) | ((with_reducible refine At.new' ?_); focus (simp; done)) | (with_reducible refine At.alloc ?_) | (with_reducible refine At.drew ?_) | (with_reducible exact Is.new _ _ _) | (with_reducible refine Is.row ?_) | (with_reducible refine Is.gx ?_) | ((with_reducible refine Is.new' ?_); focus (simp; done)) | (with_reducible refine Is.alloc ?_) | (with_reducible refine Is.drew ?_)))); (focus (with_reducible (first | exact hl | exact hl1 | exact hl2 | exact hl3 | exact hl4 | exact zeroF_len))); (focus (with_reducible (first | exact hl | exact hl1 | exact hl2 | exact hl3 | exact hl4 | exact zeroF_len)))))
  (refine ret_fr_tmp rfl _ _ _ ?_ rfl rfl ?_ ?_ ?_; rotate_left; (focus (repeat (first | (with_reducible assumption) | (with_reducible exact At.new _ _) | (with_reducible refine At.row ?_) | (with_reducible refine At.app ?_) | (with_reducible refine At.tick ?_) | (with_reducible refine At.gx ?_) | ((with_reducible refine At.new' ?_); focus (simp; done)) | (with_reducible refine At.alloc ?_) | (with_reducible refine At.drew ?_) | (with_reducible exact Is.new _ _ _) | (with_reducible refine Is.row ?_) | (with_reducible refine Is.gx ?_) | ((with_reducible refine Is.new' ?_); focus (simp; done)) | (with_reducible refine Is.alloc ?_) | (with_reducible refine Is.drew ?_)))); (focus (with_reducible (first | exact hl | exact hl1 | exact hl2 | exact hl3 | exact hl4 | exact zeroF_len))))
  exact ⟨rfl, (by repeat (first | (with_reducible exact Gx.refl _) | (with_reducible assumption) | (with_reducible refine Gx.gx ?_) | (with_reducible refine Gx.alloc ?_) | (with_reducible refine Gx.drew ?_) | (with_reducible refine Gx.drewN ?_) | (with_reducible refine Gx.setRow ?_ (by simp)) | (with_reducible refine Gx.setCell ?_ (by simp))))⟩
set_option maxHeartbeats 600000 in
set_option maxRecDepth 100000 in
theorem RFromBytes_good (B : List Int) (hB : Bs B) (b o n c : Nat) (hm : n ≤ 9223372036854775807) (h : 96 ≤ n) (w : World)
    (hc : ∀ j, j < 96 → w.cell? ⟨b, o + j, none⟩ = some (.int .u8 (gw B j))) :
    Calls Tryz.prog 99 #[.slice (some ⟨b, o, none⟩) n c] w fun e w' => e = .returned (.tuple #[.agg (fc (rdF B)), .int .i64 0]) ∧ ∃ x, w' = gx w x := by
  have hl := zeroF_len
  have hl1 := rdF_len B
  have h1 : decide ((n : Int) < 96) = false := decide_eq_false (by omega)
  have hc' := Lib.hid hc
  clear hc
  go_enter Tryz.func99, Tryz.ntmps99
  go_wp2_with (first | (refine load_fr rfl _ rfl _ rfl ?_ ?_ ?_ ?_; rotate_left; (focus (repeat (first | (with_reducible assumption) | (with_reducible exact At.new _ _) | (with_reducible refine At.row ?_) | (with_reducible refine At.app ?_) | (with_reducible refine At.tick ?_) | (with_reducible refine At.gx ?_) | ((with_reducible refine At.new' ?_); focus (simp; done)) | (with_reducible refine At.alloc ?_) | (with_reducible refine At.drew ?_) | (with_reducible exact Is.new _ _ _) | (with_reducible refine Is.row ?_) | (with_reducible refine Is.gx ?_) | ((with_reducible refine Is.new' ?_); focus (simp; done)) | (with_reducible refine Is.alloc ?_) | (with_reducible refine Is.drew ?_)))); (focus (with_reducible (first | exact hl | exact hl1 | exact hl2 | exact hl3 | exact hl4 | exact zeroF_len)))) | (refine store_fr rfl _ _ rfl _ rfl _ rfl ?_ ?_ ?_ ?_ ?_; rotate_left; (focus (repeat (first | (with_reducible assumption) | (with_reducible exact At.new _ _) | (with_reducible refine At.row ?_) | (with_reducible refine At.app ?_) | (with_reducible refine At.tick ?_) | (with_reducible refine At.gx ?_) | ((with_reducible refine At.new' ?_); focus (simp; done)) | (with_reducible refine At.alloc ?_) | (with_reducible refine At.drew ?_) | (with_reducible exact Is.new _ _ _) | (with_reducible refine Is.row ?_) | (with_reducible refine Is.gx ?_) | ((with_reducible refine Is.new' ?_); focus (simp; done)) | (with_reducible refine Is.alloc ?_) | (with_reducible refine Is.drew ?_)))); (focus (with_reducible (first | exact hl | exact hl1 | exact hl2 | exact hl3 | exact hl4 | exact zeroF_len))); (focus (with_reducible (first | exact hl | exact hl1 | exact hl2 | exact hl3 | exact hl4 | exact zeroF_len)))) | (go_at_call 136; refine (Rframe_any B hB b o _ _ (by omega) (by omega) _ ?_).mono ?_; (focus (intro j hj; repeat (first | (with_reducible exact hc'.out j hj) | (with_reducible refine cell_keep_gx ?_) | (with_reducible refine cell_keep_alloc ?_)))); rintro e w' ⟨rfl, z, rfl⟩))
  (refine ret_fr_tmp rfl _ _ _ ?_ rfl rfl ?_ ?_ ?_; rotate_left; (focus (repeat (first | (with_reducible assumption) | (with_reducible exact At.new _ _) | (with_reducible refine At.row ?_) | (with_reducible refine At.app ?_) | (with_reducible refine At.tick ?_) | (with_reducible refine At.gx ?_) | ((with_reducible refine At.new' ?_); focus (simp; done)) | (with_reducible refine At.alloc ?_) | (with_reducible refine At.drew ?_) | (with_reducible exact Is.new _ _ _) | (with_reducible refine Is.row ?_) | (with_reducible refine Is.gx ?_) | ((with_reducible refine Is.new' ?_); focus (simp; done)) | (with_reducible refine Is.alloc ?_) | (with_reducible refine Is.drew ?_)))); (focus (with_reducible (first | exact hl | exact hl1 | exact hl2 | exact hl3 | exact hl4 | exact zeroF_len))))
  exact ⟨rfl, (by repeat (first | (with_reducible exact Gx.refl _) | (with_reducible assumption) | (with_reducible refine Gx.gx ?_) | (with_reducible refine Gx.alloc ?_) | (with_reducible refine Gx.drew ?_) | (with_reducible refine Gx.drewN ?_) | (with_reducible refine Gx.setRow ?_ (by simp)) | (with_reducible refine Gx.setCell ?_ (by simp))))⟩
set_option maxHeartbeats 600000 in
set_option maxRecDepth 100000 in
theorem FromBytes_good (B : List Int) (hB : Bs B) (b o n c : Nat) (hm : n ≤ 9223372036854775807) (hnc : n ≤ c) (hcm : c ≤ 9223372036854775807) (h : 96 ≤ n) (w : World)
    (hc : ∀ j, j < 96 → w.cell? ⟨b, o + j, none⟩ = some (.int .u8 (gw B j))) :
    Calls Tryz.prog 98 #[.slice (some ⟨b, o, none⟩) n c] w fun e w' => e = .returned (.tuple #[.agg (fc (rdF B)), .int .i64 0]) ∧ ∃ x, w' = gx w x := by
  have hl := zeroF_len
  have hl1 := rdF_len B
  have hg : ∀ w, (∀ j, j < 96 → w.cell? ⟨b, o + j, none⟩ = some (.int .u8 (gw B j))) → Calls Tryz.prog 135 #[.slice (some ⟨b, o, none⟩) n c, .int .i64 0] w fun e w' => e = .returned (.tuple #[.agg (fc (rdF B)), .int .i64 0]) ∧ ∃ x, w' = gx w x := fun w hc =>
    Get_good B hB b o n c 0 hm hnc hcm (by omega) w hc
  have Hg := Lib.hid hg
  have hc' := Lib.hid hc
  clear hc hg
  go_enter Tryz.func98, Tryz.ntmps98
  go_wp2_with (first | (refine load_fr rfl _ rfl _ rfl ?_ ?_ ?_ ?_; rotate_left; (focus (repeat (first | (with_reducible assumption) | (with_reducible exact At.new _ _) | (with_reducible refine At.row ?_) | (with_reducible refine At.app ?_) | (with_reducible refine At.tick ?_) | (with_reducible refine At.gx ?_) | ((with_reducible refine At.new' ?_); focus (simp; done)) | (with_reducible refine At.alloc ?_) | (with_reducible refine At.drew ?_) | (with_reducible exact Is.new _ _ _) | (with_reducible refine Is.row ?_) | (with_reducible refine Is.gx ?_) | ((with_reducible refine Is.new' ?_); focus (simp; done)) | (with_reducible refine Is.alloc ?_) | (with_reducible refine Is.drew ?_)))); (focus (with_reducible (first | exact hl | exact hl1 | exact hl2 | exact hl3 | exact hl4 | exact zeroF_len)))) | (refine store_fr rfl _ _ rfl _ rfl _ rfl ?_ ?_ ?_ ?_ ?_; rotate_left; (focus (repeat (first | (with_reducible assumption) | (with_reducible exact At.new _ _) | (with_reducible refine At.row ?_) | (with_reducible refine At.app ?_) | (with_reducible refine At.tick ?_) | (with_reducible refine At.gx ?_) | ((with_reducible refine At.new' ?_); focus (simp; done)) | (with_reducible refine At.alloc ?_) | (with_reducible refine At.drew ?_) | (with_reducible exact Is.new _ _ _) | (with_reducible refine Is.row ?_) | (with_reducible refine Is.gx ?_) | ((with_reducible refine Is.new' ?_); focus (simp; done)) | (with_reducible refine Is.alloc ?_) | (with_reducible refine Is.drew ?_)))); (focus (with_reducible (first | exact hl | exact hl1 | exact hl2 | exact hl3 | exact hl4 | exact zeroF_len))); (focus (with_reducible (first | exact hl | exact hl1 | exact hl2 | exact hl3 | exact hl4 | exact zeroF_len)))) | (go_at_call 135; refine (Hg.out _ ?_).mono ?_; (focus (intro j hj; repeat (first | (with_reducible exact hc'.out j hj) | (with_reducible refine cell_keep_gx ?_) | (with_reducible refine cell_keep_alloc ?_)))); rintro e w' ⟨rfl, z, rfl⟩))
  (refine ret_fr_tmp rfl _ _ _ ?_ rfl rfl ?_ ?_ ?_; rotate_left; (focus (repeat (first | (with_reducible assumption) | (with_reducible exact At.new _ _) | (with_reducible refine At.row ?_) | (with_reducible refine At.app ?_) | (with_reducible refine At.tick ?_) | (with_reducible refine At.gx ?_) | ((with_reducible refine At.new' ?_); focus (simp; done)) | (with_reducible refine At.alloc ?_) | (with_reducible refine At.drew ?_) | (with_reducible exact Is.new _ _ _) | (with_reducible refine Is.row ?_) | (with_reducible refine Is.gx ?_) | ((with_reducible refine Is.new' ?_); focus (simp; done)) | (with_reducible refine Is.alloc ?_) | (with_reducible refine Is.drew ?_)))); (focus (with_reducible (first | exact hl | exact hl1 | exact hl2 | exact hl3 | exact hl4 | exact zeroF_len))))
  exact ⟨rfl, (by repeat (first | (with_reducible exact Gx.refl _) | (with_reducible assumption) | (with_reducible refine Gx.gx ?_) | (with_reducible refine Gx.alloc ?_) | (with_reducible refine Gx.drew ?_) | (with_reducible refine Gx.drewN ?_) | (with_reducible refine Gx.setRow ?_ (by simp)) | (with_reducible refine Gx.setCell ?_ (by simp))))⟩
/-- The bytes of a frame's place. -/
def win (M : List Int) (q : Nat) : List Int := (M.drop q).take 96
theorem win_len {M : List Int} {q : Nat} (h : q + 96 ≤ M.length) : (win M q).length = 96 := by unfold win; simp; omega
theorem gw_win (M : List Int) (q j : Nat) (hj : j < 96) : gw (win M q) j = gw M (q + j) := by
  unfold win gw
  simp [List.getD_eq_getElem?_getD, hj, List.getElem?_drop]
attribute [irreducible] win
/-- Are two such places equal? -/
def eqW (F G : List Int) : Bool := (List.range 96).all fun i => gw F i == gw G i
theorem eqW_iff {F G : List Int} (hF : F.length = 96) (hG : G.length = 96) : eqW F G = true ↔ F = G := by
  unfold eqW
  rw [List.all_eq_true]
  constructor
  · intro h
    exact ext_gw (by omega) fun k hk => by
      have := h k (List.mem_range.2 (by omega))
      simpa using this
  · rintro rfl i _
    simp
attribute [irreducible] eqW
theorem part_w (F : List Int) (i : Nat) (hi : i < 96) (hF : F.length = 96) (w : World) : (part 5 (bc F) i).run Tryz.prog w = .ok (.int .u8 (gw F i)) w := by
  have hg := bc_get F i (by omega)
  simp [part, go_sem, hg]
theorem eqItems_w (d : Nat) (F G : List Int) (hF : F.length = 96) (hG : G.length = 96) (w : World) : ∀ is : List Nat, (∀ i ∈ is, i < 96) →
    (Op.eqItems (d + 1) 5 1 (bc F) (bc G) is).run Tryz.prog w = .ok (is.all fun i => gw F i == gw G i) w
  | [], _ => by simp [Op.eqItems]
  | i :: is, h => by
    have hi : i < 96 := h i (by simp)
    have ih := eqItems_w d F G hF hG w is fun j hj => h j (by simp [hj])
    simp only [Op.eqItems, Nat.mul_one, Sem.run_bind, part_w F i hi hF, part_w G i hi hG, Result.andThen_ok, run_equalIn_int w d 5 .u8 .u8 _ _ Tryz.underlying5]
    cases hb : gw F i == gw G i
    · simp [hb]
    · simp [hb, ih]
@[go_sem high] theorem equal_w (F G : List Int) (hF : F.length = 96) (hG : G.length = 96) (w : World) : (Op.equalIn 10000 258 (.agg (bc F)) (.agg (bc G))).run Tryz.prog w = .ok (eqW F G) w := by
  obtain ⟨i, h1, h2⟩ := info8
  rw [run_equalIn_array w 9999 (bc F) (bc G) Tryz.underlying258 h1]
  have h3 : Tryz.prog.cellsOf 5 = 1 := by kernel_rfl
  rw [h3]
  unfold eqW
  exact eqItems_w 9998 F G hF hG w (List.range 96) fun i hi => List.mem_range.1 hi
theorem range_w {B : List Int} (hl : B.length = 96) {w : World} {g q : Nat} (hc : ∀ j, j < 96 → w.cell? ⟨g, q + j, none⟩ = some (.int .u8 (gw B j))) : w.rangeAt g q (B.map (Value.int .u8)) := by
  intro j v hj
  have hj' : j < 96 := by
    have := (List.getElem?_eq_some_iff.1 hj).1
    rw [List.length_map, hl] at this
    exact this
  have e := bc_get B j (by omega)
  have hv : v = .int .u8 (gw B j) := by
    have : (bc B)[j]? = some v := by unfold bc; simpa using hj
    rw [e] at this
    exact (Option.some.inj this).symm
  rw [hv]
  exact hc j hj'
theorem quiet_w {ops : Array Oper} {C : World → Prop} {Q : Act → Prop} {a : Act} {o : Oper} {rest : List Oper} (hw : Region.wanted o (yielded ops a.tmps) = true) (x : Operand) (ho : o.op = .load 258 x)
    (g q : Nat) (hx : a.eval x = .pointer (some ⟨g, q, none⟩)) (B : List Int) (hl : B.length = 96) (hC : ∀ w, C w → ∀ j, j < 96 → w.cell? ⟨g, q + j, none⟩ = some (.int .u8 (gw B j)))
    (h : wpQuiet Tryz.prog ops C Q rest (a.put o.dst (.agg (bc B)))) : wpQuiet Tryz.prog ops C Q (o :: rest) a := by
  refine BigFrame.wpQuiet_want hw fun K hK => ⟨.agg (bc B), fun w hw' => ?_, hK _ h⟩
  unfold Oper.quietAt execOp
  simp only [ho, hx, Instr.loadAt, Instr.sureAddr, Sem.run_bind, Sem.run_pure, Result.andThen_ok, run_loadVar_mid w g _ _ _ _ (range_w hl (hC w hw')) Tryz.underlying258 rfl (by rw [List.length_map, hl]; kernel_rfl)]
  exact ⟨rfl, rfl⟩
end Go.Proofs.YthkccbeffonaaaaGreatDoor

/-
  States, SlotFrame: contracts.
-/
namespace Go.Proofs.YthkccbeffonaaaaGreatDoor
open Go.RowKit
-- AT2

/-- The states of the first slots of k. -/
def stTo (S : List Int) (k : Nat) : Nat → List Int
  | 0 => zerosI k
  | j + 1 => (stTo S k j).set j (stI (S.drop (16 + 97 * j)))
theorem stTo_len (S : List Int) (k : Nat) : ∀ j, (stTo S k j).length = k
  | 0 => zerosI_len k
  | j + 1 => by unfold stTo; rw [List.length_set, stTo_len S k j]
theorem stTo_0 (S : List Int) (k : Nat) : stTo S k 0 = zerosI k := rfl
theorem stTo_succ (S : List Int) (k j : Nat) : (stTo S k j).set j (stI (S.drop (16 + 97 * j))) = stTo S k (j + 1) := rfl
theorem gw_stTo (S : List Int) (k : Nat) : ∀ j, j ≤ k → ∀ i, i < j → gw (stTo S k j) i = stI (S.drop (16 + 97 * i))
  | 0, _, i, h => absurd h (by omega)
  | j + 1, hj, i, hi => by
    rw [← stTo_succ, gw_set _ _ _ _ (by rw [stTo_len]; omega)]
    by_cases e : i = j
    · subst e; rw [if_pos rfl]
    · rw [if_neg e]; exact gw_stTo S k j (by omega) i (by omega)
attribute [irreducible] stTo
theorem slot_cells {S : List Int} {b o n : Nat} {W : World} (h : ∀ j, j < n → W.cell? ⟨b, o + j, none⟩ = some (.int .u8 (gw S j))) (q m : Nat) (hq : q + m ≤ n) : ∀ j, j < m → W.cell? ⟨b, o + q + j, none⟩ = some (.int .u8 (gw (S.drop q) j)) := by
  intro j hj
  rw [gw_drop, show o + q + j = o + (q + j) by omega]
  exact h _ (by omega)
set_option maxHeartbeats 600000 in
set_option maxRecDepth 100000 in
theorem States_ok (S : List Int) (b o n c k : Nat) (hn : n = 16 + 97 * k) (hnc : n ≤ c) (hcm : c ≤ 9223372036854775807) (hk : 1 ≤ k) (hk' : k ≤ 1048576) (w : World) (hc : ∀ j, j < n → w.cell? ⟨b, o + j, none⟩ = some (.int .u8 (gw S j))) :
    Calls Tryz.prog 36 #[.slice (some ⟨b, o, none⟩) n c] w fun e w' => ∃ g x, e = .returned (.tuple #[.slice (some ⟨g, 0, none⟩) k k, .int .i64 0]) ∧ w' = gx w x ∧ w.heap.size ≤ g ∧ At (gx w x) g (.cells (ic (stTo S k k)) 3 (0, 0)) := by
  have hmk := make_ints k (by omega)
  have E0 := Lib.hid (stTo_0 S k)
  have Hc := Lib.hid hc
  have key : ∀ g W, (∃ x, W = gx w x) → w.heap.size ≤ g → At W g (.cells (ic (stTo S k k)) 3 (0, 0)) → ∃ g' x, Ending.returned (.tuple #[.slice (some ⟨g, 0, none⟩) k k, .int .i64 0]) = .returned (.tuple #[.slice (some ⟨g', 0, none⟩) k k, .int .i64 0]) ∧ W = gx w x ∧ w.heap.size ≤ g' ∧ At (gx w x) g' (.cells (ic (stTo S k k)) 3 (0, 0)) := by
    rintro g _ ⟨x, rfl⟩ hg h
    exact ⟨g, x, rfl, rfl, hg, h⟩
  have Key := Lib.hid key
  have hN := Lib.hid hn
  clear key hc hn
  go_enter Tryz.func36, Tryz.ntmps36
  go_wp2_with (go_at_call 93; go_loud (refine (countSlots_ok _ n c k hN.out hk hk' _).mono ?_; rintro e w' ⟨rfl, rfl⟩))
  go_loopw [20] (fun i wr => ∃ j : Nat, j ≤ k ∧ i = .int .i64 j ∧ ∃ y, wr = gx (w.alloc (.cells (ic (stTo S k j)) 3)) y) (fun i _ => k - (intOf i).toNat)
  case atStart => exact ⟨0, by omega, rfl, by rw [E0.out]; exact ⟨_, (gx_none _).symm⟩⟩
  case round =>
    obtain ⟨j, hj, rfl, y, rfl⟩ := hrel
    have hlk := stTo_len S k j
    by_cases hlt : j < k
    · have hs := stTo_succ S k j
      have hcs := Lib.hid (slot_cells Hc.out (16 + 97 * j) 97 (by have := hN.out; omega))
      go_wp2_with (first | (go_at_call 95; go_loud (refine (slotOf_any b o n c k j hN.out hnc hcm hk' hlt _).mono ?_; rintro e w' ⟨rfl, rfl⟩)) | (go_at_call 94; go_loud (refine (stateOf_any (S.drop (16 + 97 * j)) b (o + (16 + 97 * j)) _ ?_).mono ?_; (focus (intro i hi; exact cell_keep_gx (cell_keep_alloc (hcs.out i hi)))); rintro e w' ⟨rfl, z, rfl⟩)))
      go_roundw
      case rel => exact ⟨j + 1, by omega, by go_num, ⟨_, rfl⟩⟩
      case measure => simp [intOf]; omega
    · obtain rfl : j = k := by omega
      go_wp2
      go_ret2
      refine Key.out w.heap.size _ ?_ (Nat.le_refl _) ?_
      · exact (by repeat (first | (with_reducible exact Gx.refl _) | (with_reducible assumption) | (with_reducible refine Gx.gx ?_) | (with_reducible refine Gx.alloc ?_) | (with_reducible refine Gx.drew ?_) | (with_reducible refine Gx.drewN ?_) | (with_reducible refine Gx.setRow ?_ (by simp)) | (with_reducible refine Gx.setCell ?_ (by simp))))
      · (focus (repeat (first | (with_reducible assumption) | (with_reducible exact At.new _ _) | (with_reducible refine At.row ?_) | (with_reducible refine At.app ?_) | (with_reducible refine At.tick ?_) | (with_reducible refine At.gx ?_) | ((with_reducible refine At.new' ?_); focus (simp; done)) | (with_reducible refine At.alloc ?_) | (with_reducible refine At.drew ?_) | (with_reducible exact Is.new _ _ _) | (with_reducible refine Is.row ?_) | (with_reducible refine Is.gx ?_) | ((with_reducible refine Is.new' ?_); focus (simp; done)) | (with_reducible refine Is.alloc ?_) | (with_reducible refine Is.drew ?_))))
end Go.Proofs.YthkccbeffonaaaaGreatDoor

/-
  A bank of one memory: bankOf, checkCopies.
-/
namespace Go.Proofs.YthkccbeffonaaaaGreatDoor
open Go.RowKit
-- AT2

/-- A memory's five cells lie there. -/
structure Five (W : World) (g o : Nat) (m : PM) (A B C : Option Addr) (a b c : Nat) : Prop where
  c0 : W.cell? ⟨g, o, none⟩ = some (.int .i64 m.slots)
  c1 : W.cell? ⟨g, o + 1, none⟩ = some (.int .i64 m.limit)
  c2 : W.cell? ⟨g, o + 2, none⟩ = some (.slice A m.sec.length a)
  c3 : W.cell? ⟨g, o + 3, none⟩ = some (.slice B m.wear.length b)
  c4 : W.cell? ⟨g, o + 4, none⟩ = some (.slice C m.bad.length c)
theorem Five.gx {W : World} {g o : Nat} {m : PM} {A B C : Option Addr} {a b c : Nat} {x : Ext} (h : Five W g o m A B C a b c) : Five (gx W x) g o m A B C a b c :=
  ⟨cell_keep_gx h.c0, cell_keep_gx h.c1, cell_keep_gx h.c2, cell_keep_gx h.c3, cell_keep_gx h.c4⟩

theorem ret_st1 {fn : Func} {p : Tmp} {t : TypeId} (h : fn.results = #[.cell p t]) (a : Act) (w : World) (g : Nat) (cs : Array Value)
    (hp : a.tmps.getD p undef = .pointer (some ⟨g, 0, none⟩)) (hdf : a.defers = []) {R : Ending → World → Prop} (hld : (loadVar t ⟨g, 0, none⟩).run Tryz.prog w = .ok (.agg cs) w) (hR : R (.returned (.agg cs)) w) : bodyPost Tryz.prog fn R .ret a w :=
  bodyPost_ret (v := .agg cs) (by
    have hp' : a.tmps[p]?.getD undef = .pointer (some ⟨g, 0, none⟩) := by simpa using hp
    simp [results, h, hp', asAddr, hld]) hdf hR
theorem ret_st2 {fn : Func} {p q : Tmp} {t : TypeId} (h : fn.results = #[.cell p t, .tmp q]) (a : Act) (w : World) (g : Nat) (cs : Array Value) (v : Value)
    (hp : a.tmps.getD p undef = .pointer (some ⟨g, 0, none⟩)) (hq : a.tmps.getD q undef = v) (hdf : a.defers = []) {R : Ending → World → Prop} (hld : (loadVar t ⟨g, 0, none⟩).run Tryz.prog w = .ok (.agg cs) w) (hR : R (.returned (.tuple #[.agg cs, v])) w) : bodyPost Tryz.prog fn R .ret a w :=
  bodyPost_ret (v := .tuple #[.agg cs, v]) (by
    have hp' : a.tmps[p]?.getD undef = .pointer (some ⟨g, 0, none⟩) := by simpa using hp
    have hq' : a.tmps[q]?.getD undef = v := by simpa using hq
    simp [results, h, hp', hq', asAddr, hld]) hdf hR

theorem Five.alloc {W : World} {ob : Obj} {g o : Nat} {m : PM} {A B C : Option Addr} {a b c : Nat} (h : Five W g o m A B C a b c) : Five (W.alloc ob) g o m A B C a b c := by
  rw [alloc_is]
  exact h.gx
set_option maxHeartbeats 600000 in
set_option maxRecDepth 100000 in
theorem CheckMemories_one (m : PM) (hm : Good m) (A B C : Option Addr) (a b c g o cap : Nat) (w : World) (hF : Five w g o m A B C a b c) (hR : RM w m A B C) :
    Calls Tryz.prog 137 #[.slice (some ⟨g, o, none⟩) 1 cap] w fun e w' => e = .returned (.int .i64 0) ∧ ∃ x, w' = gx w x := by
  have hg : g < w.heap.size := World.block_lt_of_cell? w _ hF.c0
  obtain ⟨c0, c1, c2, c3, c4⟩ := hF
  go_enter Tryz.func137, Tryz.ntmps137
  go_wp2
  go_loopw [16] (fun i wr => ∃ k : Nat, k ≤ 1 ∧ i = .int .i64 k ∧ ∃ x, wr = gx w x) (fun i _ => 1 - (intOf i).toNat)
  case atStart => exact ⟨0, by omega, rfl, ⟨_, (gx_none _).symm⟩⟩
  case round =>
    obtain ⟨k, hk, rfl, y, rfl⟩ := hrel
    by_cases hlt : k < 1
    · obtain rfl : k = 0 := by omega
      have HR := Lib.hid hR
      go_wp2_with (first | (go_at_call 21; refine (CheckMemory_ok m hm A B C a b c _ ?_).mono ?_; (focus (refine RM.of_gx (W := w) HR.out ?_; exact (by repeat (first | (with_reducible exact Gx.refl _) | (with_reducible assumption) | (with_reducible refine Gx.gx ?_) | (with_reducible refine Gx.alloc ?_) | (with_reducible refine Gx.drew ?_) | (with_reducible refine Gx.drewN ?_) | (with_reducible refine Gx.setRow ?_ (by simp)) | (with_reducible refine Gx.setCell ?_ (by simp)))))); rintro e w' ⟨rfl, z, rfl⟩))
      go_roundw
      case rel => exact ⟨1, by omega, by go_num, (by repeat (first | (with_reducible exact Gx.refl _) | (with_reducible assumption) | (with_reducible refine Gx.gx ?_) | (with_reducible refine Gx.alloc ?_) | (with_reducible refine Gx.drew ?_) | (with_reducible refine Gx.drewN ?_) | (with_reducible refine Gx.setRow ?_ (by simp)) | (with_reducible refine Gx.setCell ?_ (by simp))))⟩
      case measure => simp [intOf]
    · obtain rfl : k = 1 := by omega
      go_wp2
      go_ret
      exact ⟨rfl, (by repeat (first | (with_reducible exact Gx.refl _) | (with_reducible assumption) | (with_reducible refine Gx.gx ?_) | (with_reducible refine Gx.alloc ?_) | (with_reducible refine Gx.drew ?_) | (with_reducible refine Gx.drewN ?_) | (with_reducible refine Gx.setRow ?_ (by simp)) | (with_reducible refine Gx.setCell ?_ (by simp))))⟩
set_option maxHeartbeats 600000 in
set_option maxRecDepth 100000 in
theorem bankOf_one (m : PM) (hm : Good m) (A B C : Option Addr) (a b c g o cap : Nat) (w : World) (hF : Five w g o m A B C a b c) (hR : RM w m A B C) :
    Calls Tryz.prog 101 #[.slice (some ⟨g, o, none⟩) 1 cap] w fun e w' => e = .returned (.tuple #[.agg #[.slice (some ⟨g, o, none⟩) 1 cap], .int .i64 0]) ∧ ∃ x, w' = gx w x := by
  have HF := Lib.hid hF
  have HR := Lib.hid hR
  clear hF hR
  go_enter Tryz.func101, Tryz.ntmps101
  go_wp2_with (go_at_call 137; go_loud (refine (CheckMemories_one m hm A B C a b c g o cap _ (Five.alloc HF.out) (RM.of_gx HR.out ?_)).mono ?_; (focus (exact (by repeat (first | (with_reducible exact Gx.refl _) | (with_reducible assumption) | (with_reducible refine Gx.gx ?_) | (with_reducible refine Gx.alloc ?_) | (with_reducible refine Gx.drew ?_) | (with_reducible refine Gx.drewN ?_) | (with_reducible refine Gx.setRow ?_ (by simp)) | (with_reducible refine Gx.setCell ?_ (by simp)))))); rintro e w' ⟨rfl, z1, rfl⟩))
  refine ret_st2 rfl _ _ w.heap.size #[.slice (some ⟨g, o, none⟩) 1 cap] _ rfl rfl rfl (run_loadVar_row _ w.heap.size 132 132 _ (0, 0) _ ?_ Tryz.underlying132 rfl (by kernel_rfl)) ?_
  · exact At.gx (At.new _ _)
  · exact ⟨rfl, (by repeat (first | (with_reducible exact Gx.refl _) | (with_reducible assumption) | (with_reducible refine Gx.gx ?_) | (with_reducible refine Gx.alloc ?_) | (with_reducible refine Gx.drew ?_) | (with_reducible refine Gx.drewN ?_) | (with_reducible refine Gx.setRow ?_ (by simp)) | (with_reducible refine Gx.setCell ?_ (by simp))))⟩
set_option maxHeartbeats 400000 in
set_option maxRecDepth 100000 in
theorem checkCopies_one (A : Option Addr) (cap : Nat) (w : World) :
    Calls Tryz.prog 108 #[.agg #[.slice A 1 cap], .int .i64 1] w fun e w' => e = .returned (.int .i64 0) ∧ ∃ x, w' = gx w x := by
  go_enter Tryz.func108, Tryz.ntmps108
  go_wp2
  go_ret
  exact ⟨rfl, (by repeat (first | (with_reducible exact Gx.refl _) | (with_reducible assumption) | (with_reducible refine Gx.gx ?_) | (with_reducible refine Gx.alloc ?_) | (with_reducible refine Gx.drew ?_) | (with_reducible refine Gx.drewN ?_) | (with_reducible refine Gx.setRow ?_ (by simp)) | (with_reducible refine Gx.setCell ?_ (by simp))))⟩
end Go.Proofs.YthkccbeffonaaaaGreatDoor

/-
  signOf: the contract.
-/
namespace Go.Proofs.YthkccbeffonaaaaGreatDoor
open Go.RowKit
-- AT2

section
variable {ops : Array Oper} {rest : List Oper} {o : Oper} {a : Act} {w : World} {Q : Exit → Act → World → Prop}
theorem load_b10 (hgd : o.guard = none) (x : Operand) (ho : o.op = .load 121 x) (g : Nat) (hx : a.eval x = .pointer (some ⟨g, 0, none⟩)) (D : List Int) (hg : At w g (.cells (bc D) 121 (0, 0))) (hl : D.length = 10)
    (h : wpList Tryz.prog ops Q rest (a.put o.dst (.agg (bc D))) w) : wpList Tryz.prog ops Q (o :: rest) a w :=
  wpList_plain hgd fun _ hK => wp_load_row _ x ho g hx _ _ _ _ hg Tryz.underlying121 rfl (by rw [bc_size, hl]; kernel_rfl) (hK _ _ h)
theorem store_b10 (hgd : o.guard = none) (x y : Operand) (ho : o.op = .store 121 x y) (g : Nat) (hx : a.eval x = .pointer (some ⟨g, 0, none⟩)) (D : List Int) (hy : a.eval y = .agg (bc D)) (E : List Int) (hg : At w g (.cells (bc E) 121 (0, 0))) (hl : D.length = 10) (hl' : E.length = 10)
    (h : wpList Tryz.prog ops Q rest (a.put o.dst undef) (w.setRow g (bc D))) : wpList Tryz.prog ops Q (o :: rest) a w :=
  wpList_store_row hgd _ x y ho g _ hx hy _ _ hg (by rw [bc_size, hl]; kernel_rfl) (by rw [bc_size, bc_size, hl, hl']) (by simp [bc, Value.oneCell']) h
end
@[go_sem high] theorem fold_zero10 : (#[Value.int .u8 0, Value.int .u8 0, Value.int .u8 0, Value.int .u8 0, Value.int .u8 0, Value.int .u8 0, Value.int .u8 0, Value.int .u8 0, Value.int .u8 0, Value.int .u8 0] : Array Value) = bc (zerosI 10) := by
  unfold zerosI
  rfl
/-- A byte of a sequence number. -/
def sgB (s : Int) (k : Nat) : Int := s / 2 ^ (24 - 8 * k) % 256
def sign0 : List Int := [79, 66, 0, 0, 0, 0, 0, 0, 0, 0]
@[go_sem high] theorem fold_sign0 : (#[Value.int .u8 79, Value.int .u8 66, Value.int .u8 0, Value.int .u8 0, Value.int .u8 0, Value.int .u8 0, Value.int .u8 0, Value.int .u8 0, Value.int .u8 0, Value.int .u8 0] : Array Value) = bc sign0 := rfl
/-- The head of a sector, of which k bytes of the number are written. -/
def sgTo (s : Int) : Nat → List Int
  | 0 => sign0
  | k + 1 => ((sgTo s k).set (2 + k) (sgB s k)).set (6 + k) (255 - sgB s k)
theorem sgTo_len (s : Int) : ∀ k, (sgTo s k).length = 10
  | 0 => rfl
  | k + 1 => by unfold sgTo; rw [List.length_set, List.length_set, sgTo_len s k]
theorem sgTo_0 (s : Int) : sgTo s 0 = sign0 := rfl
theorem sign0_len : sign0.length = 10 := rfl
theorem sgTo_succ (s : Int) (k : Nat) : ((sgTo s k).set (2 + k) (sgB s k)).set (6 + k) (255 - sgB s k) = sgTo s (k + 1) := rfl
theorem sgTo_one : sgTo 1 4 = [79, 66, 0, 0, 0, 1, 255, 255, 255, 254] := by decide
attribute [irreducible] sgTo sign0
theorem xor255 : ∀ b : Fin 256, 255 ^^^ b.val = 255 - b.val := by decide +kernel
theorem u8_not (b : Int) (h0 : 0 ≤ b) (h1 : b < 256) : bits .xor .u8 IntKind.u8.max b = 255 - b := by
  rw [show IntKind.u8.max = 255 from rfl, bits_xor .u8 8 (by decide) wraps_u8 255 b (by omega) (by omega) h0 (by omega)]
  unfold xorI
  have := xor255 ⟨b.toNat, by omega⟩
  simp only at this
  rw [show (255 : Int).toNat = 255 from rfl, this]
  omega
theorem u8_not' (b : Int) (h0 : 0 ≤ b) (h1 : b < 256) : bits .xor .u8 (if IntKind.u8.signed = true then -1 else IntKind.u8.max) b = 255 - b := u8_not b h0 h1
theorem sgB_bd (s : Int) (k : Nat) : 0 ≤ sgB s k ∧ sgB s k < 256 := by unfold sgB; omega
theorem sgB_eq (s : Int) (hs : 0 ≤ s) (hs' : s ≤ 4294967295) (k : Nat) : bits .and .i64 (s / 2 ^ (24 - 8 * k)) 255 % 256 = sgB s k := by
  have h0 : 0 ≤ s / 2 ^ (24 - 8 * k) := Int.ediv_nonneg hs (Int.le_of_lt (Int.pow_pos (by decide)))
  have h1 : s / 2 ^ (24 - 8 * k) ≤ s := Int.ediv_le_self _ hs
  have e : bits .and .i64 (s / 2 ^ (24 - 8 * k)) 255 = s / 2 ^ (24 - 8 * k) % 256 := bits_mask .i64 63 (by decide) wraps_i64 8 (by decide) _ h0 (by omega)
  rw [e]
  unfold sgB
  simp
theorem build_sign (w : World) : (Instr.build 121 #[(0, .int .u8 79), (1, .int .u8 66)]).run Tryz.prog w = .ok (.agg (bc sign0)) w := by
  refine run_build w _ _ _ ?_
  unfold sign0
  kernel_rfl
set_option maxRecDepth 100000 in
theorem build_b10 {ops : Array Oper} {rest : List Oper} {o : Oper} {a : Act} {w : World} {Q : Exit → Act → World → Prop} (hgd : o.guard = none) (ho : o.op = .build 121 #[(0, .const (.int .u8 79)), (1, .const (.int .u8 66))])
    (h : wpList Tryz.prog ops Q rest (a.put o.dst (.agg (bc sign0))) w) : wpList Tryz.prog ops Q (o :: rest) a w := by
  have hb : Tryz.prog.built 121 (#[(0, Operand.const (.int .u8 79)), (1, Operand.const (.int .u8 66))].map fun (i, x) => (i, a.eval x)).toList = some (bc sign0) := by
    have hp : (#[(0, Operand.const (.int .u8 79)), (1, Operand.const (.int .u8 66))].map fun (i, x) => (i, a.eval x)).toList = [(0, Value.int .u8 79), (1, Value.int .u8 66)] := by simp [Act.eval]
    have hq : Tryz.prog.built 121 [(0, Value.int .u8 79), (1, Value.int .u8 66)] = some (bc [79, 66, 0, 0, 0, 0, 0, 0, 0, 0]) := by kernel_rfl
    rw [hp, hq]
    unfold sign0
    rfl
  refine wpList_plain hgd fun _ hK => ?_
  unfold Oper.wp execOp
  simp only [ho, Sem.run_bind, run_build w 121 _ _ hb, Result.andThen_ok]
  exact hK _ _ h
set_option maxHeartbeats 400000 in
set_option maxRecDepth 100000 in
theorem signOf_any (s : Int) (hs : 0 ≤ s) (hs' : s ≤ 4294967295) (w : World) :
    Calls Tryz.prog 91 #[.int .i64 s] w fun e w' => e = .returned (.agg (bc (sgTo s 4))) ∧ ∃ x, w' = gx w x := by
  have hz := zerosI_len 10
  have hl4 := sgTo_len s 4
  have E0 := Lib.hid (sgTo_0 s)
  have hl0 := sign0_len
  have wr : ∀ n : Int, 0 ≤ n → n < 2 ^ 63 → IntKind.i64.wrap n = n := wraps_i64
  go_enter Tryz.func91, Tryz.ntmps91
  go_wp2_with (first | (refine build_b10 rfl rfl ?_) | (refine store_b10 rfl _ _ rfl _ rfl sign0 rfl (zerosI 10) ?_ hl0 hz ?_; (focus (repeat (first | (with_reducible assumption) | (with_reducible exact At.new _ _) | (with_reducible refine At.row ?_) | (with_reducible refine At.app ?_) | (with_reducible refine At.tick ?_) | (with_reducible refine At.gx ?_) | ((with_reducible refine At.new' ?_); focus (simp; done)) | (with_reducible refine At.alloc ?_) | (with_reducible refine At.drew ?_) | (with_reducible exact Is.new _ _ _) | (with_reducible refine Is.row ?_) | (with_reducible refine Is.gx ?_) | ((with_reducible refine Is.new' ?_); focus (simp; done)) | (with_reducible refine Is.alloc ?_) | (with_reducible refine Is.drew ?_))))))
  go_loopw [7] (fun i wr => ∃ k : Nat, k ≤ 4 ∧ i = .int .i64 k ∧ ∃ y, wr = gx ((w.alloc (.cells (bc (zerosI 10)) 121)).alloc (.cells (bc (sgTo s k)) 121)) y) (fun i _ => 4 - (intOf i).toNat)
  case atStart => exact ⟨0, by omega, rfl, by rw [E0.out]; exact ⟨_, (gx_none _).symm⟩⟩
  case round =>
    obtain ⟨k, hk, rfl, y, rfl⟩ := hrel
    have hlk := sgTo_len s k
    by_cases hlt : k < 4
    · have hsx := sgTo_succ s k
      have s1 : (24 - 8 * (k : Int)).toNat = 24 - 8 * k := by omega
      have x1 := sgB_eq s hs hs' k
      have x2 := u8_not (sgB s k) (sgB_bd s k).1 (sgB_bd s k).2
      have x3 := u8_not' (sgB s k) (sgB_bd s k).1 (sgB_bd s k).2
      have k2 : 2 + k < 10 := by omega
      have k6 : 6 + k < 10 := by omega
      go_wp2
      go_roundw
      case rel => exact ⟨k + 1, by omega, by go_num, ⟨_, rfl⟩⟩
      case measure => simp [intOf]; omega
    · obtain rfl : k = 4 := by omega
      go_wp2_with (first | (refine load_b10 rfl _ rfl _ rfl (sgTo s 4) ?_ hl4 ?_; (focus (repeat (first | (with_reducible assumption) | (with_reducible exact At.new _ _) | (with_reducible refine At.row ?_) | (with_reducible refine At.app ?_) | (with_reducible refine At.tick ?_) | (with_reducible refine At.gx ?_) | ((with_reducible refine At.new' ?_); focus (simp; done)) | (with_reducible refine At.alloc ?_) | (with_reducible refine At.drew ?_) | (with_reducible exact Is.new _ _ _) | (with_reducible refine Is.row ?_) | (with_reducible refine Is.gx ?_) | ((with_reducible refine Is.new' ?_); focus (simp; done)) | (with_reducible refine Is.alloc ?_) | (with_reducible refine Is.drew ?_))))) | (refine store_b10 rfl _ _ rfl _ rfl (sgTo s 4) rfl (zerosI 10) ?_ hl4 hz ?_; (focus (repeat (first | (with_reducible assumption) | (with_reducible exact At.new _ _) | (with_reducible refine At.row ?_) | (with_reducible refine At.app ?_) | (with_reducible refine At.tick ?_) | (with_reducible refine At.gx ?_) | ((with_reducible refine At.new' ?_); focus (simp; done)) | (with_reducible refine At.alloc ?_) | (with_reducible refine At.drew ?_) | (with_reducible exact Is.new _ _ _) | (with_reducible refine Is.row ?_) | (with_reducible refine Is.gx ?_) | ((with_reducible refine Is.new' ?_); focus (simp; done)) | (with_reducible refine Is.alloc ?_) | (with_reducible refine Is.drew ?_))))))
      refine ret_st1 rfl _ _ w.heap.size (bc (sgTo s 4)) rfl rfl (run_loadVar_row _ w.heap.size 121 121 _ (0, 0) _ ?_ Tryz.underlying121 rfl (by rw [bc_size, hl4]; kernel_rfl)) ?_
      · show At _ _ _
        (focus (repeat (first | (with_reducible assumption) | (with_reducible exact At.new _ _) | (with_reducible refine At.row ?_) | (with_reducible refine At.app ?_) | (with_reducible refine At.tick ?_) | (with_reducible refine At.gx ?_) | ((with_reducible refine At.new' ?_); focus (simp; done)) | (with_reducible refine At.alloc ?_) | (with_reducible refine At.drew ?_) | (with_reducible exact Is.new _ _ _) | (with_reducible refine Is.row ?_) | (with_reducible refine Is.gx ?_) | ((with_reducible refine Is.new' ?_); focus (simp; done)) | (with_reducible refine Is.alloc ?_) | (with_reducible refine Is.drew ?_))))
      · exact ⟨rfl, (by repeat (first | (with_reducible exact Gx.refl _) | (with_reducible assumption) | (with_reducible refine Gx.gx ?_) | (with_reducible refine Gx.alloc ?_) | (with_reducible refine Gx.drew ?_) | (with_reducible refine Gx.drewN ?_) | (with_reducible refine Gx.setRow ?_ (by simp)) | (with_reducible refine Gx.setCell ?_ (by simp))))⟩
end Go.Proofs.YthkccbeffonaaaaGreatDoor

/-
  Head: the contract.
-/
namespace Go.Proofs.YthkccbeffonaaaaGreatDoor
open Go.RowKit
-- AT2

/-- Are two such places equal? -/
def eqT (F G : List Int) : Bool := (List.range 10).all fun i => gw F i == gw G i
theorem eqT_iff {F G : List Int} (hF : F.length = 10) (hG : G.length = 10) : eqT F G = true ↔ F = G := by
  unfold eqT
  rw [List.all_eq_true]
  constructor
  · intro h
    exact ext_gw (by omega) fun k hk => by
      have := h k (List.mem_range.2 (by omega))
      simpa using this
  · rintro rfl i _
    simp
attribute [irreducible] eqT
theorem part_t (F : List Int) (i : Nat) (hi : i < 10) (hF : F.length = 10) (w : World) : (part 5 (bc F) i).run Tryz.prog w = .ok (.int .u8 (gw F i)) w := by
  have hg := bc_get F i (by omega)
  simp [part, go_sem, hg]
theorem eqItems_t (d : Nat) (F G : List Int) (hF : F.length = 10) (hG : G.length = 10) (w : World) : ∀ is : List Nat, (∀ i ∈ is, i < 10) →
    (Op.eqItems (d + 1) 5 1 (bc F) (bc G) is).run Tryz.prog w = .ok (is.all fun i => gw F i == gw G i) w
  | [], _ => by simp [Op.eqItems]
  | i :: is, h => by
    have hi : i < 10 := h i (by simp)
    have ih := eqItems_t d F G hF hG w is fun j hj => h j (by simp [hj])
    simp only [Op.eqItems, Nat.mul_one, Sem.run_bind, part_t F i hi hF, part_t G i hi hG, Result.andThen_ok, run_equalIn_int w d 5 .u8 .u8 _ _ Tryz.underlying5]
    cases hb : gw F i == gw G i
    · simp [hb]
    · simp [hb, ih]
@[go_sem high] theorem equal_t (F G : List Int) (hF : F.length = 10) (hG : G.length = 10) (w : World) : (Op.equalIn 10000 121 (.agg (bc F)) (.agg (bc G))).run Tryz.prog w = .ok (eqT F G) w := by
  obtain ⟨i, h1, h2⟩ := info8
  rw [run_equalIn_array w 9999 (bc F) (bc G) Tryz.underlying121 h1]
  have h3 : Tryz.prog.cellsOf 5 = 1 := by kernel_rfl
  rw [h3]
  unfold eqT
  exact eqItems_t 9998 F G hF hG w (List.range 10) fun i hi => List.mem_range.1 hi
theorem range_t {B : List Int} (hl : B.length = 10) {w : World} {g q : Nat} (hc : ∀ j, j < 10 → w.cell? ⟨g, q + j, none⟩ = some (.int .u8 (gw B j))) : w.rangeAt g q (B.map (Value.int .u8)) := by
  intro j v hj
  have hj' : j < 10 := by
    have := (List.getElem?_eq_some_iff.1 hj).1
    rw [List.length_map, hl] at this
    exact this
  have e := bc_get B j (by omega)
  have hv : v = .int .u8 (gw B j) := by
    have : (bc B)[j]? = some v := by unfold bc; simpa using hj
    rw [e] at this
    exact (Option.some.inj this).symm
  rw [hv]
  exact hc j hj'
theorem quiet_t {ops : Array Oper} {C : World → Prop} {Q : Act → Prop} {a : Act} {o : Oper} {rest : List Oper} (hw : Region.wanted o (yielded ops a.tmps) = true) (x : Operand) (ho : o.op = .load 121 x)
    (g q : Nat) (hx : a.eval x = .pointer (some ⟨g, q, none⟩)) (B : List Int) (hl : B.length = 10) (hC : ∀ w, C w → ∀ j, j < 10 → w.cell? ⟨g, q + j, none⟩ = some (.int .u8 (gw B j)))
    (h : wpQuiet Tryz.prog ops C Q rest (a.put o.dst (.agg (bc B)))) : wpQuiet Tryz.prog ops C Q (o :: rest) a := by
  refine BigFrame.wpQuiet_want hw fun K hK => ⟨.agg (bc B), fun w hw' => ?_, hK _ h⟩
  unfold Oper.quietAt execOp
  simp only [ho, hx, Instr.loadAt, Instr.sureAddr, Sem.run_bind, Sem.run_pure, Result.andThen_ok, run_loadVar_mid w g _ _ _ _ (range_t hl (hC w hw')) Tryz.underlying121 rfl (by rw [List.length_map, hl]; kernel_rfl)]
  exact ⟨rfl, rfl⟩

/-- The sequence number of a head, of which k bytes are read. -/
def hsTo (D : List Int) : Nat → Int
  | 0 => 0
  | k + 1 => hsTo D k * 256 + gw D (2 + k)
theorem hsTo_bd {D : List Int} (hD : Bs D) : ∀ k, k ≤ 4 → 0 ≤ hsTo D k ∧ hsTo D k < 256 ^ k
  | 0, _ => by unfold hsTo; omega
  | k + 1, h => by
    have := hsTo_bd hD k (by omega)
    have := hD (2 + k)
    unfold hsTo
    rw [Int.pow_succ]
    omega
theorem hsTo_0 (D : List Int) : hsTo D 0 = 0 := rfl
theorem hsTo_succ (D : List Int) (k : Nat) : hsTo D k * 256 + gw D (2 + k) = hsTo D (k + 1) := rfl
attribute [irreducible] hsTo
theorem hs_or {D : List Int} (hD : Bs D) (k : Nat) (hk : k < 4) : bits .or .i64 (wrap64 (hsTo D k * 256)) (wrap64 (gw D (2 + k))) = hsTo D (k + 1) := by
  have h1 := hsTo_bd hD k (by omega)
  have h2 := hD (2 + k)
  have h3 : hsTo D k < 256 ^ 3 := by
    have : (256 : Int) ^ k ≤ 256 ^ 3 := by
      rcases (show k = 0 ∨ k = 1 ∨ k = 2 ∨ k = 3 by omega) with rfl | rfl | rfl | rfl <;> decide
    omega
  have e1 : wrap64 (hsTo D k * 256) = hsTo D k * 256 := by unfold wrap64; omega
  have e2 : wrap64 (gw D (2 + k)) = gw D (2 + k) := by unfold wrap64; omega
  rw [e1, e2, ← hsTo_succ]
  exact bits_join .i64 63 (by decide) wraps_i64 8 _ _ (by omega) (by omega) (by omega) h2.1 (by omega) (by omega)
set_option maxHeartbeats 400000 in
set_option maxRecDepth 100000 in
theorem headOf_ok (b o n c : Nat) (hn : 16 ≤ n) (w : World) :
    Calls Tryz.prog 90 #[.slice (some ⟨b, o, none⟩) n c] w fun e w' => e = .returned (.tuple #[.pointer (some ⟨b, o, none⟩), .bool true]) ∧ w = w' := by
  have hat : ∀ W, (Instr.arrayAt 256 (.slice (some ⟨b, o, none⟩) n c)).run Tryz.prog W = .ok (.pointer (some ⟨b, o, none⟩)) W := fun W => run_arrayAt _ _ _ _ _ _ _ Tryz.underlying256 (by omega)
  have hd : decide ((n : Int) < 16) = false := decide_eq_false (by omega)
  go_enter Tryz.func90, Tryz.ntmps90
  go_wp2
  go_ret2
  exact ⟨rfl, rfl⟩
set_option maxHeartbeats 400000 in
set_option maxRecDepth 100000 in
theorem headOf_no (A : Option Addr) (n c : Nat) (hn : n < 16) (w : World) :
    Calls Tryz.prog 90 #[.slice A n c] w fun e w' => e = .returned (.tuple #[.pointer none, .bool false]) ∧ w = w' := by
  have hd : decide ((n : Int) < 16) = true := decide_eq_true (by omega)
  go_enter Tryz.func90, Tryz.ntmps90
  go_wp2
  go_ret2
  exact ⟨rfl, rfl⟩
set_option maxHeartbeats 400000 in
set_option maxRecDepth 100000 in
theorem Head_no (A : Option Addr) (n c : Nat) (hn : n < 16) (w : World) :
    Calls Tryz.prog 34 #[.slice A n c] w fun e w' => e = .returned (.tuple #[.int .i64 0, .bool false, .bool false]) ∧ ∃ x, w' = gx w x := by
  go_enter Tryz.func34, Tryz.ntmps34
  go_wp2_with (go_at_call 90; go_loud (refine (headOf_no A n c hn _).mono ?_; rintro e w' ⟨rfl, rfl⟩))
  go_ret3
  exact ⟨rfl, (by repeat (first | (with_reducible exact Gx.refl _) | (with_reducible assumption) | (with_reducible refine Gx.gx ?_) | (with_reducible refine Gx.alloc ?_) | (with_reducible refine Gx.drew ?_) | (with_reducible refine Gx.drewN ?_) | (with_reducible refine Gx.setRow ?_ (by simp)) | (with_reducible refine Gx.setCell ?_ (by simp))))⟩
set_option maxHeartbeats 600000 in
set_option maxRecDepth 100000 in
theorem Head_off (D : List Int) (hD : Bs D) (b o n c : Nat) (hn : 16 ≤ n) (w : World) (hc : ∀ j, j < 16 → w.cell? ⟨b, o + j, none⟩ = some (.int .u8 (gw D j))) (hs : hsTo D 4 < 1 ∨ 1073741824 < hsTo D 4) :
    Calls Tryz.prog 34 #[.slice (some ⟨b, o, none⟩) n c] w fun e w' => e = .returned (.tuple #[.int .i64 0, .bool false, .bool false]) ∧ ∃ x, w' = gx w x := by
  have Hc := Lib.hid hc
  have hbw : b < w.heap.size := World.block_lt_of_cell? w _ (hc 0 (by omega))
  have E0 := Lib.hid (hsTo_0 D)
  have Hs := Lib.hid hs
  clear hc hs
  go_enter Tryz.func34, Tryz.ntmps34
  go_wp2_with (go_at_call 90; go_loud (refine (headOf_ok b o n c hn _).mono ?_; rintro e w' ⟨rfl, rfl⟩))
  go_loopw [19, 2] (fun i v wr => ∃ k : Nat, k ≤ 4 ∧ i = .int .i64 k ∧ v = .int .i64 (hsTo D k) ∧ wr = w) (fun i _ _ => 4 - (intOf i).toNat)
  case atStart => exact ⟨0, by omega, rfl, by rw [E0.out], rfl⟩
  case round =>
    obtain ⟨k, hk, rfl, rfl, rfl⟩ := hrel
    by_cases hlt : k < 4
    · have ck := Hc.out (2 + k) (by omega)
      rw [← Nat.add_assoc] at ck
      have hb := hsTo_bd hD k hk
      have hx := hs_or hD k hlt
      clear hb
      go_wp2
      go_roundw
      case rel => exact ⟨k + 1, by omega, by go_num, rfl, by first | rfl | trivial⟩
      case measure => simp [intOf]; omega
    · obtain rfl : k = 4 := by omega
      rcases Hs.out with h | h
      · have d1 : decide (hsTo D 4 < 1) = true := decide_eq_true h
        clear h
        generalize hsTo D 4 = s at *
        go_wp2
        go_quiet (fail)
        go_wp2
        go_ret3
        exact ⟨rfl, (by repeat (first | (with_reducible exact Gx.refl _) | (with_reducible assumption) | (with_reducible refine Gx.gx ?_) | (with_reducible refine Gx.alloc ?_) | (with_reducible refine Gx.drew ?_) | (with_reducible refine Gx.drewN ?_) | (with_reducible refine Gx.setRow ?_ (by simp)) | (with_reducible refine Gx.setCell ?_ (by simp))))⟩
      · have d1 : decide (hsTo D 4 < 1) = false := decide_eq_false (by omega)
        have d2 : decide (1073741824 < hsTo D 4) = true := decide_eq_true h
        clear h
        generalize hsTo D 4 = s at *
        go_wp2
        go_quiet (fail)
        go_wp2
        go_ret3
        exact ⟨rfl, (by repeat (first | (with_reducible exact Gx.refl _) | (with_reducible assumption) | (with_reducible refine Gx.gx ?_) | (with_reducible refine Gx.alloc ?_) | (with_reducible refine Gx.drew ?_) | (with_reducible refine Gx.drewN ?_) | (with_reducible refine Gx.setRow ?_ (by simp)) | (with_reducible refine Gx.setCell ?_ (by simp))))⟩
set_option maxHeartbeats 600000 in
set_option maxRecDepth 100000 in
theorem Head_in (D : List Int) (hD : Bs D) (b o n c : Nat) (hn : 16 ≤ n) (w : World) (hc : ∀ j, j < 16 → w.cell? ⟨b, o + j, none⟩ = some (.int .u8 (gw D j))) (h1 : 1 ≤ hsTo D 4) (h2 : hsTo D 4 ≤ 1073741824) (D10 : List Int) (hl10 : D10.length = 10) (h10 : ∀ j, j < 10 → gw D10 j = gw D j) (p : Bool) (hp : eqT D10 (sgTo (hsTo D 4) 4) = p) (v : Int × Bool × Bool) (hv : v = if p then (hsTo D 4, !(gw D 10 == 255), true) else (0, false, false)) :
    Calls Tryz.prog 34 #[.slice (some ⟨b, o, none⟩) n c] w fun e w' => e = .returned (.tuple #[.int .i64 v.1, .bool v.2.1, .bool v.2.2]) ∧ ∃ x, w' = gx w x := by
  have Hc := Lib.hid hc
  have hbw : b < w.heap.size := World.block_lt_of_cell? w _ (hc 0 (by omega))
  have c10 := hc 10 (by omega)
  have hT : Hid (∀ j, j < 10 → w.cell? ⟨b, o + j, none⟩ = some (.int .u8 (gw D10 j))) := Lib.hid (fun j hj => by rw [h10 j hj]; exact hc j (by omega))
  have E0 := Lib.hid (hsTo_0 D)
  have hlS := sgTo_len (hsTo D 4) 4
  have hat : ∀ W, (Instr.arrayAt 121 (.slice (some ⟨b, o, none⟩) 10 16)).run Tryz.prog W = .ok (.pointer (some ⟨b, o, none⟩)) W := fun W => run_arrayAt _ _ _ _ _ _ _ Tryz.underlying121 (by omega)
  have d1 : decide (hsTo D 4 < 1) = false := decide_eq_false (by omega)
  have d2 : decide (1073741824 < hsTo D 4) = false := decide_eq_false (by omega)
  have hS1 : Hid (0 ≤ hsTo D 4 ∧ hsTo D 4 ≤ 4294967295) := Lib.hid ⟨by omega, by omega⟩
  clear hc h1 h2 h10
  go_enter Tryz.func34, Tryz.ntmps34
  go_wp2_with (go_at_call 90; go_loud (refine (headOf_ok b o n c hn _).mono ?_; rintro e w' ⟨rfl, rfl⟩))
  go_loopw [19, 2] (fun i v wr => ∃ k : Nat, k ≤ 4 ∧ i = .int .i64 k ∧ v = .int .i64 (hsTo D k) ∧ wr = w) (fun i _ _ => 4 - (intOf i).toNat)
  case atStart => exact ⟨0, by omega, rfl, by rw [E0.out], rfl⟩
  case round =>
    obtain ⟨k, hk, rfl, rfl, rfl⟩ := hrel
    by_cases hlt : k < 4
    · have ck := Hc.out (2 + k) (by omega)
      rw [← Nat.add_assoc] at ck
      have hx := hs_or hD k hlt
      clear d1 d2 hp hv c10
      go_wp2
      go_roundw
      case rel => exact ⟨k + 1, by omega, by go_num, rfl, by first | rfl | trivial⟩
      case measure => simp [intOf]; omega
    · obtain rfl : k = 4 := by omega
      have Hv := Lib.hid hv
      clear hv
      cases p
      · go_wp2
        first | (with_reducible refine region_gxx (by kernel_rfl) (by kernel_rfl) ?_) | (with_reducible refine region_gx (by kernel_rfl) (by kernel_rfl) ?_)
        repeat (any_goals (first | (refine quiet_t rfl _ rfl _ _ rfl D10 hl10 ?_ ?_; (focus (rintro _ ⟨x, rfl⟩ j hj; exact cell_keep_gx (hT.out j hj)))) | go_big_quiet_step ((go_at_call 91; exact calls_gx (signOf_any _ hS1.out.1 hS1.out.2 _))) | quiet_step ((go_at_call 91; exact calls_gx (signOf_any _ hS1.out.1 hS1.out.2 _)))))
        refine wpQuiet_nil ?_
        rintro _ ⟨x, rfl⟩
        go_wp2
        go_ret3
        exact ⟨by rw [Hv.out]; rfl, (by repeat (first | (with_reducible exact Gx.refl _) | (with_reducible assumption) | (with_reducible refine Gx.gx ?_) | (with_reducible refine Gx.alloc ?_) | (with_reducible refine Gx.drew ?_) | (with_reducible refine Gx.drewN ?_) | (with_reducible refine Gx.setRow ?_ (by simp)) | (with_reducible refine Gx.setCell ?_ (by simp))))⟩
      · go_wp2
        first | (with_reducible refine region_gxx (by kernel_rfl) (by kernel_rfl) ?_) | (with_reducible refine region_gx (by kernel_rfl) (by kernel_rfl) ?_)
        repeat (any_goals (first | (refine quiet_t rfl _ rfl _ _ rfl D10 hl10 ?_ ?_; (focus (rintro _ ⟨x, rfl⟩ j hj; exact cell_keep_gx (hT.out j hj)))) | go_big_quiet_step ((go_at_call 91; exact calls_gx (signOf_any _ hS1.out.1 hS1.out.2 _))) | quiet_step ((go_at_call 91; exact calls_gx (signOf_any _ hS1.out.1 hS1.out.2 _)))))
        refine wpQuiet_nil ?_
        rintro _ ⟨x, rfl⟩
        go_wp2
        first | (with_reducible refine region_gxx (by kernel_rfl) (by kernel_rfl) ?_) | (with_reducible refine region_gx (by kernel_rfl) (by kernel_rfl) ?_)
        repeat (any_goals (first | (refine quiet_fr rfl _ rfl _ rfl ?_ ?_ ?_ ?_; rotate_left; (focus (rintro _ ⟨x, rfl⟩; (focus (repeat (first | (with_reducible assumption) | (with_reducible exact At.new _ _) | (with_reducible refine At.row ?_) | (with_reducible refine At.app ?_) | (with_reducible refine At.tick ?_) | (with_reducible refine At.gx ?_) | ((with_reducible refine At.new' ?_); focus (simp; done)) | (with_reducible refine At.alloc ?_) | (with_reducible refine At.drew ?_) | (with_reducible exact Is.new _ _ _) | (with_reducible refine Is.row ?_) | (with_reducible refine Is.gx ?_) | ((with_reducible refine Is.new' ?_); focus (simp; done)) | (with_reducible refine Is.alloc ?_) | (with_reducible refine Is.drew ?_)))))); (focus (with_reducible (first | exact hl | exact hl1 | exact hl2 | exact hl3 | exact hl4 | exact zeroF_len)))) | go_big_quiet_step ((first | fail)) | quiet_step ((first | fail))))
        refine wpQuiet_nil ?_
        rintro _ ⟨x, rfl⟩
        go_wp2
        go_ret3
        exact ⟨by rw [Hv.out]; rfl, (by repeat (first | (with_reducible exact Gx.refl _) | (with_reducible assumption) | (with_reducible refine Gx.gx ?_) | (with_reducible refine Gx.alloc ?_) | (with_reducible refine Gx.drew ?_) | (with_reducible refine Gx.drewN ?_) | (with_reducible refine Gx.setRow ?_ (by simp)) | (with_reducible refine Gx.setCell ?_ (by simp))))⟩
end Go.Proofs.YthkccbeffonaaaaGreatDoor

/-
  The sort of at most one element: it does nothing.
-/
namespace Go.Proofs.YthkccbeffonaaaaGreatDoor
open Go.RowKit
-- AT2

set_option maxHeartbeats 400000 in
set_option maxRecDepth 100000 in
theorem insertion_one (A : Option Addr) (n c : Nat) (hn : n ≤ 1) (f : Value) (w : World) :
    Calls Tryz.prog 180 #[.slice A n c, .int .i64 0, .int .i64 n, f] w fun e w' => e = .returned (.tuple #[]) ∧ ∃ x, w' = gx w x := by
  have hd : decide (1 < (n : Int)) = false := decide_eq_false (by omega)
  go_enter Tryz.func180, Tryz.ntmps180
  go_wp2
  refine wp_loop_once ?_
  go_wp2
  go_end0
  exact ⟨rfl, (by repeat (first | (with_reducible exact Gx.refl _) | (with_reducible assumption) | (with_reducible refine Gx.gx ?_) | (with_reducible refine Gx.alloc ?_) | (with_reducible refine Gx.drew ?_) | (with_reducible refine Gx.drewN ?_) | (with_reducible refine Gx.setRow ?_ (by simp)) | (with_reducible refine Gx.setCell ?_ (by simp))))⟩
set_option maxHeartbeats 400000 in
set_option maxRecDepth 100000 in
theorem pdq_one (A : Option Addr) (n c : Nat) (hn : n ≤ 1) (m : Int) (f : Value) (w : World) :
    Calls Tryz.prog 162 #[.slice A n c, .int .i64 0, .int .i64 n, .int .i64 m, f] w fun e w' => e = .returned (.tuple #[]) ∧ ∃ x, w' = gx w x := by
  have hd : decide ((n : Int) ≤ 12) = true := decide_eq_true (by omega)
  have hw : IntKind.i64.wrap ((n : Int) - 0) = n := by rw [IntWalk.i64_in _ (by omega)]; omega
  have hw2 : IntKind.i64.wrap (n : Int) = n := IntWalk.i64_in _ (by omega)
  go_enter Tryz.func162, Tryz.ntmps162
  go_wp2
  refine wp_loop_once ?_
  go_wp2_with (go_at_call 180; go_loud (refine (insertion_one A n c hn f _).mono ?_; rintro e w' ⟨rfl, z, rfl⟩))
  refine bodyPost_ret (results_none rfl _ _ _) rfl ?_
  exact ⟨rfl, (by repeat (first | (with_reducible exact Gx.refl _) | (with_reducible assumption) | (with_reducible refine Gx.gx ?_) | (with_reducible refine Gx.alloc ?_) | (with_reducible refine Gx.drew ?_) | (with_reducible refine Gx.drewN ?_) | (with_reducible refine Gx.setRow ?_ (by simp)) | (with_reducible refine Gx.setCell ?_ (by simp))))⟩
set_option maxHeartbeats 400000 in
set_option maxRecDepth 100000 in
theorem Len64_small (n : Nat) (hn : n ≤ 1) (w : World) :
    Calls Tryz.prog 189 #[.int .u64 n] w fun e w' => (∃ m, e = .returned (.int .i64 m)) ∧ w = w' := by
  rcases (show n = 0 ∨ n = 1 by omega) with rfl | rfl
  all_goals
    go_enter Tryz.func189, Tryz.ntmps189
    go_wp2
    go_ret
    exact ⟨⟨_, rfl⟩, rfl⟩
set_option maxHeartbeats 400000 in
set_option maxRecDepth 100000 in
theorem Len_small (n : Nat) (hn : n ≤ 1) (w : World) :
    Calls Tryz.prog 163 #[.int .u64 n] w fun e w' => (∃ m, e = .returned (.int .i64 m)) ∧ w = w' := by
  go_enter Tryz.func163, Tryz.ntmps163
  go_wp2_with (go_at_call 189; go_loud (refine (Len64_small n hn _).mono ?_; rintro e w' ⟨⟨m, rfl⟩, rfl⟩))
  go_ret
  exact ⟨⟨_, rfl⟩, rfl⟩
set_option maxHeartbeats 400000 in
set_option maxRecDepth 100000 in
theorem SortFunc_one (A : Option Addr) (n c : Nat) (hn : n ≤ 1) (f : Value) (w : World) :
    Calls Tryz.prog 129 #[.slice A n c, f] w fun e w' => e = .returned (.tuple #[]) ∧ ∃ x, w' = gx w x := by
  have hw : IntKind.u64.wrap (n : Int) = n := wraps_u64 _ (by omega) (by omega)
  have hw2 : (n : Int) % 18446744073709551616 = n := by omega
  go_enter Tryz.func129, Tryz.ntmps129
  go_wp2_with (first | (go_at_call 163; go_loud (refine (Len_small n hn _).mono ?_; rintro e w' ⟨⟨m, rfl⟩, rfl⟩)) | (go_at_call 162; go_loud (refine (pdq_one A n c hn _ f _).mono ?_; rintro e w' ⟨rfl, z, rfl⟩)))
  go_end0
  exact ⟨rfl, (by repeat (first | (with_reducible exact Gx.refl _) | (with_reducible assumption) | (with_reducible refine Gx.gx ?_) | (with_reducible refine Gx.alloc ?_) | (with_reducible refine Gx.drew ?_) | (with_reducible refine Gx.drewN ?_) | (with_reducible refine Gx.setRow ?_ (by simp)) | (with_reducible refine Gx.setCell ?_ (by simp))))⟩
end Go.Proofs.YthkccbeffonaaaaGreatDoor

/-
  Copies: bytes.Clone, slices.Clone of numbers and of truths, copyMemory.
-/
namespace Go.Proofs.YthkccbeffonaaaaGreatDoor
open Go.RowKit
-- AT2

set_option maxHeartbeats 600000 in
set_option maxRecDepth 100000 in
theorem CloneB_any (M : List Int) (hM : Bs M) (ad : Addr) (c : Nat) (w : World) (hH : HeldB M (some ad) M.length w) (hm : M.length ≤ 1048576) :
    Calls Tryz.prog 85 #[.slice (some ad) M.length c] w fun e w' => ∃ g C x, e = .returned (.slice (some ⟨g, 0, none⟩) M.length C.length) ∧ w' = gx w x ∧ w.heap.size ≤ g ∧ At (gx w x) g (.cells (bc C) 5 (0, 0)) ∧ M.length ≤ C.length ∧ C.length ≤ maxLen ∧ Bs C ∧ ∀ j, j < M.length → gw C j = gw M j := by
  have he : ∀ w : World, (binOp .eql 39 (.slice (some ad) M.length c) (.slice none 0 0)).run Tryz.prog w = .ok (.bool false) w := fun _ => rfl
  go_enter Tryz.func85, Tryz.ntmps85
  go_wp2_with (first | (at_builtin; go_loud (refine append_own w [] M _ 0 (some ad) c rfl _ _ rfl rfl rfl rfl ?_ ?_ ?_ (by decide) (by decide) nil_bs hM ?_ (by omega) ?_; (focus (exact At.new w (.cells #[] 5))); exact (by repeat (first | (with_reducible exact Gx.refl _) | (with_reducible assumption) | (with_reducible refine Gx.gx ?_) | (with_reducible refine Gx.alloc ?_) | (with_reducible refine Gx.drew ?_) | (with_reducible refine Gx.drewN ?_) | (with_reducible refine Gx.setRow ?_ (by simp)) | (with_reducible refine Gx.setCell ?_ (by simp)))); (focus (simp)); (focus (repeat (first | (with_reducible assumption) | (with_reducible refine HeldB.gx ?_) | (with_reducible refine HeldB.alloc ?_) | (with_reducible refine HeldB.drew ?_)))); rintro g1 C1 W1 ⟨x1, rfl⟩ hg1 hA1 hl1 hm1 hb1 hp1 hq1)))
  go_ret
  exact ⟨g1, C1, x1, rfl, rfl, hg1, hA1, by omega, hm1, hb1, fun j hj => by have := hq1 j hj; rwa [Nat.zero_add] at this⟩
theorem el_bool : Elem 24 4 1 1 := elem_of Tryz.underlying24 (by decide) (z := .bool false) (by kernel_rfl) (by simp [Value.cells])

theorem own_empty (w : World) (e : TypeId) : Own w.heap.size (w.alloc (.cells #[] e)) e 1 (.slice (some ⟨w.heap.size, 0, none⟩) 0 0) 0 [] :=
  Own.mk' (World.ownsRow_lit w #[] 0 (Nat.le_refl _) (by decide) (by simp))
set_option maxHeartbeats 600000 in
set_option maxRecDepth 100000 in
theorem CloneI_any (P : List Int) (ad : Addr) (c : Nat) (w : World) (hS : Shows (iC P) (some ad) w) (hm : P.length ≤ 1048576) :
    Calls Tryz.prog 133 #[.slice (some ad) P.length c] w fun e w' => ∃ v x, e = .returned v ∧ w' = gx w x ∧ Own w.heap.size (gx w x) 3 1 v P.length (iC P) := by
  have he : ∀ w : World, (binOp .eql 23 (.slice (some ad) P.length c) (.slice none 0 0)).run Tryz.prog w = .ok (.bool false) w := fun _ => rfl
  have hl := iC_len P
  have hb : ∀ u ∈ iC P, u.oneCell' = true := by unfold iC; simp [Value.oneCell']
  go_enter Tryz.func133, Tryz.ntmps133
  go_wp2_with (first | (at_builtin; (with_reducible apply append_all (o := ⟨some 7, _, _, _, _, _⟩) el_int w w.heap.size (v := .slice (some ⟨w.heap.size, 0, none⟩) 0 0) (n := 0) (xs := []) (A := some ad) (m := P.length) (c := c) (news := iC P)); go_loud ((exact rfl; exact rfl; exact rfl; exact rfl; (focus (intro h; cases h)); (focus (exact Nat.le_refl _)); (focus (exact own_empty w _)); exact (by repeat (first | (with_reducible exact Gx.refl _) | (with_reducible assumption) | (with_reducible refine Gx.gx ?_) | (with_reducible refine Gx.alloc ?_) | (with_reducible refine Gx.drew ?_) | (with_reducible refine Gx.drewN ?_) | (with_reducible refine Gx.setRow ?_ (by simp)) | (with_reducible refine Gx.setCell ?_ (by simp)))); (focus (simp <;> omega)); (focus (rw [hl, Nat.mul_one])); (focus (repeat (first | (with_reducible assumption) | ((with_reducible apply Shows.whole); focus ((focus (repeat (first | (with_reducible assumption) | (with_reducible exact At.new _ _) | (with_reducible refine At.row ?_) | (with_reducible refine At.app ?_) | (with_reducible refine At.tick ?_) | (with_reducible refine At.gx ?_) | ((with_reducible refine At.new' ?_); focus (simp; done)) | (with_reducible refine At.alloc ?_) | (with_reducible refine At.drew ?_) | (with_reducible exact Is.new _ _ _) | (with_reducible refine Is.row ?_) | (with_reducible refine Is.gx ?_) | ((with_reducible refine Is.new' ?_); focus (simp; done)) | (with_reducible refine Is.alloc ?_) | (with_reducible refine Is.drew ?_)))); done)) | (with_reducible refine Shows.app ?_) | (with_reducible refine Shows.tick ?_) | (with_reducible refine Shows.gx ?_) | (with_reducible refine Shows.alloc ?_) | (with_reducible refine Shows.drew ?_)))); exact hb; (focus (simp only [maxLen]; omega)); (focus omega); (rintro v' W' ⟨x1, rfl⟩ hO' hg')))))
  go_ret
  rw [Nat.zero_add, List.nil_append] at hO'
  exact ⟨v', x1, rfl, rfl, hO'⟩
set_option maxHeartbeats 600000 in
set_option maxRecDepth 100000 in
theorem CloneQ_any (P : List Bool) (ad : Addr) (c : Nat) (w : World) (hS : Shows (qC P) (some ad) w) (hm : P.length ≤ 1048576) :
    Calls Tryz.prog 134 #[.slice (some ad) P.length c] w fun e w' => ∃ v x, e = .returned v ∧ w' = gx w x ∧ Own w.heap.size (gx w x) 4 1 v P.length (qC P) := by
  have he : ∀ w : World, (binOp .eql 24 (.slice (some ad) P.length c) (.slice none 0 0)).run Tryz.prog w = .ok (.bool false) w := fun _ => rfl
  have hl := qC_len P
  have hb : ∀ u ∈ qC P, u.oneCell' = true := fun u hu => by
    unfold qC at hu
    obtain ⟨x, _, rfl⟩ := List.mem_map.1 hu
    rfl
  go_enter Tryz.func134, Tryz.ntmps134
  go_wp2_with (first | (at_builtin; (with_reducible apply append_all (o := ⟨some 7, _, _, _, _, _⟩) el_bool w w.heap.size (v := .slice (some ⟨w.heap.size, 0, none⟩) 0 0) (n := 0) (xs := []) (A := some ad) (m := P.length) (c := c) (news := qC P)); go_loud ((exact rfl; exact rfl; exact rfl; exact rfl; (focus (intro h; cases h)); (focus (exact Nat.le_refl _)); (focus (exact own_empty w _)); exact (by repeat (first | (with_reducible exact Gx.refl _) | (with_reducible assumption) | (with_reducible refine Gx.gx ?_) | (with_reducible refine Gx.alloc ?_) | (with_reducible refine Gx.drew ?_) | (with_reducible refine Gx.drewN ?_) | (with_reducible refine Gx.setRow ?_ (by simp)) | (with_reducible refine Gx.setCell ?_ (by simp)))); (focus (simp <;> omega)); (focus (rw [hl, Nat.mul_one])); (focus (repeat (first | (with_reducible assumption) | ((with_reducible apply Shows.whole); focus ((focus (repeat (first | (with_reducible assumption) | (with_reducible exact At.new _ _) | (with_reducible refine At.row ?_) | (with_reducible refine At.app ?_) | (with_reducible refine At.tick ?_) | (with_reducible refine At.gx ?_) | ((with_reducible refine At.new' ?_); focus (simp; done)) | (with_reducible refine At.alloc ?_) | (with_reducible refine At.drew ?_) | (with_reducible exact Is.new _ _ _) | (with_reducible refine Is.row ?_) | (with_reducible refine Is.gx ?_) | ((with_reducible refine Is.new' ?_); focus (simp; done)) | (with_reducible refine Is.alloc ?_) | (with_reducible refine Is.drew ?_)))); done)) | (with_reducible refine Shows.app ?_) | (with_reducible refine Shows.tick ?_) | (with_reducible refine Shows.gx ?_) | (with_reducible refine Shows.alloc ?_) | (with_reducible refine Shows.drew ?_)))); exact hb; (focus (simp only [maxLen]; omega)); (focus omega); (rintro v' W' ⟨x1, rfl⟩ hO' hg')))))
  go_ret
  rw [Nat.zero_add, List.nil_append] at hO'
  exact ⟨v', x1, rfl, rfl, hO'⟩
end Go.Proofs.YthkccbeffonaaaaGreatDoor

/-
  copyMemory: the contract.
-/
namespace Go.Proofs.YthkccbeffonaaaaGreatDoor
open Go.RowKit
-- AT2

theorem At.swap {W W' : World} {y : Ext} {g : Nat} {o : Obj} (h : At (Go.Proofs.YthkccbeffonaaaaGreatDoor.gx W y) g o) (hg : W.heap.size ≤ g) (hs : W'.heap.size = W.heap.size) : At (Go.Proofs.YthkccbeffonaaaaGreatDoor.gx W' y) g o := by
  unfold At at *
  simp only [Go.Proofs.YthkccbeffonaaaaGreatDoor.gx] at *
  rw [Array.getElem?_append_right (by omega)] at h
  rw [Array.getElem?_append_right (by omega), hs]
  exact h
/-- The header of a sector in a block of its own. -/
def hdr (L : Nat) (p : Nat × List Int) : Value := .slice (some ⟨p.1, 0, none⟩) L p.2.length
/-- .. of those that are made, and the others. -/
def hdrs (L n : Nat) (Z : List (Nat × List Int)) : List Value := Z.map (hdr L) ++ List.replicate (n - Z.length) (.slice none 0 0)
theorem hdrs_nil (L n : Nat) : hdrs L n [] = List.replicate n (.slice none 0 0) := by unfold hdrs; simp
theorem hdrs_set (L n : Nat) (Z : List (Nat × List Int)) (p : Nat × List Int) (h : Z.length < n) : (hdrs L n Z).set Z.length (hdr L p) = hdrs L n (Z ++ [p]) := by
  unfold hdrs
  rw [List.set_append_right _ _ (by simp), List.length_map, Nat.sub_self]
  obtain ⟨k, hk⟩ : ∃ k, n - Z.length = k + 1 := ⟨n - Z.length - 1, by omega⟩
  rw [hk, List.replicate_succ, List.set_cons_zero, List.map_append, List.append_assoc, List.length_append, show n - (Z.length + [p].length) = k by simp; omega]
  rfl
theorem hdrs_len (L n : Nat) (Z : List (Nat × List Int)) (h : Z.length ≤ n) : (hdrs L n Z).length = n := by unfold hdrs; simp; omega
theorem hdrs_full (L n : Nat) (Z : List (Nat × List Int)) (h : Z.length = n) : hdrs L n Z = Z.map (hdr L) := by unfold hdrs; rw [h]; simp
/-- Sectors in blocks of their own. -/
structure Secs (b : Nat) (W : World) (L : Nat) (S : Nat → List Int) (Z : List (Nat × List Int)) : Prop where
  at_ : ∀ (i : Nat) (p : Nat × List Int), Z[i]? = some p → b ≤ p.1 ∧ At W p.1 (.cells (bc p.2) 5 (0, 0)) ∧ L ≤ p.2.length ∧ p.2.length ≤ maxLen ∧ Bs p.2 ∧ ∀ j, j < L → gw p.2 j = gw (S i) j
  inc : ∀ (i j : Nat) (p q : Nat × List Int), Z[i]? = some p → Z[j]? = some q → i < j → p.1 < q.1
theorem Secs.nil (b : Nat) (W : World) (L : Nat) (S : Nat → List Int) : Secs b W L S [] := ⟨fun i p h => by simp at h, fun i j p q h => by simp at h⟩
theorem Secs.gx {b : Nat} {W : World} {L : Nat} {S : Nat → List Int} {Z : List (Nat × List Int)} {x : Ext} (h : Secs b W L S Z) : Secs b (Go.Proofs.YthkccbeffonaaaaGreatDoor.gx W x) L S Z :=
  ⟨fun i p hp => by obtain ⟨h1, h2, h3⟩ := h.at_ i p hp; exact ⟨h1, h2.gx, h3⟩, h.inc⟩
theorem Secs.swap {b : Nat} {W W' : World} {y : Ext} {L : Nat} {S : Nat → List Int} {Z : List (Nat × List Int)} (h : Secs b (Go.Proofs.YthkccbeffonaaaaGreatDoor.gx W y) L S Z) (hb : W.heap.size ≤ b) (hs : W'.heap.size = W.heap.size) : Secs b (Go.Proofs.YthkccbeffonaaaaGreatDoor.gx W' y) L S Z :=
  ⟨fun i p hp => by obtain ⟨h1, h2, h3⟩ := h.at_ i p hp; exact ⟨h1, h2.swap (by omega) hs, h3⟩, h.inc⟩
theorem Secs.add {b : Nat} {W : World} {L : Nat} {S : Nat → List Int} {Z : List (Nat × List Int)} {x : Ext} (h : Secs b W L S Z) (g : Nat) (C : List Int) (hg : W.heap.size ≤ g) (hb : b ≤ W.heap.size) (hA : At (Go.Proofs.YthkccbeffonaaaaGreatDoor.gx W x) g (.cells (bc C) 5 (0, 0))) (h1 : L ≤ C.length) (h2 : C.length ≤ maxLen) (h3 : Bs C) (h4 : ∀ j, j < L → gw C j = gw (S Z.length) j) :
    Secs b (Go.Proofs.YthkccbeffonaaaaGreatDoor.gx W x) L S (Z ++ [(g, C)]) := by
  have hx := h.gx (x := x)
  refine ⟨fun i p hp => ?_, fun i j p q hp hq hij => ?_⟩
  · rcases Nat.lt_or_ge i Z.length with hlt | hge
    · rw [List.getElem?_append_left hlt] at hp
      exact hx.at_ i p hp
    · rw [List.getElem?_append_right hge] at hp
      obtain ⟨h0, e⟩ := List.getElem?_eq_some_iff.1 hp
      have hi : i = Z.length := by simp at h0; omega
      subst hi
      simp only [Nat.sub_self, List.getElem_cons_zero] at e
      subst e
      exact ⟨by show b ≤ g; omega, hA, h1, h2, h3, h4⟩
  · rcases Nat.lt_or_ge j Z.length with hlt | hge
    · rw [List.getElem?_append_left hlt] at hq
      rw [List.getElem?_append_left (by omega)] at hp
      exact hx.inc i j p q hp hq hij
    · rw [List.getElem?_append_right hge] at hq
      obtain ⟨h0, e⟩ := List.getElem?_eq_some_iff.1 hq
      have hj : j = Z.length := by simp at h0; omega
      subst hj
      simp only [Nat.sub_self, List.getElem_cons_zero] at e
      subst e
      rw [List.getElem?_append_left hij] at hp
      have := (h.at_ i p hp).2.1.lt
      show p.1 < g
      omega
theorem Secs.tick {b : Nat} {W : World} {L : Nat} {S : Nat → List Int} {Z : List (Nat × List Int)} {x : Ext} {k : Nat} (h : Secs b (Go.Proofs.YthkccbeffonaaaaGreatDoor.gx W x) L S Z) : Secs b (Go.Proofs.YthkccbeffonaaaaGreatDoor.gx W (x.tick k)) L S Z :=
  ⟨fun i p hp => by obtain ⟨h1, h2, h3⟩ := h.at_ i p hp; exact ⟨h1, h2.tick, h3⟩, h.inc⟩
/-- A memory whose blocks are the call's own. -/
structure OMem (b : Nat) (W : World) (m : PM) (gS : Nat) (vW vB : Value) (Z : List (Nat × List Int)) : Prop where
  fl : Z.length = m.sec.length
  base : b ≤ gS
  sec : At W gS (.cells (Z.map (hdr (16 + 97 * m.slots))).toArray 39 (0, 0))
  secs : Secs b W (16 + 97 * m.slots) m.s Z
  wear : Own b W 3 1 vW m.wear.length (iC m.wear)
  bad : Own b W 4 1 vB m.bad.length (qC m.bad)
/-- .. as a value. -/
def oV (m : PM) (gS : Nat) (vW vB : Value) : Value := .agg #[.int .i64 m.slots, .int .i64 m.limit, .slice (some ⟨gS, 0, none⟩) m.sec.length m.sec.length, vW, vB]
theorem make_secs (n : Nat) (hn : n ≤ 64) (w : World) : (Instr.makeSlice 22 (.int .i64 (n : Int)) (.int .i64 (n : Int))).run Tryz.prog w = .ok (.slice (some ⟨w.heap.size, 0, none⟩) n n) (w.alloc (.cells (List.replicate n (Value.slice none 0 0)).toArray 39)) := by
  have hE : Elem 22 39 1 24 := elem_of Tryz.underlying22 (by decide) (z := .slice none 0 0) (by kernel_rfl) (by simp [Value.cells])
  obtain ⟨ht, hp, i, z, hi, hz, hsize, hby, hzs⟩ := hE
  have hzz : z = .slice none 0 0 := by
    have h : (Tryz.prog.info? 39).map (·.zero) = some (some (.slice none 0 0)) := by kernel_rfl
    rw [hi] at h
    simp only [Option.map_some, Option.some.injEq, hz] at h
    exact h
  have := run_make (P := Tryz.prog) w 22 39 i z ht hi hz .i64 .i64 n n (by omega) (Int.le_refl _) (by rw [hby]; omega) (by omega)
  rw [this, hsize, hzz]
  simp only [Int.toNat_natCast, Value.cells, Nat.mul_one]
  have e : madeCells #[Value.slice none 0 0] n = (List.replicate n (Value.slice none 0 0)).toArray := by
    apply Array.toList_inj.1
    rw [toList_madeCells_one]
  rw [e]
theorem Own.swap {W W' : World} {y : Ext} {b : Nat} {e : TypeId} {size : Nat} {v : Value} {n : Nat} {xs : List Value} (h : Own b (Go.Proofs.YthkccbeffonaaaaGreatDoor.gx W y) e size v n xs) (hb : W.heap.size ≤ b) (hs : W'.heap.size = W.heap.size) : Own b (Go.Proofs.YthkccbeffonaaaaGreatDoor.gx W' y) e size v n xs := by
  have h' := h.out
  refine Own.mk' ⟨h'.1, h'.2.imp id ?_⟩
  rintro ⟨g, cap, cur, e1, e2, e3, r⟩
  exact ⟨g, cap, cur, e1, e2, At.swap e3 (by omega) hs, r⟩
theorem Shows.of_gx {xs : List Value} {A : Option Addr} {w W : World} (h : Shows xs A w) (hW : ∃ x, W = Go.Proofs.YthkccbeffonaaaaGreatDoor.gx w x) : Shows xs A W := by
  obtain ⟨x, rfl⟩ := hW
  exact h.gx
theorem Secs.base {b b' : Nat} {W : World} {L : Nat} {S : Nat → List Int} {Z : List (Nat × List Int)} (h : Secs b W L S Z) (hb : b' ≤ b) : Secs b' W L S Z :=
  ⟨fun i p hp => by obtain ⟨h1, h2, h3⟩ := h.at_ i p hp; exact ⟨by omega, h2, h3⟩, h.inc⟩
theorem Secs.app {b : Nat} {W : World} {L : Nat} {S : Nat → List Int} {Z : List (Nat × List Int)} {x y : Ext} (h : Secs b (Go.Proofs.YthkccbeffonaaaaGreatDoor.gx W x) L S Z) : Secs b (Go.Proofs.YthkccbeffonaaaaGreatDoor.gx W (x.app y)) L S Z := by
  rw [← gx_gx]
  exact h.gx
theorem CloneI_n (P : List Int) (n : Nat) (hn : P.length = n) (ad : Addr) (c : Nat) (w : World) (hS : Shows (iC P) (some ad) w) (hm : n ≤ 1048576) :
    Calls Tryz.prog 133 #[.slice (some ad) n c] w fun e w' => ∃ A c x, e = .returned (.slice A n c) ∧ w' = gx w x ∧ Own w.heap.size (gx w x) 3 1 (.slice A n c) n (iC P) := by
  subst hn
  refine (CloneI_any P ad c w hS hm).mono ?_
  rintro e w' ⟨v, x, rfl, rfl, hO⟩
  have hO' := hO
  obtain ⟨A, c, rfl, -⟩ := hO.is
  exact ⟨A, c, x, rfl, rfl, hO'⟩
theorem CloneQ_n (P : List Bool) (n : Nat) (hn : P.length = n) (ad : Addr) (c : Nat) (w : World) (hS : Shows (qC P) (some ad) w) (hm : n ≤ 1048576) :
    Calls Tryz.prog 134 #[.slice (some ad) n c] w fun e w' => ∃ A c x, e = .returned (.slice A n c) ∧ w' = gx w x ∧ Own w.heap.size (gx w x) 4 1 (.slice A n c) n (qC P) := by
  subst hn
  refine (CloneQ_any P ad c w hS hm).mono ?_
  rintro e w' ⟨v, x, rfl, rfl, hO⟩
  have hO' := hO
  obtain ⟨A, c, rfl, -⟩ := hO.is
  exact ⟨A, c, x, rfl, rfl, hO'⟩
theorem CloneB_L (M : List Int) (hM : Bs M) (L : Nat) (hL : M.length = L) (ad : Addr) (c : Nat) (w : World) (hH : HeldB M (some ad) L w) (hm : L ≤ 1048576) :
    Calls Tryz.prog 85 #[.slice (some ad) L c] w fun e w' => ∃ g D x, e = .returned (.slice (some ⟨g, 0, none⟩) L D.length) ∧ w' = gx w x ∧ w.heap.size ≤ g ∧ At (gx w x) g (.cells (bc D) 5 (0, 0)) ∧ L ≤ D.length ∧ D.length ≤ maxLen ∧ Bs D ∧ ∀ j, j < L → gw D j = gw M j := by
  subst hL
  exact CloneB_any M hM ad c w hH hm
theorem HeldB.of_gx {B : List Int} {A : Option Addr} {n : Nat} {w W : World} (h : HeldB B A n w) (hW : ∃ x, W = Go.Proofs.YthkccbeffonaaaaGreatDoor.gx w x) : HeldB B A n W := by
  obtain ⟨x, rfl⟩ := hW
  exact h.gx
set_option maxHeartbeats 1000000 in
set_option maxRecDepth 100000 in
theorem copyMemory_any (m : PM) (hm : Good m) (A B C : Option Addr) (a b c : Nat) (w : World) (hR : RM w m A B C) :
    Calls Tryz.prog 83 #[memV m A B C a b c] w fun e w' => ∃ gS vW vB Z x, e = .returned (oV m gS vW vB) ∧ w' = gx w x ∧ OMem w.heap.size (gx w x) m gS vW vB Z := by
  obtain ⟨hs, hwl, hbl, hlen, hwr, hbs⟩ := hm
  unfold sizesOk at hs
  have hn : m.sec.length ≤ 64 := by omega
  have hmk := make_secs m.sec.length hn
  obtain ⟨gS, oS, rfl, hSc⟩ := hR.sec (by omega)
  have HS := Lib.hid hSc
  have HL := Lib.hid hlen
  have HR := Lib.hid hR
  obtain ⟨L, hL⟩ : ∃ L, L = 16 + 97 * m.slots := ⟨_, rfl⟩
  have hLm : L ≤ 1048576 := by omega
  have HLL := Lib.hid hL
  have E0 := Lib.hid (hdrs_nil L m.sec.length)
  obtain ⟨gW, oW, rfl, -⟩ := hR.wcell (by omega)
  obtain ⟨gB, oB, rfl, -⟩ := hR.bcell (by omega)
  have HW := Lib.hid hR.wear
  have HB := Lib.hid hR.bad
  clear hSc hlen hR hwr hL
  unfold memV
  rw [hwl, hbl]
  have hwk := Lib.hid hwl
  have hbk := Lib.hid hbl
  clear hwl hbl
  go_enter Tryz.func83, Tryz.ntmps83
  go_wp2
  generalize hnn : m.sec.length = n at *
  go_loopw [15] (fun i wr => ∃ (k : Nat) (Z : List (Nat × List Int)), k ≤ n ∧ i = .int .i64 k ∧ Z.length = k ∧ (∃ y, wr = gx ((((w.alloc (.cells #[.int .i64 m.slots, .int .i64 m.limit, .slice (some ⟨gS, oS, none⟩) n a, .slice (some ⟨gW, oW, none⟩) n b, .slice (some ⟨gB, oB, none⟩) n c] 26)).alloc (.cells #[.int .i64 0, .int .i64 0, .slice none 0 0, .slice none 0 0, .slice none 0 0] 26)).alloc (.cells #[.int .i64 m.slots, .int .i64 m.limit, .slice (some ⟨w.heap.size + 1 + 1 + 1, 0, none⟩) n n, .slice (some ⟨gW, oW, none⟩) n b, .slice (some ⟨gB, oB, none⟩) n c] 26)).alloc (.cells (hdrs L n Z).toArray 39)) y) ∧ Secs (w.heap.size + 4) wr L m.s Z) (fun i _ => n - (intOf i).toNat)
  case atStart => exact ⟨0, [], by omega, rfl, rfl, by rw [E0.out]; exact ⟨_, (gx_none _).symm⟩, Secs.nil _ _ _ _⟩
  case round =>
    obtain ⟨k, Z, hk, rfl, hZ, ⟨y, rfl⟩, hSecs⟩ := hrel
    by_cases hlt : k < n
    · obtain ⟨v, hv, B', c', rfl, hl1, hl2, hHB, hBn⟩ := HS.out k (by omega)
      have hl := HL.out k (by omega)
      rw [← HLL.out] at hl
      rw [hl] at hv hHB hBn
      have hlk := hdrs_len L n Z (by omega)
      cases B' with
      | none => exact absurd (hBn rfl) (by have := HLL.out; omega)
      | some ad =>
        have hgS : gS < w.heap.size := World.block_lt_of_cell? w _ hv
        have hg1 : gS < w.heap.size + 1 := by omega
        have hg2 : gS < w.heap.size + 1 + 1 := by omega
        have hg3 : gS < w.heap.size + 1 + 1 + 1 := by omega
        have hg4 : gS < w.heap.size + 1 + 1 + 1 + 1 := by omega
        have HH := Lib.hid hHB
        have hSecs' := Lib.hid hSecs
        clear hHB hBn hSecs hl1 hl2
        go_wp2
        go_region_with (go_at_call 85; go_loud (refine (CloneB_L (m.s k) (hbs k) L hl ad c' _ ?_ hLm).mono ?_; (focus (refine HeldB.of_gx HH.out ?_; exact (by repeat (first | (with_reducible exact Gx.refl _) | (with_reducible assumption) | (with_reducible refine Gx.gx ?_) | (with_reducible refine Gx.alloc ?_) | (with_reducible refine Gx.drew ?_) | (with_reducible refine Gx.drewN ?_) | (with_reducible refine Gx.setRow ?_ (by simp)) | (with_reducible refine Gx.setCell ?_ (by simp)))))); rintro e w' ⟨g, D, z, rfl, rfl, hg, hA, hD1, hD2, hD3, hD4⟩))
        all_goals
          have hset : (hdrs L n Z).set k (.slice (some ⟨g, 0, none⟩) L D.length) = hdrs L n (Z ++ [(g, D)]) := by
            have := hdrs_set L n Z (g, D) (by omega)
            rw [hZ] at this
            exact this
          have h1 := (hSecs'.out.tick (k := 1)).add g D hg (by simp) hA hD1 hD2 hD3 (by rw [hZ]; exact hD4)
          rw [gx_gx] at h1
          go_wp2
          refine ⟨⟨k + 1, Z ++ [(g, D)], by omega, ?_, ?_, ⟨(y.tick 1).app z, ?_⟩, ?_⟩, ?_⟩
          · go_num
          · simp [hZ]
          · first | rfl | rw [hset]
          · first | exact h1.swap (by simp) (by simp) | exact (h1.swap (by simp) (by simp)).tick
          · simp [intOf]; omega
    · obtain rfl : k = n := by omega
      have hSecs' := Lib.hid hSecs
      have hkm : k ≤ 1048576 := by omega
      clear hSecs
      go_wp2_with (first | (go_at_call 133; go_loud (refine (CloneI_n m.wear k hwk.out ⟨gW, oW, none⟩ b _ ?_ hkm).mono ?_; (focus (refine Shows.of_gx HW.out ?_; exact (by repeat (first | (with_reducible exact Gx.refl _) | (with_reducible assumption) | (with_reducible refine Gx.gx ?_) | (with_reducible refine Gx.alloc ?_) | (with_reducible refine Gx.drew ?_) | (with_reducible refine Gx.drewN ?_) | (with_reducible refine Gx.setRow ?_ (by simp)) | (with_reducible refine Gx.setCell ?_ (by simp)))))); rintro e w' ⟨A1, c1, z1, rfl, rfl, hO1⟩)) | (go_at_call 134; go_loud (refine (CloneQ_n m.bad k hbk.out ⟨gB, oB, none⟩ c _ ?_ hkm).mono ?_; (focus (refine Shows.of_gx HB.out ?_; exact (by repeat (first | (with_reducible exact Gx.refl _) | (with_reducible assumption) | (with_reducible refine Gx.gx ?_) | (with_reducible refine Gx.alloc ?_) | (with_reducible refine Gx.drew ?_) | (with_reducible refine Gx.drewN ?_) | (with_reducible refine Gx.setRow ?_ (by simp)) | (with_reducible refine Gx.setCell ?_ (by simp)))))); rintro e w' ⟨A2, c2, z2, rfl, rfl, hO2⟩)))
      have hS1 := (((hSecs'.out).app (y := z1)).app (y := z2))
      rw [gx_gx] at hO1
      have hP1 := hO1.app (y := z2)
      simp only [gx_gx] at hO2
      have key : ∀ W, (∃ x, W = gx w x) → OMem w.heap.size W m (w.heap.size + 1 + 1 + 1) (.slice A1 k c1) (.slice A2 k c2) Z → ∃ gS vW vB Z x, Ending.returned (.agg #[.int .i64 m.slots, .int .i64 m.limit, .slice (some ⟨w.heap.size + 1 + 1 + 1, 0, none⟩) k k, .slice A1 k c1, .slice A2 k c2]) = .returned (oV m gS vW vB) ∧ W = gx w x ∧ OMem w.heap.size (gx w x) m gS vW vB Z := by
        rintro _ ⟨x, rfl⟩ h
        exact ⟨_, _, _, Z, x, by unfold oV; rw [hnn], rfl, h⟩
      refine ret_st1 rfl _ _ (w.heap.size + 1) #[.int .i64 m.slots, .int .i64 m.limit, .slice (some ⟨w.heap.size + 1 + 1 + 1, 0, none⟩) k k, .slice A1 k c1, .slice A2 k c2] rfl rfl (run_loadVar_row _ (w.heap.size + 1) 26 26 _ (0, 0) _ ?_ Tryz.underlying26 rfl (by kernel_rfl)) ?_
      · exact At.gx (At.alloc (At.alloc (At.new' (by simp))))
      · refine key _ ?_ ?_
        · exact (by repeat (first | (with_reducible exact Gx.refl _) | (with_reducible assumption) | (with_reducible refine Gx.gx ?_) | (with_reducible refine Gx.alloc ?_) | (with_reducible refine Gx.drew ?_) | (with_reducible refine Gx.drewN ?_) | (with_reducible refine Gx.setRow ?_ (by simp)) | (with_reducible refine Gx.setCell ?_ (by simp))))
        · refine ⟨by omega, by omega, ?_, ?_, ?_, ?_⟩
          · rw [← HLL.out, ← hdrs_full L k Z hZ]
            exact At.gx (At.new' (by simp))
          · rw [← HLL.out]
            exact (hS1.swap (by simp) (by simp)).base (by omega)
          · rw [hwk.out]
            exact (hP1.swap (by simp) (by simp)).base (by simp; omega)
          · rw [hbk.out]
            exact (hO2.swap (by simp) (by simp)).base (by simp; omega)
end Go.Proofs.YthkccbeffonaaaaGreatDoor

/-
  sectors, where none is headed, and where the first one is: contracts.
-/
namespace Go.Proofs.YthkccbeffonaaaaGreatDoor
open Go.RowKit
-- AT2

/-- No head. -/
def NoHead (D : List Int) : Prop := hsTo D 4 < 1 ∨ 1073741824 < hsTo D 4
/-- What a right memory's sector k shows. -/
theorem RM.sector {w : World} {m : PM} {A B C : Option Addr} (hR : RM w m A B C) (hm : Good m) {L : Nat} (hL : L = 16 + 97 * m.slots) : ∃ g o, A = some ⟨g, o, none⟩ ∧ ∀ k, k < m.sec.length → ∃ b q c, w.cell? ⟨g, o + k, none⟩ = some (.slice (some ⟨b, q, none⟩) L c) ∧ L ≤ c ∧ c ≤ 9223372036854775807 ∧ ∀ j, j < L → w.cell? ⟨b, q + j, none⟩ = some (.int .u8 (gw (m.s k) j)) := by
  have hs := hm.sizes
  unfold sizesOk at hs
  obtain ⟨g, o, e, hc⟩ := hR.sec (by omega)
  refine ⟨g, o, e, fun k hk => ?_⟩
  obtain ⟨v, hv, B', c', rfl, h1, h2, hH, hN⟩ := hc k hk
  have hl := hm.len k hk
  rw [← hL] at hl
  rw [hl] at hv h1 hH
  unfold HeldB at hH
  obtain ⟨b, q, rfl, hcs⟩ := hH (by omega)
  exact ⟨b, q, c', hv, h1, h2, hcs⟩
set_option maxHeartbeats 1000000 in
set_option maxRecDepth 100000 in
theorem sectors_none (m : PM) (hm : Good m) (A B C : Option Addr) (a b c : Nat) (w : World) (hR : RM w m A B C) (hno : ∀ k, k < m.sec.length → NoHead (m.s k)) :
    Calls Tryz.prog 81 #[memV m A B C a b c] w fun e w' => ∃ g x, e = .returned (.slice (some ⟨g, 0, none⟩) 0 0) ∧ w' = gx w x := by
  obtain ⟨L, hL⟩ : ∃ L, L = 16 + 97 * m.slots := ⟨_, rfl⟩
  obtain ⟨gS, oS, rfl, hS⟩ := hR.sector hm hL
  have HS := Lib.hid hS
  have HN := Lib.hid hno
  have hbs := hm.bs
  have hwl := hm.wl
  have hbl := hm.bl
  have hn64 : m.sec.length ≤ 64 := by have := hm.sizes; unfold sizesOk at this; omega
  have hL16 : 16 ≤ L := by omega
  have hmk : ∀ W, (Instr.makeSlice 23 (.int .i64 0) (.int .i64 0)).run Tryz.prog W = .ok (.slice (some ⟨W.heap.size, 0, none⟩) 0 0) (W.alloc (.cells (ic (zerosI 0)) 3)) := fun W => make_ints 0 (by omega) W
  clear hS hno hm hL hR
  unfold memV
  rw [hwl, hbl]
  clear hwl hbl
  generalize hnn : m.sec.length = n at *
  go_enter Tryz.func81, Tryz.ntmps81
  go_wp2
  go_loopw [15, 3] (fun i v wr => ∃ k : Nat, k ≤ n ∧ i = .int .i64 k ∧ v = .slice none 0 0 ∧ ∃ x, wr = gx (w.alloc (.cells #[.int .i64 m.slots, .int .i64 m.limit, .slice (some ⟨gS, oS, none⟩) n a, .slice B n b, .slice C n c] 26)) x) (fun i _ _ => n - (intOf i).toNat)
  case atStart => exact ⟨0, by omega, rfl, rfl, ⟨_, (gx_none _).symm⟩⟩
  case round =>
    obtain ⟨k, hk, rfl, rfl, y, rfl⟩ := hrel
    by_cases hlt : k < n
    · obtain ⟨b', q', c', hv, hc1, hc2, hcs⟩ := HS.out k (by omega)
      have hgS : gS < w.heap.size := World.block_lt_of_cell? w _ hv
      have hg1 : gS < w.heap.size + 1 := by omega
      have HC := Lib.hid hcs
      have hno' := HN.out k (by omega)
      have HN' := Lib.hid hno'
      clear hcs hno' hc1 hc2
      go_wp2_with (go_at_call 34; go_loud (refine (Head_off (m.s k) (hbs k) b' q' L c' hL16 _ ?_ HN'.out).mono ?_; (focus (intro j hj; exact cell_keep_gx (cell_keep_alloc (HC.out j (by omega))))); rintro e w' ⟨rfl, z, rfl⟩))
      go_roundw
      case rel => exact ⟨k + 1, by omega, by go_num, rfl, (by repeat (first | (with_reducible exact Gx.refl _) | (with_reducible assumption) | (with_reducible refine Gx.gx ?_) | (with_reducible refine Gx.alloc ?_) | (with_reducible refine Gx.drew ?_) | (with_reducible refine Gx.drewN ?_) | (with_reducible refine Gx.setRow ?_ (by simp)) | (with_reducible refine Gx.setCell ?_ (by simp))))⟩
      case measure => simp [intOf]; omega
    · obtain rfl : k = n := by omega
      go_wp2_with (go_at_call 129; go_loud (refine (SortFunc_one _ 0 _ (by omega) _ _).mono ?_; rintro e w' ⟨rfl, z, rfl⟩))
      refine wp_loop_once ?_
      go_wp2
      go_ret
      obtain ⟨x, hx⟩ : ∃ x, gx (w.alloc (.cells #[.int .i64 m.slots, .int .i64 m.limit, .slice (some ⟨gS, oS, none⟩) k a, .slice B k b, .slice C k c] 26)) y = gx w x := (by repeat (first | (with_reducible exact Gx.refl _) | (with_reducible assumption) | (with_reducible refine Gx.gx ?_) | (with_reducible refine Gx.alloc ?_) | (with_reducible refine Gx.drew ?_) | (with_reducible refine Gx.drewN ?_) | (with_reducible refine Gx.setRow ?_ (by simp)) | (with_reducible refine Gx.setCell ?_ (by simp))))
      exact ⟨_, _, rfl, ((by repeat (first | (with_reducible exact Gx.refl _) | (with_reducible assumption) | (with_reducible refine Gx.gx ?_) | (with_reducible refine Gx.alloc ?_) | (with_reducible refine Gx.drew ?_) | (with_reducible refine Gx.drewN ?_) | (with_reducible refine Gx.setRow ?_ (by simp)) | (with_reducible refine Gx.setCell ?_ (by simp)))) : ∃ x, _ = gx w x).choose_spec⟩
end Go.Proofs.YthkccbeffonaaaaGreatDoor

/-
  standing, where no sector is headed; copied, of one memory: contracts.
-/
namespace Go.Proofs.YthkccbeffonaaaaGreatDoor
open Go.RowKit
-- AT2

set_option maxHeartbeats 600000 in
set_option maxRecDepth 100000 in
theorem standing_none (m : PM) (hm : Good m) (A B C : Option Addr) (a b c : Nat) (w : World) (hR : RM w m A B C) (hno : ∀ k, k < m.sec.length → NoHead (m.s k)) :
    Calls Tryz.prog 112 #[memV m A B C a b c] w fun e w' => e = .returned (.agg #[.int .i64 (-1), .int .i64 0]) ∧ ∃ x, w' = gx w x := by
  have HR := Lib.hid hR
  have hs : ∀ W, (∃ x, W = gx w x) → Calls Tryz.prog 81 #[.agg #[.int .i64 m.slots, .int .i64 m.limit, .slice A m.sec.length a, .slice B m.wear.length b, .slice C m.bad.length c]] W fun e w' => ∃ g x, e = .returned (.slice (some ⟨g, 0, none⟩) 0 0) ∧ w' = gx W x := fun W hW => sectors_none m hm A B C a b c W (hR.of_gx hW) hno
  have Hs := Lib.hid hs
  clear hs hno hm hR
  unfold memV
  go_enter Tryz.func112, Tryz.ntmps112
  go_wp2_with (go_at_call 81; go_loud (refine (Hs.out _ ?_).mono ?_; (focus (exact (by repeat (first | (with_reducible exact Gx.refl _) | (with_reducible assumption) | (with_reducible refine Gx.gx ?_) | (with_reducible refine Gx.alloc ?_) | (with_reducible refine Gx.drew ?_) | (with_reducible refine Gx.drewN ?_) | (with_reducible refine Gx.setRow ?_ (by simp)) | (with_reducible refine Gx.setCell ?_ (by simp)))))); rintro e w' ⟨g, z, rfl, rfl⟩))
  refine ret_st1 rfl _ _ (w.heap.size + 1) #[.int .i64 (-1), .int .i64 0] rfl rfl (run_loadVar_row _ (w.heap.size + 1) 150 150 _ (0, 0) _ ?_ Tryz.underlying150 rfl (by kernel_rfl)) ?_
  · exact At.gx (At.new' (by simp))
  · exact ⟨rfl, (by repeat (first | (with_reducible exact Gx.refl _) | (with_reducible assumption) | (with_reducible refine Gx.gx ?_) | (with_reducible refine Gx.alloc ?_) | (with_reducible refine Gx.drew ?_) | (with_reducible refine Gx.drewN ?_) | (with_reducible refine Gx.setRow ?_ (by simp)) | (with_reducible refine Gx.setCell ?_ (by simp))))⟩
theorem OMem.swap {W W' : World} {y : Ext} {b : Nat} {m : PM} {gS : Nat} {vW vB : Value} {Z : List (Nat × List Int)} (h : OMem b (Go.Proofs.YthkccbeffonaaaaGreatDoor.gx W y) m gS vW vB Z) (hb : W.heap.size ≤ b) (hs : W'.heap.size = W.heap.size) : OMem b (Go.Proofs.YthkccbeffonaaaaGreatDoor.gx W' y) m gS vW vB Z :=
  ⟨h.fl, h.base, h.sec.swap (by have := h.base; omega) hs, h.secs.swap hb hs, h.wear.swap hb hs, h.bad.swap hb hs⟩
theorem OMem.rebase {W : World} {b b' : Nat} {m : PM} {gS : Nat} {vW vB : Value} {Z : List (Nat × List Int)} (h : OMem b W m gS vW vB Z) (hb : b' ≤ b) : OMem b' W m gS vW vB Z :=
  ⟨h.fl, by have := h.base; omega, h.sec, h.secs.base hb, h.wear.base hb, h.bad.base hb⟩
theorem OMem.gx {W : World} {x : Ext} {b : Nat} {m : PM} {gS : Nat} {vW vB : Value} {Z : List (Nat × List Int)} (h : OMem b W m gS vW vB Z) : OMem b (Go.Proofs.YthkccbeffonaaaaGreatDoor.gx W x) m gS vW vB Z :=
  ⟨h.fl, h.base, h.sec.gx, h.secs.gx, h.wear.gx, h.bad.gx⟩
theorem OMem.alloc {W : World} {ob : Obj} {b : Nat} {m : PM} {gS : Nat} {vW vB : Value} {Z : List (Nat × List Int)} (h : OMem b W m gS vW vB Z) : OMem b (W.alloc ob) m gS vW vB Z := by
  rw [alloc_is]; exact h.gx
theorem OMem.tick {W : World} {x : Ext} {k : Nat} {b : Nat} {m : PM} {gS : Nat} {vW vB : Value} {Z : List (Nat × List Int)} (h : OMem b (Go.Proofs.YthkccbeffonaaaaGreatDoor.gx W x) m gS vW vB Z) : OMem b (Go.Proofs.YthkccbeffonaaaaGreatDoor.gx W (x.tick k)) m gS vW vB Z :=
  ⟨h.fl, h.base, h.sec.tick, h.secs.tick, h.wear.tick, h.bad.tick⟩
theorem OMem.rm {W : World} {b : Nat} {m : PM} {gS : Nat} {A1 A2 : Option Addr} {n1 n2 c1 c2 : Nat} {Z : List (Nat × List Int)} (hm : Good m) (h : OMem b W m gS (.slice A1 n1 c1) (.slice A2 n2 c2) Z) : RM W m (some ⟨gS, 0, none⟩) A1 A2 := by
  have shows : ∀ {e : TypeId} {A : Option Addr} {k c n : Nat} {xs : List Value}, Own b W e 1 (.slice A k c) n xs → Shows xs A W := by
    intro e A k c n xs hO
    obtain ⟨A', c', e1, -, -, -, hS⟩ := hO.is
    simp only [Value.slice.injEq] at e1
    obtain ⟨rfl, rfl, rfl⟩ := e1
    exact hS
  refine ⟨fun h0 => ⟨gS, 0, rfl, fun i hi => ?_⟩, shows h.wear, shows h.bad⟩
  have hi' : i < Z.length := by rw [h.fl]; exact hi
  obtain ⟨p, hp⟩ : ∃ p, Z[i]? = some p := ⟨_, List.getElem?_eq_getElem hi'⟩
  obtain ⟨h1, h2, h3, h4, h5, h6⟩ := h.secs.at_ i p hp
  have hl := hm.len i hi
  refine ⟨hdr (16 + 97 * m.slots) p, ?_, some ⟨p.1, 0, none⟩, p.2.length, ?_, ?_, ?_, ?_, fun h => by cases h⟩
  · rw [Nat.zero_add, cell_of_row W gS _ _ _ _ h.sec]
    simp [hp]
  · unfold hdr
    rw [hl]
  · omega
  · simp only [maxLen] at h4
    omega
  · rw [hl]
    exact HeldB.part (C := p.2) (o := 0) h2 (by omega) (fun j hj => by rw [Nat.zero_add]; exact h6 j hj)
/-- The cells of a memory that is a call's own. -/
def oC (m : PM) (gS : Nat) (vW vB : Value) : Array Value := #[.int .i64 m.slots, .int .i64 m.limit, .slice (some ⟨gS, 0, none⟩) m.sec.length m.sec.length, vW, vB]
def zM : Array Value := #[.int .i64 0, .int .i64 0, .slice none 0 0, .slice none 0 0, .slice none 0 0]
theorem make_mem (w : World) : (Instr.makeSlice 61 (.int .i64 1) (.int .i64 1)).run Tryz.prog w = .ok (.slice (some ⟨w.heap.size, 0, none⟩) 1 1) (w.alloc (.cells #[.int .i64 0, .int .i64 0, .slice none 0 0, .slice none 0 0, .slice none 0 0] 26)) := by
  have h : (Tryz.prog.info? 26).map (fun i => (i.zero, i.size, decide (i.bytes ≤ 1000))) = some (some (.agg zM), 5, true) := by kernel_rfl
  obtain ⟨i, hi, h2⟩ := Option.map_eq_some_iff.1 h
  simp only [Prod.mk.injEq, decide_eq_true_eq] at h2
  have := run_make (P := Tryz.prog) w 61 26 i _ Tryz.underlying61 hi h2.1 .i64 .i64 1 1 (by omega) (Int.le_refl _) (by omega) (by omega)
  rw [this, h2.2.1]
  have e : madeCells zM 5 = #[.int .i64 0, .int .i64 0, .slice none 0 0, .slice none 0 0, .slice none 0 0] := by kernel_rfl
  show Result.ok (Value.slice (some ⟨w.heap.size, 0, none⟩) 1 1) (w.alloc (.cells (madeCells zM 5) 26)) = _
  rw [e]
set_option maxHeartbeats 600000 in
set_option maxRecDepth 100000 in
theorem copied_one (m : PM) (hm : Good m) (A B C : Option Addr) (a b c g o cap : Nat) (w : World) (hF : Five w g o m A B C a b c) (hR : RM w m A B C) :
    Calls Tryz.prog 111 #[.agg #[.slice (some ⟨g, o, none⟩) 1 cap]] w fun e w' => ∃ gm gS vW vB Z x, e = .returned (.agg #[.slice (some ⟨gm, 0, none⟩) 1 1]) ∧ w' = gx w x ∧ w.heap.size ≤ gm ∧ At (gx w x) gm (.cells (oC m gS vW vB) 26 (0, 0)) ∧ OMem w.heap.size (gx w x) m gS vW vB Z := by
  have hg : g < w.heap.size := World.block_lt_of_cell? w _ hF.c0
  obtain ⟨c0, c1, c2, c3, c4⟩ := hF
  have HR := Lib.hid hR
  have hmk := make_mem
  have hg1 : g < w.heap.size + 1 := by omega
  have hg2 : g < w.heap.size + 1 + 1 := by omega
  have hg3 : g < w.heap.size + 1 + 1 + 1 := by omega
  have hg4 : g < w.heap.size + 1 + 1 + 1 + 1 := by omega
  clear hR
  go_enter Tryz.func111, Tryz.ntmps111
  go_wp2
  refine wp_loop_rounds 2 ?_
  rw [rounds_succ]
  go_wp2_with (go_at_call 83; go_loud (refine (copyMemory_any m hm A B C a b c _ (RM.of_gx HR.out ?_)).mono ?_; (focus (exact (by repeat (first | (with_reducible exact Gx.refl _) | (with_reducible assumption) | (with_reducible refine Gx.gx ?_) | (with_reducible refine Gx.alloc ?_) | (with_reducible refine Gx.drew ?_) | (with_reducible refine Gx.drewN ?_) | (with_reducible refine Gx.setRow ?_ (by simp)) | (with_reducible refine Gx.setCell ?_ (by simp)))))); rintro e w' ⟨gS, vW, vB, Z, z, rfl, rfl, hO⟩; obtain ⟨A1, c1, rfl, -⟩ := hO.wear.is; obtain ⟨A2, c2, rfl, -⟩ := hO.bad.is; unfold oV))
  rw [rounds_succ]
  go_wp2
  have key : ∀ W, (∃ x, W = gx w x) → At W (w.heap.size + 1 + 1) (.cells (oC m gS (.slice A1 m.wear.length c1) (.slice A2 m.bad.length c2)) 26 (0, 0)) → OMem w.heap.size W m gS (.slice A1 m.wear.length c1) (.slice A2 m.bad.length c2) Z → ∃ gm gS vW vB Z x, Ending.returned (.agg #[.slice (some ⟨w.heap.size + 1 + 1, 0, none⟩) 1 1]) = .returned (.agg #[.slice (some ⟨gm, 0, none⟩) 1 1]) ∧ W = gx w x ∧ w.heap.size ≤ gm ∧ At (gx w x) gm (.cells (oC m gS vW vB) 26 (0, 0)) ∧ OMem w.heap.size (gx w x) m gS vW vB Z := by
    rintro _ ⟨x, rfl⟩ h1 h2
    exact ⟨_, _, _, _, Z, x, rfl, rfl, by omega, h1, h2⟩
  refine ret_st1 rfl _ _ (w.heap.size + 1) #[.slice (some ⟨w.heap.size + 1 + 1, 0, none⟩) 1 1] rfl rfl (run_loadVar_row _ (w.heap.size + 1) 132 132 _ (0, 0) _ ?_ Tryz.underlying132 rfl (by kernel_rfl)) ?_
  · exact At.gx (At.alloc (At.alloc (At.new' (by simp))))
  · refine key _ ?_ ?_ ?_
    · exact (by repeat (first | (with_reducible exact Gx.refl _) | (with_reducible assumption) | (with_reducible refine Gx.gx ?_) | (with_reducible refine Gx.alloc ?_) | (with_reducible refine Gx.drew ?_) | (with_reducible refine Gx.drewN ?_) | (with_reducible refine Gx.setRow ?_ (by simp)) | (with_reducible refine Gx.setCell ?_ (by simp))))
    · exact At.gx (At.alloc (At.new' (by simp)))
    · exact (hO.swap (by simp) (by simp)).rebase (by simp; omega)
end Go.Proofs.YthkccbeffonaaaaGreatDoor
