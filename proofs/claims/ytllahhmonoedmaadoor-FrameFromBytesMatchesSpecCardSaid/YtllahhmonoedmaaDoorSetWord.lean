/-
  SetWord, the program's and the reference's: contracts, and what both leave.
-/
import Derived.Test.YtllahhmonoedmaaDoorRFrame
namespace Go.Proofs.YtllahhmonoedmaaDoor
open Go.RowKit
-- AT2

theorem gw_wrI (C : List Int) (q i : Nat) (v : Int) (h : q + i / 2 * 3 + 2 < C.length) (x : Nat) : gw (wrI C q i v) x =
    if i % 2 = 0 then (if x = q + (i / 2 * 3 + 1) then v % 16 * 16 + gw C (q + (i / 2 * 3 + 1)) % 16 else if x = q + i / 2 * 3 then v / 16 else gw C x)
    else (if x = q + (i / 2 * 3 + 2) then v % 256 else if x = q + (i / 2 * 3 + 1) then gw C (q + (i / 2 * 3 + 1)) / 16 * 16 + v / 256 else gw C x) := by
  unfold wrI
  split
  · rw [gw_set _ _ _ _ (by rw [List.length_set]; omega), gw_set _ _ _ _ (by omega)]
  · rw [gw_set _ _ _ _ (by rw [List.length_set]; omega), gw_set _ _ _ _ (by omega)]
theorem rdI_0 (B : List Int) (p : Nat) : rdI B (2 * p) = gw B (p * 3) * 16 + gw B (p * 3 + 1) / 16 := by
  unfold rdI; rw [if_pos (by omega), show 2 * p / 2 = p by omega]
theorem rdI_1 (B : List Int) (p : Nat) : rdI B (2 * p + 1) = gw B (p * 3 + 1) % 16 * 256 + gw B (p * 3 + 2) := by
  unfold rdI; rw [if_neg (by omega), show (2 * p + 1) / 2 = p by omega]
theorem by_set (M : List Int) (hM : Bs M) (q i : Nat) (v : Int) (hi : i < 64) (hq : q + 96 ≤ M.length) (j : Nat) (hj : j < 96) : byI ((rdF (M.drop q)).set i v) j = gw (wrI M q i v) (q + j) := by
  have gG : ∀ t, t < 64 → gw ((rdF (M.drop q)).set i v) t = if t = i then v else rdI (M.drop q) t := fun t ht => by
    rw [gw_set _ _ _ _ (by rw [rdF_len]; exact hi), gw_rdF _ t ht]
  rw [gw_wrI M q i v (by omega)]
  obtain ⟨p, hp⟩ : ∃ p, p = j / 3 := ⟨_, rfl⟩
  have hp32 : p < 32 := by omega
  have g0 := gG (2 * p) (by omega)
  have g1 := gG (2 * p + 1) (by omega)
  rw [rdI_0, gw_drop, gw_drop] at g0
  rw [rdI_1, gw_drop, gw_drop] at g1
  have m0 := hM (q + p * 3)
  have m1 := hM (q + (p * 3 + 1))
  have m2 := hM (q + (p * 3 + 2))
  have r : j = p * 3 ∨ j = p * 3 + 1 ∨ j = p * 3 + 2 := by omega
  by_cases a : i = 2 * p
  · subst a
    rw [if_pos rfl] at g0
    rw [if_neg (by omega)] at g1
    rw [if_pos (show 2 * p % 2 = 0 by omega), show 2 * p / 2 = p by omega]
    rcases r with rfl | rfl | rfl
    · rw [byI_0, g0, if_neg (by omega), if_pos rfl]
    · rw [byI_1, g0, g1, if_pos rfl]; omega
    · rw [byI_2, g1, if_neg (by omega), if_neg (by omega)]; omega
  · by_cases b : i = 2 * p + 1
    · subst b
      rw [if_neg (by omega)] at g0
      rw [if_pos rfl] at g1
      rw [if_neg (show ¬ (2 * p + 1) % 2 = 0 by omega), show (2 * p + 1) / 2 = p by omega]
      rcases r with rfl | rfl | rfl
      · rw [byI_0, g0, if_neg (by omega), if_neg (by omega)]; omega
      · rw [byI_1, g0, g1, if_neg (by omega), if_pos rfl]; omega
      · rw [byI_2, g1, if_pos rfl]
    · rw [if_neg (by omega)] at g0 g1
      have e : (if i % 2 = 0 then (if q + j = q + (i / 2 * 3 + 1) then v % 16 * 16 + gw M (q + (i / 2 * 3 + 1)) % 16 else if q + j = q + i / 2 * 3 then v / 16 else gw M (q + j))
          else (if q + j = q + (i / 2 * 3 + 2) then v % 256 else if q + j = q + (i / 2 * 3 + 1) then gw M (q + (i / 2 * 3 + 1)) / 16 * 16 + v / 256 else gw M (q + j))) = gw M (q + j) := by
        split
        · rw [if_neg (by omega), if_neg (by omega)]
        · rw [if_neg (by omega), if_neg (by omega)]
      rw [e]
      rcases r with rfl | rfl | rfl
      · rw [byI_0, g0]; omega
      · rw [byI_1, g0, g1]; omega
      · rw [byI_2, g1]; omega
/-- What SetWord leaves of the slice and of the bytes around it. -/
theorem set_around {M C : List Int} {q i : Nat} {v : Int} (hM : Bs M) (hr : Around M C) (h : q + 96 ≤ M.length) (hi : i < 64) :
    (∀ j, j < M.length → gw (wrI C (5 + q) i v) (5 + j) = gw (putAt M q (packF ((rdF (M.drop q)).set i v))) j) ∧ (∀ j, j < 5 → gw (wrI C (5 + q) i v) j = gw [1, 2, 3, 4, 5] j) ∧ (∀ j, j < 7 → gw (wrI C (5 + q) i v) (5 + M.length + j) = gw [9, 8, 7, 6, 5, 4, 3] j) := by
  have hl := hr.len
  refine ⟨fun j hj => ?_, fun j hj => ?_, fun j hj => ?_⟩
  · have e : gw (wrI C (5 + q) i v) (5 + j) = gw (wrI M q i v) j := by
      have c1 : gw C (5 + q + (i / 2 * 3 + 1)) = gw M (q + (i / 2 * 3 + 1)) := by rw [← hr.mid _ (by omega)]; congr 1; omega
      rw [gw_wrI C (5 + q) i v (by omega), gw_wrI M q i v (by omega), hr.mid j hj, c1]
      split
      · by_cases x1 : j = q + (i / 2 * 3 + 1)
        · rw [if_pos (by omega), if_pos x1]
        · rw [if_neg (by omega), if_neg x1]
          by_cases x2 : j = q + i / 2 * 3
          · rw [if_pos (by omega), if_pos x2]
          · rw [if_neg (by omega), if_neg x2]
      · by_cases x1 : j = q + (i / 2 * 3 + 2)
        · rw [if_pos (by omega), if_pos x1]
        · rw [if_neg (by omega), if_neg x1]
          by_cases x2 : j = q + (i / 2 * 3 + 1)
          · rw [if_pos (by omega), if_pos x2]
          · rw [if_neg (by omega), if_neg x2]
    rw [e, gw_putAt _ M q j (by rw [packF_len]; exact h), packF_len]
    by_cases c : q ≤ j ∧ j < q + 96
    · rw [if_pos c, gw_packF _ _ (by omega), by_set M hM q i v hi h _ (by omega)]; congr 1; omega
    · rw [if_neg c, gw_wrI M q i v (by omega)]
      split
      · rw [if_neg (by omega), if_neg (by omega)]
      · rw [if_neg (by omega), if_neg (by omega)]
  · rw [gw_wrI C (5 + q) i v (by omega)]
    split
    · rw [if_neg (by omega), if_neg (by omega)]; exact hr.pre j hj
    · rw [if_neg (by omega), if_neg (by omega)]; exact hr.pre j hj
  · rw [gw_wrI C (5 + q) i v (by omega)]
    split
    · rw [if_neg (by omega), if_neg (by omega)]; exact hr.post j hj
    · rw [if_neg (by omega), if_neg (by omega)]; exact hr.post j hj

set_option maxHeartbeats 600000 in
theorem SetWord_bad (A : Option Addr) (n c : Nat) (at_ i v : Int) (hm : n ≤ 9223372036854775807) (ha : at_ ≤ 9223372036854775807) (w : World) (E : Int) (he : placeE n at_ 96 = E) (hE : E ≠ 0) :
    Calls Tryd.prog 66 #[.slice A n c, .int .i64 at_, .int .i64 i, .int .i64 v] w fun e w' => e = .returned (.int .i64 E) ∧ ∃ x, w' = gx w x := by
  have hb : (E != 0) = true := by rw [bne_iff_ne]; exact hE
  have HE := Lib.hid he
  clear he
  go_enter Tryd.func66, Tryd.ntmps66
  go_wp2_with (go_at_call 106; refine (inPlace_bad A n c at_ hm ha _ E HE.out hE).mono ?_; rintro e w' ⟨rfl, rfl⟩)
  go_ret
  exact ⟨rfl, (by repeat (first | (with_reducible exact Gx.refl _) | (with_reducible assumption) | (with_reducible refine Gx.gx ?_) | (with_reducible refine Gx.alloc ?_) | (with_reducible refine Gx.drew ?_) | (with_reducible refine Gx.drewN ?_) | (with_reducible refine Gx.setRow ?_ (by simp)) | (with_reducible refine Gx.setCell ?_ (by simp))))⟩
/-- Is a number outside the places or the words? -/
def offB (i v : Int) : Bool := decide (i < 0) || (decide (63 < i) || (decide (v < 0) || decide (4095 < v)))

set_option maxHeartbeats 600000 in
set_option maxRecDepth 100000 in
theorem SetWord_off (g o n c q : Nat) (i v : Int) (hb : offB i v = true) (hm : n ≤ 9223372036854775807) (hnc : n ≤ c) (hcm : c ≤ 9223372036854775807) (h : q + 96 ≤ n) (w : World) :
    Calls Tryd.prog 66 #[.slice (some ⟨g, o, none⟩) n c, .int .i64 q, .int .i64 i, .int .i64 v] w fun e w' => e = .returned (.int .i64 9) ∧ ∃ x, w' = gx w x := by
  unfold offB at hb
  simp only [Bool.or_eq_true, decide_eq_true_eq] at hb
  by_cases h0 : i < 0
  · clear hb
    go_enter Tryd.func66, Tryd.ntmps66
    go_wp2_with (go_at_call 106; refine (inPlace_good g o n c q hm hnc hcm h _).mono ?_; rintro e w' ⟨rfl, rfl⟩)
    go_ret
    exact ⟨rfl, (by repeat (first | (with_reducible exact Gx.refl _) | (with_reducible assumption) | (with_reducible refine Gx.gx ?_) | (with_reducible refine Gx.alloc ?_) | (with_reducible refine Gx.drew ?_) | (with_reducible refine Gx.drewN ?_) | (with_reducible refine Gx.setRow ?_ (by simp)) | (with_reducible refine Gx.setCell ?_ (by simp))))⟩
  · by_cases h1 : 63 < i
    · clear hb
      go_enter Tryd.func66, Tryd.ntmps66
      go_wp2_with (go_at_call 106; refine (inPlace_good g o n c q hm hnc hcm h _).mono ?_; rintro e w' ⟨rfl, rfl⟩)
      go_ret
      exact ⟨rfl, (by repeat (first | (with_reducible exact Gx.refl _) | (with_reducible assumption) | (with_reducible refine Gx.gx ?_) | (with_reducible refine Gx.alloc ?_) | (with_reducible refine Gx.drew ?_) | (with_reducible refine Gx.drewN ?_) | (with_reducible refine Gx.setRow ?_ (by simp)) | (with_reducible refine Gx.setCell ?_ (by simp))))⟩
    · by_cases h2 : v < 0
      · clear hb
        go_enter Tryd.func66, Tryd.ntmps66
        go_wp2_with (go_at_call 106; refine (inPlace_good g o n c q hm hnc hcm h _).mono ?_; rintro e w' ⟨rfl, rfl⟩)
        go_ret
        exact ⟨rfl, (by repeat (first | (with_reducible exact Gx.refl _) | (with_reducible assumption) | (with_reducible refine Gx.gx ?_) | (with_reducible refine Gx.alloc ?_) | (with_reducible refine Gx.drew ?_) | (with_reducible refine Gx.drewN ?_) | (with_reducible refine Gx.setRow ?_ (by simp)) | (with_reducible refine Gx.setCell ?_ (by simp))))⟩
      · have h3 : 4095 < v := by omega
        clear hb
        go_enter Tryd.func66, Tryd.ntmps66
        go_wp2_with (go_at_call 106; refine (inPlace_good g o n c q hm hnc hcm h _).mono ?_; rintro e w' ⟨rfl, rfl⟩)
        go_ret
        exact ⟨rfl, (by repeat (first | (with_reducible exact Gx.refl _) | (with_reducible assumption) | (with_reducible refine Gx.gx ?_) | (with_reducible refine Gx.alloc ?_) | (with_reducible refine Gx.drew ?_) | (with_reducible refine Gx.drewN ?_) | (with_reducible refine Gx.setRow ?_ (by simp)) | (with_reducible refine Gx.setCell ?_ (by simp))))⟩

set_option maxHeartbeats 600000 in
set_option maxRecDepth 100000 in
theorem SetWord_good (C : List Int) (hC : Bs C) (g o n c q i : Nat) (v : Int) (hi : i < 64) (v0 : 0 ≤ v) (v1 : v ≤ 4095) (hm : n ≤ 9223372036854775807) (hnc : n ≤ c) (hcm : c ≤ 9223372036854775807) (h : q + 96 ≤ n) (hq : o + q + 96 ≤ C.length) (w : World) (hA : At w g (.cells (bc C) 5 (0, 0))) :
    Calls Tryd.prog 66 #[.slice (some ⟨g, o, none⟩) n c, .int .i64 q, .int .i64 i, .int .i64 v] w fun e w' => e = .returned (.int .i64 0) ∧ ∃ x, w' = gx (w.setRow g (bc (wrI C (o + q) i v))) x := by
  have hg := hA.lt
  go_enter Tryd.func66, Tryd.ntmps66
  go_wp2_with (first | (go_at_call 106; refine (inPlace_good g o n c q hm hnc hcm h _).mono ?_; rintro e w' ⟨rfl, rfl⟩) | (go_at_call 113; refine (writeWord_any C hC (o + q) i hi hq v v0 v1 _ g hA).mono ?_; rintro e w' ⟨rfl, z, rfl⟩))
  go_ret
  exact ⟨rfl, (by repeat (first | (with_reducible exact Gx.refl _) | (with_reducible assumption) | (with_reducible refine Gx.gx ?_) | (with_reducible refine Gx.alloc ?_) | (with_reducible refine Gx.drew ?_) | (with_reducible refine Gx.drewN ?_) | (with_reducible refine Gx.setRow ?_ (by simp)) | (with_reducible refine Gx.setCell ?_ (by simp))))⟩

set_option maxHeartbeats 600000 in
theorem RSetWord_bad (A : Option Addr) (n c : Nat) (at_ i v : Int) (hm : n ≤ 9223372036854775807) (ha : at_ ≤ 9223372036854775807) (w : World) (E : Int) (he : placeE n at_ 96 = E) (hE : E ≠ 0) :
    Calls Tryd.prog 65 #[.slice A n c, .int .i64 at_, .int .i64 i, .int .i64 v] w fun e w' => e = .returned (.tuple #[.slice A n c, .int .i64 E]) ∧ ∃ x, w' = gx w x := by
  have hb : (E != 0) = true := by rw [bne_iff_ne]; exact hE
  clear hE
  go_enter Tryd.func65, Tryd.ntmps65
  go_wp2_with (go_at_call 108; refine (Place_any A n c at_ 96 hm ha (by decide) _).mono ?_; rintro e w' ⟨rfl, rfl⟩)
  go_ret2
  exact ⟨rfl, (by repeat (first | (with_reducible exact Gx.refl _) | (with_reducible assumption) | (with_reducible refine Gx.gx ?_) | (with_reducible refine Gx.alloc ?_) | (with_reducible refine Gx.drew ?_) | (with_reducible refine Gx.drewN ?_) | (with_reducible refine Gx.setRow ?_ (by simp)) | (with_reducible refine Gx.setCell ?_ (by simp))))⟩

set_option maxHeartbeats 600000 in
set_option maxRecDepth 100000 in
theorem RSetWord_off (A : Option Addr) (n c q : Nat) (i v : Int) (hb : offB i v = true) (hm : n ≤ 9223372036854775807) (h : q + 96 ≤ n) (w : World) :
    Calls Tryd.prog 65 #[.slice A n c, .int .i64 q, .int .i64 i, .int .i64 v] w fun e w' => e = .returned (.tuple #[.slice A n c, .int .i64 9]) ∧ ∃ x, w' = gx w x := by
  have he : placeE n q 96 = 0 := by unfold placeE; rw [if_neg (by omega), if_neg (by omega)]
  unfold offB at hb
  simp only [Bool.or_eq_true, decide_eq_true_eq] at hb
  by_cases h0 : i < 0
  · clear hb
    go_enter Tryd.func65, Tryd.ntmps65
    go_wp2_with (go_at_call 108; refine (Place_any A n c q 96 hm (by omega) (by decide) _).mono ?_; rintro e w' ⟨rfl, rfl⟩)
    go_ret2
    exact ⟨rfl, (by repeat (first | (with_reducible exact Gx.refl _) | (with_reducible assumption) | (with_reducible refine Gx.gx ?_) | (with_reducible refine Gx.alloc ?_) | (with_reducible refine Gx.drew ?_) | (with_reducible refine Gx.drewN ?_) | (with_reducible refine Gx.setRow ?_ (by simp)) | (with_reducible refine Gx.setCell ?_ (by simp))))⟩
  · by_cases h1 : 63 < i
    · clear hb
      go_enter Tryd.func65, Tryd.ntmps65
      go_wp2_with (go_at_call 108; refine (Place_any A n c q 96 hm (by omega) (by decide) _).mono ?_; rintro e w' ⟨rfl, rfl⟩)
      go_ret2
      exact ⟨rfl, (by repeat (first | (with_reducible exact Gx.refl _) | (with_reducible assumption) | (with_reducible refine Gx.gx ?_) | (with_reducible refine Gx.alloc ?_) | (with_reducible refine Gx.drew ?_) | (with_reducible refine Gx.drewN ?_) | (with_reducible refine Gx.setRow ?_ (by simp)) | (with_reducible refine Gx.setCell ?_ (by simp))))⟩
    · by_cases h2 : v < 0
      · clear hb
        go_enter Tryd.func65, Tryd.ntmps65
        go_wp2_with (go_at_call 108; refine (Place_any A n c q 96 hm (by omega) (by decide) _).mono ?_; rintro e w' ⟨rfl, rfl⟩)
        go_ret2
        exact ⟨rfl, (by repeat (first | (with_reducible exact Gx.refl _) | (with_reducible assumption) | (with_reducible refine Gx.gx ?_) | (with_reducible refine Gx.alloc ?_) | (with_reducible refine Gx.drew ?_) | (with_reducible refine Gx.drewN ?_) | (with_reducible refine Gx.setRow ?_ (by simp)) | (with_reducible refine Gx.setCell ?_ (by simp))))⟩
      · have h3 : 4095 < v := by omega
        clear hb
        go_enter Tryd.func65, Tryd.ntmps65
        go_wp2_with (go_at_call 108; refine (Place_any A n c q 96 hm (by omega) (by decide) _).mono ?_; rintro e w' ⟨rfl, rfl⟩)
        go_ret2
        exact ⟨rfl, (by repeat (first | (with_reducible exact Gx.refl _) | (with_reducible assumption) | (with_reducible refine Gx.gx ?_) | (with_reducible refine Gx.alloc ?_) | (with_reducible refine Gx.drew ?_) | (with_reducible refine Gx.drewN ?_) | (with_reducible refine Gx.setRow ?_ (by simp)) | (with_reducible refine Gx.setCell ?_ (by simp))))⟩

set_option maxHeartbeats 1000000 in
set_option maxRecDepth 100000 in
theorem RSetWord_good (M : List Int) (hM : Bs M) (A : Option Addr) (c q i : Nat) (v : Int) (hi : i < 64) (v0 : 0 ≤ v) (v1 : v ≤ 4095) (h : q + 96 ≤ M.length) (w : World) (hH : HeldB M A M.length w) (hm : M.length ≤ 140737488355328) (hlc : M.length ≤ c) (hcm : c ≤ maxLen) :
    Calls Tryd.prog 65 #[.slice A M.length c, .int .i64 q, .int .i64 i, .int .i64 v] w fun e w' => ∃ g C x, e = .returned (.tuple #[.slice (some ⟨g, 0, none⟩) M.length C.length, .int .i64 0]) ∧
      w' = gx w x ∧ w.heap.size ≤ g ∧ At (gx w x) g (.cells (bc C) 5 (0, 0)) ∧ With M (packF ((rdF (M.drop q)).set i v)) q C := by
  have he : placeE M.length q 96 = 0 := by unfold placeE; rw [if_neg (by omega), if_neg (by omega)]
  have hH0 := hH
  unfold HeldB at hH
  obtain ⟨b, o, rfl, hc⟩ := hH (by omega)
  have hrl := rdF_len (M.drop q)
  have hrb : Fr (rdF (M.drop q)) := ⟨hrl, fun k => by
    rcases Nat.lt_or_ge k 64 with hk | hk
    · have := rdI_bd (hM.drop q) k
      rw [gw_rdF _ k hk]; omega
    · have : gw (rdF (M.drop q)) k = 0 := by unfold gw; simp [List.getD, List.getElem?_eq_none (show (rdF (M.drop q)).length ≤ k by omega)]
      rw [this]; decide⟩
  have hrn : Narrow (rdF (M.drop q)) := fun k hk => by have := rdI_bd (hM.drop q) k; rw [gw_rdF _ k hk]; omega
  have hf : Fr ((rdF (M.drop q)).set i v) := hrb.set i v hi v0 (by omega)
  have hn : Narrow ((rdF (M.drop q)).set i v) := hrn.set hrl i v hi v1
  have hl := hf.len
  have hcd : ∀ j, j < 96 → w.cell? ⟨b, o + q + j, none⟩ = some (.int .u8 (gw (M.drop q) j)) := fun j hj => by
    rw [gw_drop, Nat.add_assoc, hc (q + j) (by omega)]
  have hs : ∀ W, (Instr.slice 61 (.slice (some ⟨b, o, none⟩) M.length c) (some (.int .i64 (q : Int))) none none).run Tryd.prog W = .ok (.slice (some ⟨b, o + q, none⟩) (M.length - q) (c - q)) W := fun W => slice_tail b o M.length c q (by omega) (by omega) W
  have key : ∀ W g C, (∃ x, W = gx w x) → w.heap.size ≤ g → At W g (.cells (bc C) 5 (0, 0)) → With M (packF ((rdF (M.drop q)).set i v)) q C → ∃ g' C' x, Ending.returned (.tuple #[.slice (some ⟨g, 0, none⟩) M.length C.length, .int .i64 0]) = .returned (.tuple #[.slice (some ⟨g', 0, none⟩) M.length C'.length, .int .i64 0]) ∧
      W = gx w x ∧ w.heap.size ≤ g' ∧ At (gx w x) g' (.cells (bc C') 5 (0, 0)) ∧ With M (packF ((rdF (M.drop q)).set i v)) q C' := fun W g C ⟨x, h⟩ h1 hA h2 => ⟨g, C, x, rfl, h, h1, h ▸ hA, h2⟩
  have Key := Lib.hid key
  have hc' := Lib.hid hcd
  have hBd := hM.drop q
  clear key hcd hc hrn hrb
  simp only [maxLen] at hcm
  generalize hG : rdF (M.drop q) = G at *
  have hl1 := hrl
  go_enter Tryd.func65, Tryd.ntmps65
  go_wp2_with (first | (refine load_fr rfl _ rfl _ rfl ?_ ?_ ?_ ?_; rotate_left; (focus (repeat (first | (with_reducible assumption) | (with_reducible exact At.new _ _) | (with_reducible refine At.row ?_) | (with_reducible refine At.app ?_) | (with_reducible refine At.tick ?_) | (with_reducible refine At.gx ?_) | ((with_reducible refine At.new' ?_); focus (simp; done)) | (with_reducible refine At.alloc ?_) | (with_reducible refine At.drew ?_) | (with_reducible exact Is.new _ _ _) | (with_reducible refine Is.row ?_) | (with_reducible refine Is.gx ?_) | ((with_reducible refine Is.new' ?_); focus (simp; done)) | (with_reducible refine Is.alloc ?_) | (with_reducible refine Is.drew ?_)))); (focus (with_reducible (first | exact hl | exact hl1 | exact hl2 | exact hl3 | exact hl4 | exact zeroF_len)))) | (refine store_fr rfl _ _ rfl _ rfl _ rfl ?_ ?_ ?_ ?_ ?_; rotate_left; (focus (repeat (first | (with_reducible assumption) | (with_reducible exact At.new _ _) | (with_reducible refine At.row ?_) | (with_reducible refine At.app ?_) | (with_reducible refine At.tick ?_) | (with_reducible refine At.gx ?_) | ((with_reducible refine At.new' ?_); focus (simp; done)) | (with_reducible refine At.alloc ?_) | (with_reducible refine At.drew ?_) | (with_reducible exact Is.new _ _ _) | (with_reducible refine Is.row ?_) | (with_reducible refine Is.gx ?_) | ((with_reducible refine Is.new' ?_); focus (simp; done)) | (with_reducible refine Is.alloc ?_) | (with_reducible refine Is.drew ?_)))); (focus (with_reducible (first | exact hl | exact hl1 | exact hl2 | exact hl3 | exact hl4 | exact zeroF_len))); (focus (with_reducible (first | exact hl | exact hl1 | exact hl2 | exact hl3 | exact hl4 | exact zeroF_len)))) | (go_at_call 108; refine (Place_any _ M.length c q 96 (by omega) (by omega) (by decide) _).mono ?_; rintro e w' ⟨rfl, rfl⟩) | (go_at_call 105; refine (Rframe_any (M.drop q) hBd b (o + q) _ _ (by omega) (by omega) _ ?_).mono ?_; (focus (intro j hj; repeat (first | (with_reducible exact hc'.out j hj) | (with_reducible refine cell_keep_gx ?_) | (with_reducible refine cell_keep_alloc ?_)))); rw [hG]; rintro e w' ⟨rfl, z, rfl⟩) | (go_at_call 104; refine (bytes_any (G.set i v) hf hn _).mono ?_; rintro e w' ⟨g, z, rfl, rfl, hA⟩; (try simp only [gx_gx] at hA)) | (go_at_call 112; refine (with_pack M hM (G.set i v) q h _ _ _ _ _ ?_ (HeldB.of_at (B := packF (G.set i v)) ?_ (by rw [packF_len]; decide)) hm).mono ?_; (focus (repeat (first | (with_reducible assumption) | (with_reducible refine HeldB.gx ?_) | (with_reducible refine HeldB.alloc ?_) | (with_reducible refine HeldB.drew ?_)))); (focus (repeat (first | (with_reducible assumption) | (with_reducible exact At.new _ _) | (with_reducible refine At.row ?_) | (with_reducible refine At.app ?_) | (with_reducible refine At.tick ?_) | (with_reducible refine At.gx ?_) | ((with_reducible refine At.new' ?_); focus (simp; done)) | (with_reducible refine At.alloc ?_) | (with_reducible refine At.drew ?_) | (with_reducible exact Is.new _ _ _) | (with_reducible refine Is.row ?_) | (with_reducible refine Is.gx ?_) | ((with_reducible refine Is.new' ?_); focus (simp; done)) | (with_reducible refine Is.alloc ?_) | (with_reducible refine Is.drew ?_)))); rintro e w' ⟨g2, C2, z2, rfl, rfl, hg2, hA2, hw2⟩; (try simp only [gx_gx] at hA2)))
  go_ret2
  exact Key.out _ _ _ (by repeat (first | (with_reducible exact Gx.refl _) | (with_reducible assumption) | (with_reducible refine Gx.gx ?_) | (with_reducible refine Gx.alloc ?_) | (with_reducible refine Gx.drew ?_) | (with_reducible refine Gx.drewN ?_) | (with_reducible refine Gx.setRow ?_ (by simp)) | (with_reducible refine Gx.setCell ?_ (by simp)))) (by simp at hg2; omega) (by (focus (repeat (first | (with_reducible assumption) | (with_reducible exact At.new _ _) | (with_reducible refine At.row ?_) | (with_reducible refine At.app ?_) | (with_reducible refine At.tick ?_) | (with_reducible refine At.gx ?_) | ((with_reducible refine At.new' ?_); focus (simp; done)) | (with_reducible refine At.alloc ?_) | (with_reducible refine At.drew ?_) | (with_reducible exact Is.new _ _ _) | (with_reducible refine Is.row ?_) | (with_reducible refine Is.gx ?_) | ((with_reducible refine Is.new' ?_); focus (simp; done)) | (with_reducible refine Is.alloc ?_) | (with_reducible refine Is.drew ?_))))) hw2
end Go.Proofs.YtllahhmonoedmaaDoor
