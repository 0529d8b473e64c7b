/-
  Texts that this claim leans on, merged: GKept, GBankK, GMapK, GKeys, Made, MakeWalk, GFrames, GNewM, GPut, GRecord0, GRecord, GMems.
-/
import Derived.Maps.OwnSet
import Derived.Shelf.SlIterI.Nil
import Derived.Shelf.SlIterI.Sorted
import Derived.Shelf.SortM.Plain
import Derived.Shelf.SortM.SortNone
import Derived.Deep.RegionWith
import Derived.Deep.Cut
import Derived.Test.YthkccbeffonaaaaGreatDoorM5
import Derived.Test.YthkccbeffonaaaaGreatDoorM2

/-
  keptIn, of a sector with one frame: the contract.
-/
namespace Go.Proofs.YthkccbeffonaaaaGreatDoor
open Go.RowKit
-- AT2

theorem done_st0 {L : Nat} (hL : 113 ≤ L) (D : List Int) : stI ((doneB L D).drop 16) = 1 := stI_written (by
  rw [gw_drop, gw_done hL, if_pos rfl, gw_headed (by omega) (by omega), if_neg (by omega)]
  unfold andB
  decide)
theorem done_free {L k : Nat} (hL : L = 16 + 97 * k) (D : List Int) {i : Nat} (h0 : 0 < i) (hi : i < k) : stI ((doneB L D).drop (16 + 97 * i)) = 0 := by
  have e : ∀ j, j < 97 → gw ((doneB L D).drop (16 + 97 * i)) j = 255 := fun j hj => by
    rw [gw_drop, gw_done (by omega), if_neg (by omega), if_neg (by omega), gw_headed (by omega) (by omega), if_neg (by omega)]
  exact stI_free (by rw [e 96 (by omega)]; decide) e
/-- What is kept after k slots. -/
def kpL (F : List Int) (k : Nat) : List Value := if k = 0 then [] else kpC F
theorem kpL_0 (F : List Int) : kpL F 0 = [] := rfl
theorem kpL_s (F : List Int) (k : Nat) : kpL F (k + 1) = kpC F := rfl
attribute [irreducible] kpL
set_option maxHeartbeats 1000000 in
set_option maxRecDepth 100000 in
theorem keptIn_done (L k : Nat) (hL : L = 16 + 97 * k) (hk : 1 ≤ k) (hk' : k ≤ 1048576) (D : List Int) (hD : Bs D) (b o c : Nat) (hnc : L ≤ c) (hcm : c ≤ 9223372036854775807) (F : List Int) (hF : rdF ((doneB L D).drop 16) = F) (w : World) (hc : ∀ j, j < L → w.cell? ⟨b, o + j, none⟩ = some (.int .u8 (gw (doneB L D) j))) :
    Calls Tryz.prog 138 #[.slice (some ⟨b, o, none⟩) L c] w fun e w' => ∃ g q c' x, e = .returned (.slice (some ⟨g, q, none⟩) 1 c') ∧ w' = gx w x ∧ (gx w x).rangeAt g q (kpC F) := by
  have Hc := Lib.hid hc
  have hL113 : 113 ≤ L := by omega
  have hl := zeroF_len
  have HL := Lib.hid hL
  have hS := done_bs hL113 hD
  have hbw : b < w.heap.size := World.block_lt_of_cell? w _ (hc 0 (by omega))
  have S0 := done_st0 hL113 D
  have SF : Hid (∀ i, 0 < i → i < k → stI ((doneB L D).drop (16 + 97 * i)) = 0) := Lib.hid (fun i h0 hi => done_free hL D h0 hi)
  have HH : Hid (∀ w, (∀ j, j < 16 → w.cell? ⟨b, o + j, none⟩ = some (.int .u8 (gw (doneB L D) j))) → Calls Tryz.prog 34 #[.slice (some ⟨b, o, none⟩) L c] w fun e w' => e = .returned (.tuple #[.int .i64 1, .bool false, .bool true]) ∧ ∃ x, w' = gx w x) := Lib.hid (fun w h => Head_done L hL113 D hD b o L c (by omega) w h)
  generalize hSS : doneB L D = S at *
  have HSl : Hid (∀ w, (∀ j, j < L → w.cell? ⟨b, o + j, none⟩ = some (.int .u8 (gw S j))) → Calls Tryz.prog 38 #[.slice (some ⟨b, o, none⟩) L c, .int .i64 0] w fun e w' => e = .returned (.tuple #[.agg (fc F), .int .i64 0]) ∧ ∃ x, w' = gx w x) := Lib.hid (fun w h => by
    have h' := SlotFrame_any S hS b o L c k 0 hL hnc hcm hk hk' (by omega) w h
    rw [Nat.mul_zero, Nat.add_zero, hF] at h'
    exact h')
  have ST : Hid (∀ i, i < k → gw (stTo S k k) i = stI (S.drop (16 + 97 * i))) := Lib.hid (gw_stTo S k k (Nat.le_refl _))
  have hl1 : F.length = 64 := by rw [← hF]; exact rdF_len _
  have hkl := kpC_len F hl1
  have hk1 := kpC_one F
  clear hc hL hD hSS hF
  go_enter Tryz.func138, Tryz.ntmps138
  go_wp2_with (first | (go_at_call 34; go_loud (refine (HH.out _ ?_).mono ?_; (focus (intro j hj; exact Hc.out j (by omega))); rintro e w' ⟨rfl, z, rfl⟩)) | (go_at_call 36; go_loud (refine (States_ok S b o L c k HL.out hnc hcm hk hk' _ ?_).mono ?_; (focus (intro j hj; exact cell_keep_gx (Hc.out j hj))); rintro e W1 ⟨gt, z1, rfl, hW1, hgt, hAt⟩; rw [← hW1] at hAt; have hG1 : ∃ x, W1 = gx w x := (hW1 ▸ Gx.gx ⟨z, rfl⟩); have hC1 : Hid (∀ j, j < L → W1.cell? ⟨b, o + j, none⟩ = some (.int .u8 (gw S j))) := Lib.hid (fun j hj => by rw [hW1]; exact cell_keep_gx (cell_keep_gx (Hc.out j hj))); clear hW1 hgt)))
  go_loopw [26, 3] (fun i v wr => ∃ j : Nat, j ≤ k ∧ i = .int .i64 j ∧ (∃ x, wr = gx W1 x) ∧ Own W1.heap.size wr 67 68 v (hdN j) (kpL F j)) (fun i _ _ => k - (intOf i).toNat)
  case atStart => exact ⟨0, by omega, rfl, ⟨_, (gx_none _).symm⟩, by rw [hdN_0, kpL_0]; exact Own.nil _ _ _ _⟩
  case round =>
    obtain ⟨j, hj, rfl, ⟨y, rfl⟩, hO⟩ := hrel
    by_cases hlt : j < k
    · have hst : (gx W1 y).cell? ⟨gt, j, none⟩ = some (.int .i64 (stI (S.drop (16 + 97 * j)))) := cell_keep_gx (by rw [cell_of_row _ _ _ _ _ _ hAt, ic_get _ _ (by rw [stTo_len]; exact hlt), ST.out j hlt])
      rcases Nat.eq_zero_or_pos j with rfl | hj0
      · rw [Nat.mul_zero, Nat.add_zero, S0] at hst
        rw [hdN_0, kpL_0] at hO
        go_wp2_with (first | (go_at_call 38; go_loud (refine (HSl.out _ ?_).mono ?_; (focus (intro j hj; exact cell_keep_gx (hC1.out j hj))); rintro e w' ⟨rfl, z, rfl⟩)) | (refine store_fr rfl _ _ rfl _ rfl _ rfl ?_ ?_ ?_ ?_ ?_; rotate_left; (focus (repeat (first | (with_reducible assumption) | (with_reducible exact At.new _ _) | (with_reducible refine At.row ?_) | (with_reducible refine At.app ?_) | (with_reducible refine At.tick ?_) | (with_reducible refine At.gx ?_) | ((with_reducible refine At.new' ?_); focus (simp; done)) | (with_reducible refine At.alloc ?_) | (with_reducible refine At.drew ?_) | (with_reducible exact Is.new _ _ _) | (with_reducible refine Is.row ?_) | (with_reducible refine Is.gx ?_) | ((with_reducible refine Is.new' ?_); focus (simp; done)) | (with_reducible refine Is.alloc ?_) | (with_reducible refine Is.drew ?_)))); (focus (with_reducible (first | exact hl | exact hl1 | exact hl2 | exact hl3 | exact hl4 | exact zeroF_len))); (focus (with_reducible (first | exact hl | exact hl1 | exact hl2 | exact hl3 | exact hl4 | exact zeroF_len)))) | (refine load_fr rfl _ rfl _ rfl ?_ ?_ ?_ ?_; rotate_left; (focus (repeat (first | (with_reducible assumption) | (with_reducible exact At.new _ _) | (with_reducible refine At.row ?_) | (with_reducible refine At.app ?_) | (with_reducible refine At.tick ?_) | (with_reducible refine At.gx ?_) | ((with_reducible refine At.new' ?_); focus (simp; done)) | (with_reducible refine At.alloc ?_) | (with_reducible refine At.drew ?_) | (with_reducible exact Is.new _ _ _) | (with_reducible refine Is.row ?_) | (with_reducible refine Is.gx ?_) | ((with_reducible refine Is.new' ?_); focus (simp; done)) | (with_reducible refine Is.alloc ?_) | (with_reducible refine Is.drew ?_)))); (focus (with_reducible (first | exact hl | exact hl1 | exact hl2 | exact hl3 | exact hl4 | exact zeroF_len))); go_loud (refine build_kpo rfl _ _ _ rfl rfl rfl F rfl hl1 ?_)) | (refine build_kept rfl _ rfl (kpC F) rfl hkl ?_) | (at_builtin; (with_reducible apply append_new (o := ⟨some 45, _, _, _, _, _⟩) el_kept W1 W1.heap.size (v := u3) (n := 0) (xs := []) (m := 1) (news := kpC F)); go_loud ((exact rfl; exact rfl; exact rfl; exact rfl; (focus (exact Nat.le_refl _)); (focus (repeat (first | (with_reducible assumption) | (with_reducible exact Own.nil _ _ _ _) | (with_reducible refine Own.app ?_) | (with_reducible refine Own.tick ?_) | (with_reducible refine Own.gx ?_) | (with_reducible refine Own.alloc ?_) | (with_reducible refine Own.drew ?_) | (with_reducible refine Own.row ?_ (by omega))))); exact (by repeat (first | (with_reducible exact Gx.refl _) | (with_reducible assumption) | (with_reducible refine Gx.gx ?_) | (with_reducible refine Gx.alloc ?_) | (with_reducible refine Gx.drew ?_) | (with_reducible refine Gx.drewN ?_) | (with_reducible refine Gx.setRow ?_ (by simp)) | (with_reducible refine Gx.setCell ?_ (by simp)))); (focus (simp <;> omega)); (focus (rw [hkl])); (focus (repeat (first | (with_reducible assumption) | ((with_reducible apply Shows.whole); focus ((focus (repeat (first | (with_reducible assumption) | (with_reducible exact At.new _ _) | (with_reducible refine At.row ?_) | (with_reducible refine At.app ?_) | (with_reducible refine At.tick ?_) | (with_reducible refine At.gx ?_) | ((with_reducible refine At.new' ?_); focus (simp; done)) | (with_reducible refine At.alloc ?_) | (with_reducible refine At.drew ?_) | (with_reducible exact Is.new _ _ _) | (with_reducible refine Is.row ?_) | (with_reducible refine Is.gx ?_) | ((with_reducible refine Is.new' ?_); focus (simp; done)) | (with_reducible refine Is.alloc ?_) | (with_reducible refine Is.drew ?_)))); done)) | (with_reducible refine Shows.app ?_) | (with_reducible refine Shows.tick ?_) | (with_reducible refine Shows.gx ?_) | (with_reducible refine Shows.alloc ?_) | (with_reducible refine Shows.drew ?_)))); (focus exact hk1); (focus (simp only [maxLen]; omega)); (focus omega); (rintro v' W' hW' hO' hg')))))
        refine ⟨⟨1, by omega, rfl, hW', ?_⟩, by simp [intOf]; omega⟩
        rw [hdN_s, kpL_s]
        simpa using hO'
      · rw [SF.out j hj0 hlt] at hst
        go_wp2
        go_roundw
        case rel => exact ⟨j + 1, by omega, by go_num, (by repeat (first | (with_reducible exact Gx.refl _) | (with_reducible assumption) | (with_reducible refine Gx.gx ?_) | (with_reducible refine Gx.alloc ?_) | (with_reducible refine Gx.drew ?_) | (with_reducible refine Gx.drewN ?_) | (with_reducible refine Gx.setRow ?_ (by simp)) | (with_reducible refine Gx.setCell ?_ (by simp)))), by obtain ⟨i, rfl⟩ : ∃ i, j = i + 1 := ⟨j - 1, by omega⟩; rw [hdN_s, kpL_s] at *; (focus (repeat (first | (with_reducible assumption) | (with_reducible exact Own.nil _ _ _ _) | (with_reducible refine Own.app ?_) | (with_reducible refine Own.tick ?_) | (with_reducible refine Own.gx ?_) | (with_reducible refine Own.alloc ?_) | (with_reducible refine Own.drew ?_) | (with_reducible refine Own.row ?_ (by omega)))))⟩
        case measure => simp [intOf]; omega
    · obtain rfl : j = k := by omega
      obtain ⟨i, rfl⟩ : ∃ i, j = i + 1 := ⟨j - 1, by omega⟩
      rw [hdN_s, kpL_s] at hO
      obtain ⟨A', c', hv', h1, h2, h3, h4⟩ := hO.is
      subst hv'
      unfold Shows at h4
      obtain ⟨gH, oH, rfl, hcH⟩ := h4 (by rw [hkl]; decide)
      have HcH := Lib.hid hcH
      clear hcH h3 hO
      go_wp2
      go_ret
      obtain ⟨x, hx⟩ : ∃ x, gx W1 y = gx w x := Gx.gx hG1
      exact ⟨gH, oH, c', x, rfl, hx, by rw [← hx]; exact HcH.out⟩
end Go.Proofs.YthkccbeffonaaaaGreatDoor

/-
  (bank).kept of one memory whose first sector alone has a frame: the contract.
-/
namespace Go.Proofs.YthkccbeffonaaaaGreatDoor
open Go.RowKit
-- AT2

theorem cell_of_gx {w W : World} {b o : Nat} {s : Option Nat} {v : Value} (h : w.cell? ⟨b, o, s⟩ = some v) (hW : ∃ x, W = Go.Proofs.YthkccbeffonaaaaGreatDoor.gx w x) : W.cell? ⟨b, o, s⟩ = some v := by
  obtain ⟨x, rfl⟩ := hW
  exact cell_keep_gx h
theorem size_of_gx {w W : World} (hW : ∃ x, W = Go.Proofs.YthkccbeffonaaaaGreatDoor.gx w x) : w.heap.size ≤ W.heap.size := by
  obtain ⟨x, rfl⟩ := hW
  simp
theorem Five.of_gx {w W : World} {g o : Nat} {m : PM} {A B C : Option Addr} {a b c : Nat} (h : Five w g o m A B C a b c) (hW : ∃ x, W = Go.Proofs.YthkccbeffonaaaaGreatDoor.gx w x) : Five W g o m A B C a b c := by
  obtain ⟨x, rfl⟩ := hW
  exact h.gx
set_option maxHeartbeats 1000000 in
set_option maxRecDepth 100000 in
theorem kept_one (m : PM) (hm : Good m) (A B C : Option Addr) (a b c gn o cap : Nat) (w : World) (hFv : Five w gn o m A B C a b c) (hR : RM w m A B C) (D : List Int) (hD : Bs D) (hd : m.s 0 = doneB (16 + 97 * m.slots) D) (h0 : gq m.bad 0 = false) (hno : ∀ k, 0 < k → k < m.sec.length → NoHead (m.s k)) (F : List Int) (hF : rdF ((doneB (16 + 97 * m.slots) D).drop 16) = F) :
    Calls Tryz.prog 102 #[.agg #[.slice (some ⟨gn, o, none⟩) 1 cap]] w fun e w' => ∃ g q c' x, e = .returned (.slice (some ⟨g, q, none⟩) 1 c') ∧ w' = gx w x ∧ (gx w x).rangeAt g q (kpC F) := by
  have hs := hm.sizes
  unfold sizesOk at hs
  obtain ⟨L, hL⟩ : ∃ L, L = 16 + 97 * m.slots := ⟨_, rfl⟩
  obtain ⟨gS, oS, rfl, hS⟩ := hR.sector hm hL
  obtain ⟨bv, qv, cv, hv, hc1, hc2, hcs⟩ := hS 0 (by omega)
  rw [hd, ← hL] at hcs
  rw [Nat.add_zero] at hv
  have HC := Lib.hid hcs
  have hl1 : F.length = 64 := by rw [← hF]; exact rdF_len _
  have hkl := kpC_len F hl1
  have hk1 := kpC_one F
  have hgn : gn < w.heap.size := World.block_lt_of_cell? w _ hFv.c0
  have hgS : gS < w.heap.size := World.block_lt_of_cell? w _ hv
  have HK : Hid (∀ w, (∀ j, j < L → w.cell? ⟨bv, qv + j, none⟩ = some (.int .u8 (gw (doneB L D) j))) → Calls Tryz.prog 138 #[.slice (some ⟨bv, qv, none⟩) L cv] w fun e w' => ∃ g q c' x, e = .returned (.slice (some ⟨g, q, none⟩) 1 c') ∧ w' = gx w x ∧ (gx w x).rangeAt g q (kpC F)) := Lib.hid (fun w h => keptIn_done L m.slots hL (by omega) (by omega) D hD bv qv cv hc1 hc2 F (by rw [hL]; exact hF) w h)
  have HSc : Hid (∀ w', (∃ x, w' = gx w x) → Calls Tryz.prog 81 #[.agg #[.int .i64 m.slots, .int .i64 m.limit, .slice (some ⟨gS, oS, none⟩) m.sec.length a, .slice B m.wear.length b, .slice C m.bad.length c]] w' fun e w'' => ∃ g x, e = .returned (.slice (some ⟨g, 0, none⟩) 1 1) ∧ w'' = gx w' x ∧ w'.heap.size ≤ g ∧ At (gx w' x) g (.cells (ic [0]) 3 (0, 0))) := Lib.hid (fun w' h => sectors_first m hm (some ⟨gS, oS, none⟩) B C a b c w' (RM.of_gx hR h) D hD hd h0 hno)
  have hpos : 0 < m.sec.length := by omega
  have e0 := kp_set0 F
  have e1 := kp_set1 F
  obtain ⟨f0, f1, f2, f3, f4⟩ := hFv
  clear hS hcs hR hno hF hd hL hs hm h0 hD hc1 hc2
  go_enter Tryz.func102, Tryz.ntmps102
  go_wp2
  refine wp_loop_rounds 2 ?_
  rw [rounds_succ]
  go_wp2_with (go_at_call 81; go_loud (refine (HSc.out _ ?_).mono ?_; (focus (exact (by repeat (first | (with_reducible exact Gx.refl _) | (with_reducible assumption) | (with_reducible refine Gx.gx ?_) | (with_reducible refine Gx.alloc ?_) | (with_reducible refine Gx.drew ?_) | (with_reducible refine Gx.drewN ?_) | (with_reducible refine Gx.setRow ?_ (by simp)) | (with_reducible refine Gx.setCell ?_ (by simp)))))); rintro e W1 ⟨gl, z, rfl, hW1, hgl, hAl⟩; rw [← hW1] at hAl; have hG1 : ∃ x, W1 = gx w x := (hW1 ▸ (by repeat (first | (with_reducible exact Gx.refl _) | (with_reducible assumption) | (with_reducible refine Gx.gx ?_) | (with_reducible refine Gx.alloc ?_) | (with_reducible refine Gx.drew ?_) | (with_reducible refine Gx.drewN ?_) | (with_reducible refine Gx.setRow ?_ (by simp)) | (with_reducible refine Gx.setCell ?_ (by simp))))); have hA5 : At W1 (w.heap.size + 1) (.cells #[.int .i64 m.slots, .int .i64 m.limit, .slice (some ⟨gS, oS, none⟩) m.sec.length a, .slice B m.wear.length b, .slice C m.bad.length c] 26 (0, 0)) := (by rw [hW1]; exact At.gx (At.new' (by simp))); have hl0 : W1.cell? ⟨gl, 0, none⟩ = some (.int .i64 0) := (by rw [cell_of_row _ _ _ _ _ _ hAl]; rfl); have m2 : W1.cell? ⟨w.heap.size + 1, 2, none⟩ = some (.slice (some ⟨gS, oS, none⟩) m.sec.length a) := (by rw [cell_of_row _ _ _ _ _ _ hA5]; rfl); have hv1 : W1.cell? ⟨gS, oS, none⟩ = some (.slice (some ⟨bv, qv, none⟩) L cv) := cell_of_gx hv hG1; have HC1 : Hid (∀ j, j < L → W1.cell? ⟨bv, qv + j, none⟩ = some (.int .u8 (gw (doneB L D) j))) := Lib.hid (fun j hj => cell_of_gx (HC.out j hj) hG1); clear hW1 hAl hA5 hgl f0 f1 f2 f3 f4 hv))
  refine wp_loop_rounds 2 ?_
  rw [rounds_succ]
  go_wp2_with (go_at_call 138; go_loud (refine (HK.out _ ?_).mono ?_; (focus (exact HC1.out)); rintro e W2 ⟨gk, qk, ck, z2, rfl, hW2, hrg⟩; rw [← hW2] at hrg; have hG2 : ∃ x, W2 = gx w x := (hW2 ▸ (by repeat (first | (with_reducible exact Gx.refl _) | (with_reducible assumption) | (with_reducible refine Gx.gx ?_) | (with_reducible refine Gx.alloc ?_) | (with_reducible refine Gx.drew ?_) | (with_reducible refine Gx.drewN ?_) | (with_reducible refine Gx.setRow ?_ (by simp)) | (with_reducible refine Gx.setCell ?_ (by simp))))); have hz2 := size_of_gx hG2; clear hW2 m2 hv1))
  refine wp_loop_rounds 2 ?_
  rw [rounds_succ]
  go_wp2_with (first | (refine load_kpm rfl _ rfl _ _ rfl (kpC F) ?_ hkl ?_; (focus (exact hrg))) | (refine store_kp rfl _ _ rfl _ rfl (kpC F) rfl kZ ?_ hkl kZ_len hk1 ?_; (focus (repeat (first | (with_reducible assumption) | (with_reducible exact At.new _ _) | (with_reducible refine At.row ?_) | (with_reducible refine At.app ?_) | (with_reducible refine At.tick ?_) | (with_reducible refine At.gx ?_) | ((with_reducible refine At.new' ?_); focus (simp; done)) | (with_reducible refine At.alloc ?_) | (with_reducible refine At.drew ?_) | (with_reducible exact Is.new _ _ _) | (with_reducible refine Is.row ?_) | (with_reducible refine Is.gx ?_) | ((with_reducible refine Is.new' ?_); focus (simp; done)) | (with_reducible refine Is.alloc ?_) | (with_reducible refine Is.drew ?_))))) | (refine load_kp rfl _ rfl _ rfl (kpC F) ?_ hkl ?_; (focus (repeat (first | (with_reducible assumption) | (with_reducible exact At.new _ _) | (with_reducible refine At.row ?_) | (with_reducible refine At.app ?_) | (with_reducible refine At.tick ?_) | (with_reducible refine At.gx ?_) | ((with_reducible refine At.new' ?_); focus (simp; done)) | (with_reducible refine At.alloc ?_) | (with_reducible refine At.drew ?_) | (with_reducible exact Is.new _ _ _) | (with_reducible refine Is.row ?_) | (with_reducible refine Is.gx ?_) | ((with_reducible refine Is.new' ?_); focus (simp; done)) | (with_reducible refine Is.alloc ?_) | (with_reducible refine Is.drew ?_))))) | (refine build_kept rfl _ rfl (kpC F) rfl hkl ?_) | (at_builtin; (with_reducible apply append_new (o := ⟨some 43, _, _, _, _, _⟩) el_kept w w.heap.size (v := .slice none 0 0) (n := 0) (xs := []) (m := 1) (news := kpC F)); go_loud ((exact rfl; exact rfl; exact rfl; exact rfl; (focus (exact Nat.le_refl _)); exact Own.nil _ _ _ _; exact (by repeat (first | (with_reducible exact Gx.refl _) | (with_reducible assumption) | (with_reducible refine Gx.gx ?_) | (with_reducible refine Gx.alloc ?_) | (with_reducible refine Gx.drew ?_) | (with_reducible refine Gx.drewN ?_) | (with_reducible refine Gx.setRow ?_ (by simp)) | (with_reducible refine Gx.setCell ?_ (by simp)))); (focus (simp <;> omega)); (focus (rw [hkl])); (focus (repeat (first | (with_reducible assumption) | ((with_reducible apply Shows.whole); focus ((focus (repeat (first | (with_reducible assumption) | (with_reducible exact At.new _ _) | (with_reducible refine At.row ?_) | (with_reducible refine At.app ?_) | (with_reducible refine At.tick ?_) | (with_reducible refine At.gx ?_) | ((with_reducible refine At.new' ?_); focus (simp; done)) | (with_reducible refine At.alloc ?_) | (with_reducible refine At.drew ?_) | (with_reducible exact Is.new _ _ _) | (with_reducible refine Is.row ?_) | (with_reducible refine Is.gx ?_) | ((with_reducible refine Is.new' ?_); focus (simp; done)) | (with_reducible refine Is.alloc ?_) | (with_reducible refine Is.drew ?_)))); done)) | (with_reducible refine Shows.app ?_) | (with_reducible refine Shows.tick ?_) | (with_reducible refine Shows.gx ?_) | (with_reducible refine Shows.alloc ?_) | (with_reducible refine Shows.drew ?_)))); (focus exact hk1); (focus (simp only [maxLen]; omega)); (focus omega); (rintro v' W3 hG3 hO hg3)))))
  rw [rounds_succ]
  go_wp2
  rw [rounds_succ]
  go_wp2
  rw [rounds_succ]
  go_wp2
  go_ret
  obtain ⟨A', c', hv', h1, h2, h3, h4⟩ := hO.is
  subst hv'
  unfold Shows at h4
  obtain ⟨gH, oH, rfl, hcH⟩ := h4 (by simp [hkl])
  obtain ⟨x, hx⟩ := hG3
  exact ⟨gH, oH, c', x, rfl, hx, by rw [← hx]; intro j u hu; exact hcH j u (by simpa using hu)⟩
end Go.Proofs.YthkccbeffonaaaaGreatDoor

/-
  The map of Kept values by numbers, with one entry: how it is asked and written.
-/
namespace Go.Proofs.YthkccbeffonaaaaGreatDoor
open Go.RowKit
-- AT2

/-- How a value of the map reads: as itself. -/
def kR (v : Value) : Option (DataW Value × List MemPlace) := some (.held v, [])
/-- A map of the call's. -/
@[irreducible] def KM (w : World) (b n : Nat) (D : DataW Value) : Prop := w.ownsMap Tryz.prog 3 kR b n D
theorem KM.out {w : World} {b n : Nat} {D : DataW Value} (h : KM w b n D) : w.ownsMap Tryz.prog 3 kR b n D := by unfold KM at h; exact h
theorem KM.mk' {w : World} {b n : Nat} {D : DataW Value} (h : w.ownsMap Tryz.prog 3 kR b n D) : KM w b n D := by unfold KM; exact h
theorem KM.gx {w : World} {b n : Nat} {D : DataW Value} {x : Ext} (h : KM w b n D) : KM (Go.Proofs.YthkccbeffonaaaaGreatDoor.gx w x) b n D :=
  KM.mk' (h.out.kept (grown_gx w x) (by have := h.out.lt; simp; omega))
theorem KM.alloc {w : World} {b n : Nat} {D : DataW Value} {o : Obj} (h : KM w b n D) : KM (w.alloc o) b n D := KM.mk' (h.out.alloc o)
theorem KM.made (w : World) : KM (w.alloc (.map #[] 0)) w.heap.size 0 (.map []) := KM.mk' (World.ownsMap_made w _ _ _)
theorem KM.of_gx {w W : World} {b n : Nat} {D : DataW Value} (h : KM w b n D) (hW : ∃ x, W = Go.Proofs.YthkccbeffonaaaaGreatDoor.gx w x) : KM W b n D := by
  obtain ⟨x, rfl⟩ := hW
  exact h.gx
theorem KM.lt {w : World} {b n : Nat} {D : DataW Value} (h : KM w b n D) : b < w.heap.size := h.out.lt
/-- One entry. -/
def oneD (q : Int) (V : Value) : DataW Value := (DataW.map []).put (.int .i64 q) (.held V)
theorem oneD_at (q : Int) (V : Value) (z : DataW Value) : (oneD q V).atKey (.int .i64 q) z = .held V := by
  unfold oneD
  simp [DataW.put, DataW.atKey, DataW.insert, Lit.sameKey]
theorem oneD_size (q : Int) (V : Value) : Maps.size (oneD q V) = 1 := by
  unfold oneD
  simp [DataW.put, DataW.insert, Maps.size]
section
variable {ops : Array Oper} {rest : List Oper} {o : Oper} {a : Act} {w : World} {Q : Exit → Act → World → Prop}
theorem look_none (hg : o.guard = none) (m x : Operand) (hop : o.op = .lookup 137 m x true) (b n : Nat) (hm : a.eval m = .map (some b)) (hown : KM w b n (.map [])) (q : Int) (hx : a.eval x = .int .i64 q) (hq0 : 0 ≤ q) (hq1 : q < 4194304)
    (hK : wpList Tryz.prog ops Q rest (a.put o.dst (.tuple #[.agg kZ.toArray, .bool false])) w) : wpList Tryz.prog ops Q (o :: rest) a w :=
  wpList_lookup_own_ok w hg m x _ hop _ _ (Maps.int_keyed Tryz.underlying3) Tryz.underlying137 kR (zero_kept w) (.held (.agg kZ.toArray)) [] rfl b n _ hm hown.out _ (.int .i64 q) hx (Maps.keyOf_int_mk Tryz.underlying3 (WalkArith.wf_i64 (by omega))) (fun v ps hv => by
    have e : v = .agg kZ.toArray := by
      unfold kR at hv
      simpa [DataW.atKey] using (congrArg Prod.fst (Option.some.inj hv))
    subst e
    exact hK)
theorem look_one (hg : o.guard = none) (m x : Operand) (hop : o.op = .lookup 137 m x false) (b n : Nat) (hm : a.eval m = .map (some b)) (q : Int) (V : Value) (hown : KM w b n (oneD q V)) (hx : a.eval x = .int .i64 q) (hq0 : 0 ≤ q) (hq1 : q < 4194304)
    (hK : wpList Tryz.prog ops Q rest (a.put o.dst V) w) : wpList Tryz.prog ops Q (o :: rest) a w := by
  refine wpList_plain hg fun K' hK' => ?_
  obtain ⟨v, ps, hrun, hv⟩ := hown.out.lookup (Maps.int_keyed Tryz.underlying3) Tryz.underlying137 (zero_kept w) (zd := .held (.agg kZ.toArray)) (zp := []) rfl (Maps.keyOf_int_mk Tryz.underlying3 (WalkArith.wf_i64 (n := q) (by omega)))
  have e : v = V := by
    unfold kR at hv
    rw [oneD_at] at hv
    simpa using (congrArg Prod.fst (Option.some.inj hv))
  subst e
  unfold Oper.wp
  simp [execOp, hop, hm, hx, hrun, Result.andThen]
  exact hK' _ _ hK
theorem put_one (hg : o.guard = none) (m x v : Operand) (hop : o.op = .mapUpdate 137 m x v) (b : Nat) (hm : a.eval m = .map (some b)) (hown : KM w b 0 (.map [])) (q : Int) (hx : a.eval x = .int .i64 q) (hq0 : 0 ≤ q) (hq1 : q < 4194304) (V : Value) (hv : a.eval v = V)
    (hK : ∀ w', KM w' b 1 (oneD q V) → w.grownBy w' (some b) → wpList Tryz.prog ops Q rest (a.put o.dst undef) w') : wpList Tryz.prog ops Q (o :: rest) a w :=
  wpList_mapUpdate_own w hg m x v _ hop _ _ (Maps.int_keyed Tryz.underlying3) Tryz.underlying137 kR b 0 _ hm hown.out (by simp only [maxLen]; omega) _ V (.int .i64 q) hx hv (Maps.keyOf_int_mk Tryz.underlying3 (WalkArith.wf_i64 (by omega))) (.held V) [] rfl (fun w' h1 h2 => hK w' (KM.mk' h1) h2)
theorem len_one (hg : o.guard = none) (m : Operand) (hop : o.op = .call { callee := .builtin .len, args := #[m], argTypes := #[137] }) (b n : Nat) (hm : a.eval m = .map (some b)) (q : Int) (V : Value) (hown : KM w b n (oneD q V))
    (hK : wpList Tryz.prog ops Q rest (a.put o.dst (.int .i64 1)) w) : wpList Tryz.prog ops Q (o :: rest) a w :=
  wpList_len_own w hg m _ hop _ _ Tryz.underlying137 kR b n _ hm hown.out (by rw [oneD_size]; exact hK)
end
end Go.Proofs.YthkccbeffonaaaaGreatDoor

/-
  The keys of a map, sorted: the shelf's contracts at this program.
-/
namespace Go.Proofs.YthkccbeffonaaaaGreatDoor
open Go.RowKit
open Go.Shelf Go.Maps Go.Sort
def keysA_ren : Go.Shelf.Ren := ⟨fun | 7 => 107 | 10 => 145 | n => n, fun | 23 => 137 | 26 => 3 | 3 => 67 | 28 => 141 | 0 => 0 | 27 => 140 | 33 => 162 | 4 => 4 | n => n, fun | n => n⟩
theorem keysA : Go.Proofs.SlLaysZI.n7 Tryz.prog keysA_ren := {
  mixed := by kernel_rfl
  f7 := ⟨Tryz.f107.name, by decide, Tryz.func107.trans (congrArg some (by kernel_rfl))⟩
  f10 := ⟨Tryz.f145.name, by decide, Tryz.func145.trans (congrArg some (by kernel_rfl))⟩
  t0 := Tryz.underlying0
  a0 := Tryz.isAgg0
  z0 := Tryz.sizeOf0
  v0 := Tryz.zeroValue0
  t4 := Tryz.underlying4
  a4 := Tryz.isAgg4
  z4 := Tryz.sizeOf4
  v4 := Tryz.zeroValue4
  t23 := Tryz.underlying137
  a23 := Tryz.isAgg137
  z23 := Tryz.sizeOf137
  v23 := Tryz.zeroValue137
  t26 := Tryz.underlying3
  a26 := Tryz.isAgg3
  z26 := Tryz.sizeOf3
  v26 := Tryz.zeroValue3
  t27 := Tryz.underlying140
  a27 := Tryz.isAgg140
  z27 := Tryz.sizeOf140
  v27 := Tryz.zeroValue140
  t28 := Tryz.underlying141
  a28 := Tryz.isAgg141
  z28 := Tryz.sizeOf141
  v28 := Tryz.zeroValue141
  t33 := Tryz.underlying162
  a33 := Tryz.isAgg162
  z33 := Tryz.sizeOf162
  v33 := Tryz.zeroValue162 }
def sortedA_ren : Go.Shelf.Ren := ⟨fun | 6 => 106 | 8 => 143 | 9 => 144 | 11 => 174 | 13 => 163 | 12 => 175 | 23 => 188 | 24 => 189 | 14 => 193 | 15 => 194 | 16 => 195 | 17 => 196 | 18 => 197 | 19 => 198 | 20 => 199 | 21 => 200 | 22 => 201 | 25 => 208 | 26 => 204 | 27 => 205 | 28 => 209 | 29 => 210 | 30 => 164 | 31 => 212 | n => n, fun | 26 => 3 | 28 => 141 | 24 => 23 | 0 => 0 | 3 => 3 | 37 => 120 | 48 => 180 | 50 => 218 | 4 => 4 | 40 => 211 | 39 => 210 | 45 => 87 | 5 => 5 | 9 => 9 | 51 => 229 | 55 => 233 | 57 => 237 | 58 => 238 | 33 => 162 | n => n, fun | n => n⟩
theorem sortedA : Go.Proofs.SlLaysZI.n6 Tryz.prog sortedA_ren := {
  mixed := by kernel_rfl
  f6 := ⟨Tryz.f106.name, by decide, Tryz.func106.trans (congrArg some (by kernel_rfl))⟩
  f8 := ⟨Tryz.f143.name, by decide, Tryz.func143.trans (congrArg some (by kernel_rfl))⟩
  f11 := ⟨Tryz.f174.name, by decide, Tryz.func174.trans (congrArg some (by kernel_rfl))⟩
  t0 := Tryz.underlying0
  a0 := Tryz.isAgg0
  z0 := Tryz.sizeOf0
  v0 := Tryz.zeroValue0
  t24 := Tryz.underlying23
  a24 := Tryz.isAgg23
  z24 := Tryz.sizeOf23
  v24 := Tryz.zeroValue23
  t26 := Tryz.underlying3
  a26 := Tryz.isAgg3
  z26 := Tryz.sizeOf3
  v26 := Tryz.zeroValue3
  t28 := Tryz.underlying141
  a28 := Tryz.isAgg141
  z28 := Tryz.sizeOf141
  v28 := Tryz.zeroValue141
  i26 := by kernel_rfl }
def sortA_ren : Go.Shelf.Ren := ⟨fun | 5 => 144 | 8 => 163 | 7 => 175 | 19 => 188 | 20 => 189 | 10 => 193 | 11 => 194 | 12 => 195 | 13 => 196 | 14 => 197 | 15 => 198 | 16 => 199 | 17 => 200 | 18 => 201 | 30 => 208 | 31 => 204 | 32 => 205 | 33 => 209 | 34 => 210 | 35 => 164 | 40 => 212 | n => n, fun | 23 => 23 | 25 => 3 | 3 => 3 | 32 => 120 | 22 => 23 | 0 => 0 | 44 => 180 | 46 => 218 | 4 => 4 | 36 => 211 | 35 => 210 | 41 => 87 | 5 => 5 | 9 => 9 | 53 => 229 | 57 => 233 | 63 => 237 | 64 => 238 | n => n, fun | n => n⟩
theorem sortA : Go.Proofs.SlLaysM.n5 Tryz.prog sortA_ren := {
  mixed := by kernel_rfl
  f5 := ⟨Tryz.f144.name, by decide, Tryz.func144.trans (congrArg some (by kernel_rfl))⟩
  f7 := ⟨Tryz.f175.name, by decide, Tryz.func175.trans (congrArg some (by kernel_rfl))⟩
  f8 := Tryz.func163.trans (congrArg some (by kernel_rfl))
  f10 := ⟨Tryz.f193.name, by decide, Tryz.func193.trans (congrArg some (by kernel_rfl))⟩
  f11 := ⟨Tryz.f194.name, by decide, Tryz.func194.trans (congrArg some (by kernel_rfl))⟩
  f12 := ⟨Tryz.f195.name, by decide, Tryz.func195.trans (congrArg some (by kernel_rfl))⟩
  f13 := ⟨Tryz.f196.name, by decide, Tryz.func196.trans (congrArg some (by kernel_rfl))⟩
  f14 := ⟨Tryz.f197.name, by decide, Tryz.func197.trans (congrArg some (by kernel_rfl))⟩
  f15 := ⟨Tryz.f198.name, by decide, Tryz.func198.trans (congrArg some (by kernel_rfl))⟩
  f16 := ⟨Tryz.f199.name, by decide, Tryz.func199.trans (congrArg some (by kernel_rfl))⟩
  f17 := ⟨Tryz.f200.name, by decide, Tryz.func200.trans (congrArg some (by kernel_rfl))⟩
  f18 := ⟨Tryz.f201.name, by decide, Tryz.func201.trans (congrArg some (by kernel_rfl))⟩
  f19 := Tryz.func188.trans (congrArg some (by kernel_rfl))
  f20 := Tryz.func189.trans (congrArg some (by kernel_rfl))
  f30 := ⟨Tryz.f208.name, by decide, Tryz.func208.trans (congrArg some (by kernel_rfl))⟩
  f31 := Tryz.func204.trans (congrArg some (by kernel_rfl))
  f32 := Tryz.func205.trans (congrArg some (by kernel_rfl))
  f33 := ⟨Tryz.f209.name, by decide, Tryz.func209.trans (congrArg some (by kernel_rfl))⟩
  f34 := ⟨Tryz.f210.name, by decide, Tryz.func210.trans (congrArg some (by kernel_rfl))⟩
  f35 := ⟨Tryz.f164.name, by decide, Tryz.func164.trans (congrArg some (by kernel_rfl))⟩
  f40 := ⟨Tryz.f212.name, by decide, Tryz.func212.trans (congrArg some (by kernel_rfl))⟩
  t0 := Tryz.underlying0
  a0 := Tryz.isAgg0
  z0 := Tryz.sizeOf0
  v0 := Tryz.zeroValue0
  t3 := Tryz.underlying3
  a3 := Tryz.isAgg3
  z3 := Tryz.sizeOf3
  v3 := Tryz.zeroValue3
  t4 := Tryz.underlying4
  a4 := Tryz.isAgg4
  z4 := Tryz.sizeOf4
  v4 := Tryz.zeroValue4
  t5 := Tryz.underlying5
  a5 := Tryz.isAgg5
  z5 := Tryz.sizeOf5
  v5 := Tryz.zeroValue5
  t9 := Tryz.underlying9
  a9 := Tryz.isAgg9
  z9 := Tryz.sizeOf9
  v9 := Tryz.zeroValue9
  t22 := Tryz.underlying23
  a22 := Tryz.isAgg23
  z22 := Tryz.sizeOf23
  v22 := Tryz.zeroValue23
  t23 := Tryz.underlying23
  a23 := Tryz.isAgg23
  z23 := Tryz.sizeOf23
  v23 := Tryz.zeroValue23
  t25 := Tryz.underlying3
  a25 := Tryz.isAgg3
  z25 := Tryz.sizeOf3
  v25 := Tryz.zeroValue3
  t32 := Tryz.underlying120
  a32 := Tryz.isAgg120
  z32 := Tryz.sizeOf120
  v32 := Tryz.zeroValue120
  t35 := Tryz.underlying210
  a35 := Tryz.isAgg210
  z35 := Tryz.sizeOf210
  v35 := Tryz.zeroValue210
  t36 := Tryz.underlying211
  a36 := Tryz.isAgg211
  z36 := Tryz.sizeOf211
  v36 := Tryz.zeroValue211
  t41 := Tryz.underlying87
  a41 := Tryz.isAgg87
  z41 := Tryz.sizeOf87
  v41 := Tryz.zeroValue87
  t44 := Tryz.underlying180
  a44 := Tryz.isAgg180
  z44 := Tryz.sizeOf180
  v44 := Tryz.zeroValue180
  t46 := Tryz.underlying218
  a46 := Tryz.isAgg218
  z46 := Tryz.sizeOf218
  v46 := Tryz.zeroValue218
  t53 := Tryz.underlying229
  a53 := Tryz.isAgg229
  z53 := Tryz.sizeOf229
  v53 := Tryz.zeroValue229
  t57 := Tryz.underlying233
  a57 := Tryz.isAgg233
  z57 := Tryz.sizeOf233
  v57 := Tryz.zeroValue233
  t63 := Tryz.underlying237
  a63 := Tryz.isAgg237
  z63 := Tryz.sizeOf237
  v63 := Tryz.zeroValue237
  t64 := Tryz.underlying238
  a64 := Tryz.isAgg238
  z64 := Tryz.sizeOf238
  v64 := Tryz.zeroValue238 }

theorem sortsA (m : Nat) : AnyZI.SortsIn Tryz.prog sortedA_ren Fence.wide m :=
  ⟨fun blk off cap ss W hH hblk hsz => callsIn_wide.2 (AnyM.slices_Sort_int sortA blk off cap ss W hH hblk hsz),
   fun p cap W => callsIn_wide.2 (AnyM.slices_Sort_int_none sortA p cap W)⟩
theorem Keys_any (mb : Option Nat) (W : World) : Calls Tryz.prog 107 #[.map mb] W fun e w' => e = .returned (.func (.func 145) #[] #[.pointer (some ⟨W.heap.size, 0, none⟩)]) ∧ w' = W.alloc (.cells #[.map mb] 137) :=
  (callsIn_wide (n := 5)).1 (AnyZI.keys_in keysA Fence.wide 5 trivial rfl mb W)
theorem oneD_keys (q : Int) (V : Value) : intKeys (oneD q V) = [q] := by
  unfold oneD
  simp [DataW.put, DataW.insert, intKeys, Go.intOf]
theorem Sorted_one (q : Int) (V : Value) (gM n Bm : Nat) (w : World) (hM : KM w gM n (oneD q V)) (hm : w.cell? ⟨Bm, 0, none⟩ = some (.map (some gM))) :
    Calls Tryz.prog 106 #[.func (.func 145) #[] #[.pointer (some ⟨Bm, 0, none⟩)]] w fun e w' => ∃ g o c x, e = .returned (.slice (some ⟨g, o, none⟩) 1 c) ∧ w' = gx w x ∧ (gx w x).cell? ⟨g, o, none⟩ = some (.int .i64 q) := by
  have hseq : SeqGives Fence.wide 2 Tryz.prog 145 #[.pointer (some ⟨Bm, 0, none⟩)] encZ (fun ss => ss.Perm (intKeys (oneD q V))) (Maps.size (oneD q V)) w :=
    AnyZI.keys_gives (ρ := keysA_ren) { keysA with } Fence.wide _ trivial rfl (by omega) Bm gM n _ w (World.block_lt_of_cell? w _ hm) hm hM.out
  have cS := AnyZI.sorted_in sortedA Fence.wide 5 trivial trivial trivial trivial rfl (by omega) (sortsA _) (enters_of Tryz.func144 (by kernel_rfl) rfl) 145 #[.pointer (some ⟨Bm, 0, none⟩)] trivial (enters_of Tryz.func145 (by kernel_rfl) rfl) _ _ (by rw [oneD_size]; simp only [maxLen]; omega) (by rw [oneD_size]; omega) w hseq
  refine ((callsIn_wide (n := 5)).1 cS).mono ?_
  rintro e w' ⟨v, ss, rfl, hS, hrow, -, hb⟩
  rw [oneD_keys] at hS
  obtain rfl := List.perm_singleton.1 hS
  simp only [List.mergeSort_singleton, List.map_cons, List.map_nil, List.length_cons, List.length_nil, Nat.zero_add] at hrow
  have hO : Own w.heap.size w' 3 1 v 1 [.int .i64 q] := Own.mk' hrow
  obtain ⟨A, c, rfl, h1, h2, h3, h4⟩ := hO.is
  unfold Shows at h4
  obtain ⟨g, o, rfl, hc⟩ := h4 (by simp)
  obtain ⟨x, rfl⟩ := gx_of_below hb
  exact ⟨g, o, c, x, rfl, rfl, by simpa using hc 0 _ rfl⟩
end Go.Proofs.YthkccbeffonaaaaGreatDoor

/-
  A frame that is made up or sealed is sound; sealing it once more changes nothing.
-/
namespace Go.Proofs.YthkccbeffonaaaaGreatDoor
open Go.RowKit

theorem oddI_wordI (a : Int) : oddI (wordI a) = true := by
  have h0 : 0 ≤ a % 2048 := by omega
  have h1 : a % 2048 < 2048 := by omega
  unfold wordI
  generalize a % 2048 = m at *
  by_cases h : oddI m = true
  · rw [if_pos h]; exact h
  · rw [if_neg h]
    unfold oddI at *
    have e : onesI (m + 2048) = onesI m + 1 := by
      unfold onesI ones
      have t : (m + 2048).toNat = m.toNat + 2048 := by omega
      rw [t, pop_add 11 5 (m.toNat + 2048), pop_add 11 5 m.toNat]
      have a1 : pop 11 (m.toNat + 2048) = pop 11 m.toNat := by
        have a0 : (m.toNat + 2048) % 2 ^ 11 = m.toNat % 2 ^ 11 := Nat.add_mod_right _ _
        rw [← pop_mod 11 (m.toNat + 2048), ← pop_mod 11 m.toNat, a0]
      have a2 : (m.toNat + 2048) / 2 ^ 11 = 1 := by omega
      have a3 : m.toNat / 2 ^ 11 = 0 := by omega
      rw [a1, a2, a3]
      have : pop 5 1 = 1 := rfl
      have : pop 5 0 = 0 := rfl
      omega
    rw [e]
    have := onesI_bd m
    simp at *
    omega
theorem wordI_mod' (a : Int) : wordI a % 2048 = a % 2048 := wordI_mod a
theorem wordI_idem (a : Int) : wordI (wordI a) = wordI a := wordI_cong _ _ (wordI_mod a)

/-- The words of a sealed frame. -/
theorem gw_sealI (G : List Int) (hl : G.length = 64) (j : Nat) : gw (sealI G) j = if j = 63 then loI (sumW (parTo G 60)) else if j = 62 then hiI (sumW (parTo G 60)) else if j = 61 then wordI (sumI (parTo G 60)) else gw (parTo G 60) j := by
  have l0 : (parTo G 60).length = 64 := by rw [parTo_len, hl]
  have l1 : (sumW (parTo G 60)).length = 64 := by unfold sumW; rw [List.length_set, l0]
  unfold sealI chkW
  rw [gw_set _ _ _ _ (by rw [List.length_set, l1]; decide), gw_set _ _ _ _ (by rw [l1]; decide)]
  unfold sumW
  rw [gw_set _ _ _ _ (by rw [l0]; decide)]
theorem sumTo_cong {F G : List Int} : ∀ k, (∀ j, 1 ≤ j → j ≤ k → gw F j = gw G j) → sumTo F k = sumTo G k
  | 0, _ => rfl
  | k + 1, h => by
    simp only [sumTo]
    rw [sumTo_cong k fun j h1 h2 => h j h1 (by omega), h (k + 1) (by omega) (by omega)]
theorem sumI_cong {F G : List Int} (h : ∀ j, 1 ≤ j → j ≤ 60 → gw F j = gw G j) : sumI F = sumI G := by unfold sumI; exact sumTo_cong 60 h
theorem chkI_cong {F G : List Int} (hl : F.length = 64) (hl' : G.length = 64) (h : ∀ j, j < 62 → gw F j = gw G j) : chkI F = chkI G := by
  have e : F.take 62 = G.take 62 := by
    apply List.ext_getElem (by simp [hl, hl'])
    intro k h1 h2
    have hk : k < 62 := by simp at h1; omega
    have := h k hk
    unfold gw at this
    simpa [List.getD, List.getElem?_eq_getElem (show k < F.length by omega), List.getElem?_eq_getElem (show k < G.length by omega)] using this
  unfold chkI crcTo
  rw [e]
theorem numI_cong {F G : List Int} (h1 : gw F 1 % 2048 = gw G 1 % 2048) (h2 : gw F 2 % 2048 = gw G 2 % 2048) : numI F = numI G := by unfold numI; rw [h1, h2]

section
variable (G : List Int) (hl : G.length = 64)
include hl
theorem seal_word (j : Nat) (h0 : 1 ≤ j) (h1 : j ≤ 60) : gw (sealI G) j = wordI (gw G j) := by
  rw [gw_sealI G hl j, if_neg (by omega), if_neg (by omega), if_neg (by omega), gw_parTo G hl 60 (by omega) j, if_neg (by omega), if_pos h1]
theorem seal_sync : gw (sealI G) 0 = syncI (numI G) := by
  rw [gw_sealI G hl 0, if_neg (by omega), if_neg (by omega), if_neg (by omega), gw_parTo G hl 60 (by omega) 0, if_pos rfl]
theorem seal_num : numI (sealI G) = numI G := numI_cong (by rw [seal_word G hl 1 (by omega) (by omega), wordI_mod]) (by rw [seal_word G hl 2 (by omega) (by omega), wordI_mod])
theorem seal_sum : sumI (sealI G) = sumI (parTo G 60) := sumI_cong fun j _ h1 => by rw [gw_sealI G hl j, if_neg (by omega), if_neg (by omega), if_neg (by omega)]
theorem seal_chk : chkI (sealI G) = chkI (sumW (parTo G 60)) := by
  have l0 : (parTo G 60).length = 64 := by rw [parTo_len, hl]
  refine chkI_cong (by rw [sealI_len, hl]) (by unfold sumW; rw [List.length_set, l0]) fun j hj => ?_
  rw [gw_sealI G hl j, if_neg (by omega), if_neg (by omega)]
  unfold sumW
  rw [gw_set _ _ _ _ (by rw [l0]; decide)]
theorem seal_hi : hiI (sealI G) = gw (sealI G) 62 := by
  rw [gw_sealI G hl 62, if_neg (by omega), if_pos rfl]; unfold hiI; rw [seal_chk G hl]
theorem seal_lo : loI (sealI G) = gw (sealI G) 63 := by
  rw [gw_sealI G hl 63, if_pos rfl]; unfold loI; rw [seal_chk G hl]
theorem seal_61 : gw (sealI G) 61 = wordI (sumI (parTo G 60)) := by
  rw [gw_sealI G hl 61, if_neg (by omega), if_neg (by omega), if_pos rfl]
theorem seal_odd (j : Nat) (h0 : 1 ≤ j) (h1 : j ≤ 63) : oddI (gw (sealI G) j) = true := by
  rcases Nat.lt_or_ge 60 j with h | h
  · have : j = 61 ∨ j = 62 ∨ j = 63 := by omega
    rcases this with rfl | rfl | rfl
    · rw [seal_61 G hl]; exact oddI_wordI _
    · rw [← seal_hi G hl]; unfold hiI; exact oddI_wordI _
    · rw [← seal_lo G hl]; unfold loI; exact oddI_wordI _
  · rw [seal_word G hl j h0 h]; exact oddI_wordI _
theorem seal_sound : soundB (sealI G) = true := by
  rw [soundB_true]
  refine ⟨?_, (parOk_true _ 63).2 fun j h1 h2 => seal_odd G hl j h1 h2, ?_, ?_⟩
  · unfold syncOk; rw [seal_sync G hl, seal_num G hl]; exact beq_self_eq_true _
  · unfold sumOk
    rw [seal_61 G hl, wordI_mod, seal_sum G hl, beq_iff_eq]
    have := sumI_bd (parTo G 60)
    omega
  · unfold chkOk hiOk loOk
    rw [seal_hi G hl, seal_lo G hl]
    simp
theorem seal_idem : sealI (sealI G) = sealI G := by
  have l0 : (sealI G).length = 64 := by rw [sealI_len, hl]
  have p : parTo (sealI G) 60 = sealI G := by
    refine ext_gw (by rw [parTo_len]) fun k hk => ?_
    rw [gw_parTo (sealI G) l0 60 (by omega) k]
    split
    · rename_i h; subst h; rw [seal_num G hl, seal_sync G hl]
    · split
      · rename_i h h'; rw [seal_word G hl k (by omega) h', wordI_idem]
      · rfl
  have s : sumW (sealI G) = sealI G := by
    refine ext_gw (by unfold sumW; rw [List.length_set]) fun k hk => ?_
    unfold sumW
    rw [gw_set _ _ _ _ (by rw [l0]; decide)]
    split
    · rename_i h; subst h; rw [seal_sum G hl, seal_61 G hl]
    · rfl
  have c : chkW (sealI G) = sealI G := by
    refine ext_gw (by unfold chkW; rw [List.length_set, List.length_set]) fun k hk => ?_
    unfold chkW
    rw [gw_set _ _ _ _ (by rw [List.length_set, l0]; decide), gw_set _ _ _ _ (by rw [l0]; decide)]
    split
    · rename_i h; subst h; rw [seal_lo G hl]
    · split
      · rename_i h h'; subst h'; rw [seal_hi G hl]
      · rfl
  rw [show sealI (sealI G) = chkW (sumW (parTo (sealI G) 60)) from rfl, p, s, c]
end

/-! What New returns. -/
theorem gw_newTo (Z : List Int) (hZ : Z.length = 64) (number : Int) (D : List Int) : ∀ k, k ≤ 58 → ∀ j, gw (newTo Z number D k) j = if 3 ≤ j ∧ j < 3 + k then gw D (j - 3) else if j = 2 then number / 2048 else if j = 1 then number % 2048 else gw Z j
  | 0, _, j => by
    unfold newTo
    rw [gw_set _ _ _ _ (by rw [List.length_set, hZ]; decide), gw_set _ _ _ _ (by rw [hZ]; decide), if_neg (show ¬ (3 ≤ j ∧ j < 3 + 0) by omega)]
  | k + 1, hk, j => by
    unfold newTo
    rw [gw_set _ _ _ _ (by rw [newTo_len, hZ]; omega), gw_newTo Z hZ number D k (by omega) j]
    by_cases e : j = 3 + k
    · subst e; rw [if_pos rfl, if_pos (by omega)]; congr 1; omega
    · rw [if_neg e]
      by_cases h : 3 ≤ j ∧ j < 3 + k
      · rw [if_pos h, if_pos (by omega)]
      · rw [if_neg h, if_neg (show ¬ (3 ≤ j ∧ j < 3 + (k + 1)) by omega)]
structure Made (number : Int) (D F : List Int) : Prop where
  fr : Fr F
  narrow : Narrow F
  sound : soundB F = true
  again : sealI F = F
  num : numI F = number
  odd : ∀ j, 1 ≤ j → j ≤ 63 → oddI (gw F j) = true
  val : ∀ k, k < 58 → gw F (3 + k) % 2048 = gw D k
theorem made_of {number : Int} {D : List Int} (h : newE number D = 0) : Made number D (newF zeroF number D) ∧ D.length = 58 ∧ 0 ≤ number ∧ number < 4194304 := by
  have e := h
  unfold newE at e
  by_cases hn : 0 ≤ number ∧ number < 4194304
  · rw [if_pos hn] at e
    by_cases hD : D.length = 58
    · rw [if_pos hD] at e
      by_cases hi : inTo D 58 = true
      · have hF : newF zeroF number D = sealI (newTo zeroF number D 58) := by unfold newF; rw [if_pos h]
        rw [hF]
        have f := newTo_fr zeroF_fr number D hn.1 hn.2 58 (by omega) hi
        have nn := newTo_narrow zeroF_len zeroF_narrow number D hn.1 hn.2 58 (by omega) hi
        have hl := f.len
        have g := gw_newTo zeroF zeroF_len number D 58 (by omega)
        have hin := (inTo_true D 58).1 hi
        refine ⟨⟨sealI_fr f, sealI_narrow f nn, seal_sound _ hl, seal_idem _ hl, ?_, seal_odd _ hl, ?_⟩, hD, hn⟩
        · rw [seal_num _ hl]
          have g1 := g 1
          have g2 := g 2
          simp at g1 g2
          unfold numI
          rw [g1, g2]
          omega
        · intro k hk
          rw [seal_word _ hl _ (by omega) (by omega), wordI_mod, g (3 + k), if_pos (by omega)]
          have := hin k hk
          have e3 : 3 + k - 3 = k := by omega
          rw [e3]
          omega
      · rw [if_neg hi] at e; omega
    · rw [if_neg hD] at e; omega
  · rw [if_neg hn] at e; omega
end Go.Proofs.YthkccbeffonaaaaGreatDoor

/-
  Number, Values, and what compares lists: contracts.
-/
namespace Go.Proofs.YthkccbeffonaaaaGreatDoor
open Go.RowKit

set_option maxHeartbeats 400000 in
set_option maxRecDepth 100000 in
theorem Number_any (F : List Int) (hF : Fr F) (hn : Narrow F) (o1 : oddI (gw F 1) = true) (o2 : oddI (gw F 2) = true) (w : World) :
    Calls Tryz.prog 105 #[.agg (fc F)] w fun e w' => e = .returned (.tuple #[.int .i64 (numI F), .bool true]) ∧ ∃ x, w' = gx w x := by
  have hl := hF.len
  have d1 : decide (gw F 1 < 4096) = true := decide_eq_true (by have := hn 1 (by omega); omega)
  have d2 : decide (gw F 2 < 4096) = true := decide_eq_true (by have := hn 2 (by omega); omega)
  go_enter Tryz.func105, Tryz.ntmps105
  go_wp2_with (first | (refine load_fr rfl _ rfl _ rfl ?_ ?_ ?_ ?_; rotate_left; (focus (repeat (first | (with_reducible exact At.new _ _) | (with_reducible refine At.row ?_) | (with_reducible refine At.gx ?_) | ((with_reducible refine At.new' ?_); focus (simp; done)) | (with_reducible refine At.alloc ?_) | (with_reducible refine At.drew ?_) | (with_reducible exact Is.new _ _ _) | (with_reducible refine Is.row ?_) | (with_reducible refine Is.gx ?_) | ((with_reducible refine Is.new' ?_); focus (simp; done)) | (with_reducible refine Is.alloc ?_) | (with_reducible refine Is.drew ?_)))); (focus (with_reducible (first | exact hl | exact hl1 | exact hl2 | exact hl3 | exact hl4 | exact zeroF_len)))) | (go_at_call 141; refine (isTold_any _ (hF.bd _).1 (hF.bd _).2 _).mono ?_; rintro e w' ⟨rfl, z, rfl⟩) | (go_at_call 142; refine (numberOf_any F hF _).mono ?_; rintro e w' ⟨rfl, z, rfl⟩))
  go_ret2
  exact ⟨rfl, (by repeat (first | (with_reducible exact Gx.refl _) | (with_reducible assumption) | (with_reducible refine Gx.gx ?_) | (with_reducible refine Gx.alloc ?_) | (with_reducible refine Gx.drew ?_) | (with_reducible refine Gx.drewN ?_) | (with_reducible refine Gx.setRow ?_ (by simp)) | (with_reducible refine Gx.setCell ?_ (by simp))))⟩

/-- The cells of bools. -/
def lc (B : List Bool) : Array Value := (B.map Value.bool).toArray
def gb (B : List Bool) (k : Nat) : Bool := B.getD k false
@[go_sem] theorem lc_get (F : List Bool) (k : Nat) (h : k < F.length) : (lc F)[k]? = some (.bool (gb F k)) := by
  simp [lc, gb, List.getD, List.getElem?_eq_getElem h]
@[go_sem] theorem lc_set (F : List Bool) (k : Nat) (v : Bool) : (lc F).setIfInBounds k (.bool v) = lc (F.set k v) := by
  simp [lc, List.map_set]
theorem gb_set (F : List Bool) (i k : Nat) (v : Bool) (h : i < F.length) : gb (F.set i v) k = if k = i then v else gb F k := by
  unfold gb
  by_cases e : k = i
  · subst e; simp [List.getD, h]
  · rw [if_neg e]; simp [List.getD, Ne.symm e]
@[irreducible] def falses (n : Nat) : List Bool := List.replicate n false
theorem falses_len (n : Nat) : (falses n).length = n := by unfold falses; simp
@[go_sem high] theorem makeB58 (w : World) : (Instr.makeSlice 24 (.int .i64 58) (.int .i64 58)).run Tryz.prog w = .ok (.slice (some ⟨w.heap.size, 0, none⟩) 58 58) (w.alloc (.cells (lc (falses 58)) 4)) := by
  unfold falses
  kernel_rfl

def valTo (F : List Int) : Nat → List Int
  | 0 => zerosI 58
  | k + 1 => (valTo F k).set k (gw F (3 + k) % 2048)
def rightTo (F : List Int) : Nat → List Bool
  | 0 => falses 58
  | k + 1 => (rightTo F k).set k true
theorem valTo_len (F : List Int) : ∀ k, (valTo F k).length = 58
  | 0 => by unfold valTo; exact zerosI_len 58
  | k + 1 => by unfold valTo; rw [List.length_set, valTo_len F k]
theorem rightTo_len (F : List Int) : ∀ k, (rightTo F k).length = 58
  | 0 => by unfold rightTo; exact falses_len 58
  | k + 1 => by unfold rightTo; rw [List.length_set, rightTo_len F k]
theorem gw_valTo (F : List Int) : ∀ k, k ≤ 58 → ∀ j, j < k → gw (valTo F k) j = gw F (3 + j) % 2048
  | k + 1, hk, j, hj => by
    unfold valTo
    rw [gw_set _ _ _ _ (by rw [valTo_len]; omega)]
    by_cases e : j = k
    · rw [if_pos e, e]
    · rw [if_neg e]; exact gw_valTo F k (by omega) j (by omega)
theorem gb_rightTo (F : List Int) : ∀ k, k ≤ 58 → ∀ j, j < k → gb (rightTo F k) j = true
  | k + 1, hk, j, hj => by
    unfold rightTo
    rw [gb_set _ _ _ _ (by rw [rightTo_len]; omega)]
    by_cases e : j = k
    · rw [if_pos e]
    · rw [if_neg e]; exact gb_rightTo F k (by omega) j (by omega)
attribute [irreducible] valTo rightTo gb

set_option maxHeartbeats 400000 in
set_option maxRecDepth 100000 in
theorem EqualI_same (D : List Int) (n b o c b' o' c' : Nat) (hn : n ≤ 9223372036854775807) (w : World) (hc : ∀ j, j < n → w.cell? ⟨b, o + j, none⟩ = some (.int .i64 (gw D j))) (hc' : ∀ j, j < n → w.cell? ⟨b', o' + j, none⟩ = some (.int .i64 (gw D j))) :
    Calls Tryz.prog 23 #[.slice (some ⟨b, o, none⟩) n c, .slice (some ⟨b', o', none⟩) n c'] w fun e w' => e = .returned (.bool true) ∧ ∃ x, w' = gx w x := by
  have Hc := Lib.hid hc
  have Hc' := Lib.hid hc'
  clear hc hc'
  go_enter Tryz.func23, Tryz.ntmps23
  go_wp2
  go_loopw [13] (fun i wr => ∃ (k : Nat) (x : Ext), k ≤ n ∧ i = .int .i64 k ∧ wr = gx w x) (fun i _ => n - (intOf i).toNat)
  case atStart => exact ⟨0, _, Nat.zero_le _, rfl, (gx_none _).symm⟩
  case round =>
    obtain ⟨k, y, hk, rfl, rfl⟩ := hrel
    by_cases hlt : k < n
    · have c0 := Hc.out k hlt
      have c1 := Hc'.out k hlt
      have hbw : b < w.heap.size := World.block_lt_of_cell? w _ c0
      have hbw' : b' < w.heap.size := World.block_lt_of_cell? w _ c1
      go_wp2
      first | (with_reducible refine region_gxx (by kernel_rfl) (by kernel_rfl) ?_) | (with_reducible refine region_gx (by kernel_rfl) (by kernel_rfl) ?_)
      repeat (any_goals (first | (refine quiet_fr rfl _ rfl _ rfl ?_ ?_ ?_ ?_; rotate_left; (focus (rintro _ ⟨x, rfl⟩; (focus (repeat (first | (with_reducible exact At.new _ _) | (with_reducible refine At.row ?_) | (with_reducible refine At.gx ?_) | ((with_reducible refine At.new' ?_); focus (simp; done)) | (with_reducible refine At.alloc ?_) | (with_reducible refine At.drew ?_) | (with_reducible exact Is.new _ _ _) | (with_reducible refine Is.row ?_) | (with_reducible refine Is.gx ?_) | ((with_reducible refine Is.new' ?_); focus (simp; done)) | (with_reducible refine Is.alloc ?_) | (with_reducible refine Is.drew ?_)))))); (focus (with_reducible (first | exact hl | exact hl1 | exact hl2 | exact hl3 | exact hl4 | exact zeroF_len)))) | go_big_quiet_step ((first | fail)) | quiet_step ((first | fail))))
      refine wpQuiet_nil ?_
      rintro _ ⟨x, rfl⟩
      go_wp2
      go_roundw
      case rel => exact ⟨k + 1, _, by omega, by go_num, rfl⟩
      case measure => simp [intOf]; omega
    · obtain rfl : k = n := by omega
      go_wp2
      go_ret
      exact ⟨rfl, (by repeat (first | (with_reducible exact Gx.refl _) | (with_reducible assumption) | (with_reducible refine Gx.gx ?_) | (with_reducible refine Gx.alloc ?_) | (with_reducible refine Gx.drew ?_) | (with_reducible refine Gx.drewN ?_) | (with_reducible refine Gx.setRow ?_ (by simp)) | (with_reducible refine Gx.setCell ?_ (by simp))))⟩
end Go.Proofs.YthkccbeffonaaaaGreatDoor

/-
  ring.Frames of one memory whose first sector alone has a frame: the contract.
-/
namespace Go.Proofs.YthkccbeffonaaaaGreatDoor
open Go.RowKit
-- AT2

theorem kZ_one : ∀ u ∈ kZ, u.oneCell' = true := by
  intro u hu
  unfold kZ at hu
  simp only [List.mem_append, List.mem_cons, List.not_mem_nil, or_false, List.mem_map] at hu
  rcases hu with (rfl | rfl | rfl | rfl) | ⟨a, -, rfl⟩ <;> simp [Value.oneCell']
theorem KM.made' {w : World} {g : Nat} (e : g = w.heap.size) : KM (w.alloc (.map #[] 0)) g 0 (.map []) := by subst e; exact KM.made w
theorem Tab.of_gx' {w W : World} (h : Tab w) (hW : ∃ x, W = Go.Proofs.YthkccbeffonaaaaGreatDoor.gx w x) : Tab W := by
  obtain ⟨x, rfl⟩ := hW
  exact h.gx _
theorem make_fr01 {ops : Array Oper} {rest : List Oper} {o : Oper} {a : Act} {w : World} {Q : Exit → Act → World → Prop} (hg : o.guard = none) (x y : Operand) (hop : o.op = .makeSlice 68 x y) (hx : a.eval x = .int .i64 0) (hy : a.eval y = .int .i64 1) (b : Nat) (hb : b ≤ w.heap.size)
    (h : ∀ w', Own b w' 57 64 (.slice (some ⟨w.heap.size, 0, none⟩) 0 1) 0 [] → w.grownBy w' none → wpList Tryz.prog ops Q rest (a.put o.dst (.slice (some ⟨w.heap.size, 0, none⟩) 0 1)) w') : wpList Tryz.prog ops Q (o :: rest) a w := by
  obtain ⟨ht, hp, i, z, hi, hz, hsize, hby, hzs⟩ := el_frame
  refine wpList_plain hg fun K hK => ?_
  obtain ⟨w', hrun, h1, h2⟩ := run_make_own (P := Tryz.prog) w b 68 57 i z 64 ht hi hz hsize .i64 .i64 1 (by rw [hby]; decide) (by simp only [maxLen]; omega) hb
  have hrun' : (Instr.makeSlice 68 (.int .i64 0) (.int .i64 1)).run Tryz.prog w = .ok (.slice (some ⟨w.heap.size, 0, none⟩) 0 1) w' := hrun
  unfold Oper.wp execOp
  simp only [hop, hx, hy, Sem.run_bind, hrun', Result.andThen_ok]
  exact hK _ _ (h w' (Own.mk' h1) h2)
set_option maxHeartbeats 2000000 in
set_option maxRecDepth 100000 in
theorem Frames_one (m : PM) (hm : Good m) (A B C : Option Addr) (a b c gn o cap : Nat) (w : World) (hT : Tab w) (hFv : Five w gn o m A B C a b c) (hR : RM w m A B C) (D : List Int) (hD : Bs D) (hd : m.s 0 = doneB (16 + 97 * m.slots) D) (h0 : gq m.bad 0 = false) (hno : ∀ k, 0 < k → k < m.sec.length → NoHead (m.s k)) (F : List Int) (hF : rdF ((doneB (16 + 97 * m.slots) D).drop 16) = F)
    (hFr : Fr F) (hNr : Narrow F) (hsd : soundB F = true) (hwd : wideB F = false) (o1 : oddI (gw F 1) = true) (o2 : oddI (gw F 2) = true) (hn0 : 0 ≤ numI F) (hn1 : numI F < 4194304) :
    Calls Tryz.prog 43 #[.slice (some ⟨gn, o, none⟩) 1 cap] w fun e w' => ∃ g q c' x, e = .returned (.tuple #[.slice (some ⟨g, q, none⟩) 1 c', .int .i64 0]) ∧ w' = gx w x ∧ (gx w x).rangeAt g q (F.map (Value.int .u16)) := by
  have HF := Lib.hid hFv
  have HR := Lib.hid hR
  have hl1 : F.length = 64 := hFr.len
  have hkl := kpC_len F hl1
  have hk1 := kpC_one F
  have HS : Hid (∀ W, Tab W → Calls Tryz.prog 104 #[.agg (fc F)] W fun e w' => e = .returned (.bool true) ∧ ∃ x, w' = gx W x) := Lib.hid (fun W h => Sound_ok F hFr hNr hsd hwd W h)
  have HNu : Hid (∀ W, Calls Tryz.prog 105 #[.agg (fc F)] W fun e w' => e = .returned (.tuple #[.int .i64 (numI F), .bool true]) ∧ ∃ x, w' = gx W x) := Lib.hid (fun W => Number_any F hFr hNr o1 o2 W)
  have HK : Hid (∀ W, (∃ x, W = gx w x) → Calls Tryz.prog 102 #[.agg #[.slice (some ⟨gn, o, none⟩) 1 cap]] W fun e w' => ∃ g q c' x, e = .returned (.slice (some ⟨g, q, none⟩) 1 c') ∧ w' = gx W x ∧ (gx W x).rangeAt g q (kpC F)) := Lib.hid (fun W h => kept_one m hm A B C a b c gn o cap W (Five.of_gx hFv h) (RM.of_gx hR h) D hD hd h0 hno F hF)
  clear hFv hR hno hFr hNr hsd hwd o1 o2 hD hd h0 hF
  generalize numI F = q at *
  have hmm : ∀ W : World, (Instr.makeMap 137 none).run Tryz.prog W = .ok (.map (some W.heap.size)) (W.alloc (.map #[] 0)) := fun W => run_makeMap _ W
  go_enter Tryz.func43, Tryz.ntmps43
  go_wp2_with (first | (go_at_call 101; go_loud (refine (bankOf_one m hm A B C a b c gn o cap _ HF.out HR.out).mono ?_; rintro e w' ⟨rfl, z1, rfl⟩)) | (go_at_call 102; go_loud (refine (HK.out _ ?_).mono ?_; (focus (exact (by repeat (first | (with_reducible exact Gx.refl _) | (with_reducible assumption) | (with_reducible refine Gx.gx ?_) | (with_reducible refine Gx.alloc ?_) | (with_reducible refine Gx.drew ?_) | (with_reducible refine Gx.drewN ?_) | (with_reducible refine Gx.setRow ?_ (by simp)) | (with_reducible refine Gx.setCell ?_ (by simp)))))); rintro e W1 ⟨gk, qk, ck, z2, rfl, hW1, hrg⟩; rw [← hW1] at hrg; have hG1 : ∃ x, W1 = gx w x := (hW1 ▸ (by repeat (first | (with_reducible exact Gx.refl _) | (with_reducible assumption) | (with_reducible refine Gx.gx ?_) | (with_reducible refine Gx.alloc ?_) | (with_reducible refine Gx.drew ?_) | (with_reducible refine Gx.drewN ?_) | (with_reducible refine Gx.setRow ?_ (by simp)) | (with_reducible refine Gx.setCell ?_ (by simp))))); have hM1 : KM W1 (w.heap.size + z1.n + 1) 0 (.map []) := (by rw [hW1]; exact KM.gx (KM.made' (by simp))); have hz1 := size_of_gx hG1; have hb1 := hM1.lt; clear hW1)))
  obtain ⟨gM, hgM⟩ : ∃ gM, w.heap.size + z1.n + 1 = gM := ⟨_, rfl⟩
  rw [hgM] at hM1 hb1 ⊢
  refine wp_loop_rounds 2 ?_
  rw [rounds_succ]
  go_wp2_with (first | (refine load_kpm rfl _ rfl _ _ rfl (kpC F) ?_ hkl ?_; (focus (exact hrg))) | (refine store_kp rfl _ _ rfl _ rfl _ rfl kZ ?_ ?_ kZ_len ?_ ?_; (focus (repeat (first | (with_reducible assumption) | (with_reducible exact At.new _ _) | (with_reducible refine At.row ?_) | (with_reducible refine At.app ?_) | (with_reducible refine At.tick ?_) | (with_reducible refine At.gx ?_) | ((with_reducible refine At.new' ?_); focus (simp; done)) | (with_reducible refine At.alloc ?_) | (with_reducible refine At.drew ?_) | (with_reducible exact Is.new _ _ _) | (with_reducible refine Is.row ?_) | (with_reducible refine Is.gx ?_) | ((with_reducible refine Is.new' ?_); focus (simp; done)) | (with_reducible refine Is.alloc ?_) | (with_reducible refine Is.drew ?_)))); (focus (first | exact hkl | exact kZ_len)); (focus (first | exact hk1 | exact kZ_one))) | (refine load_kpf rfl _ rfl _ rfl F ?_ hl1 ?_; (focus (repeat (first | (with_reducible assumption) | (with_reducible exact At.new _ _) | (with_reducible refine At.row ?_) | (with_reducible refine At.app ?_) | (with_reducible refine At.tick ?_) | (with_reducible refine At.gx ?_) | ((with_reducible refine At.new' ?_); focus (simp; done)) | (with_reducible refine At.alloc ?_) | (with_reducible refine At.drew ?_) | (with_reducible exact Is.new _ _ _) | (with_reducible refine Is.row ?_) | (with_reducible refine Is.gx ?_) | ((with_reducible refine Is.new' ?_); focus (simp; done)) | (with_reducible refine Is.alloc ?_) | (with_reducible refine Is.drew ?_))))) | (refine load_kp rfl _ rfl _ rfl (kpC F) ?_ hkl ?_; (focus (repeat (first | (with_reducible assumption) | (with_reducible exact At.new _ _) | (with_reducible refine At.row ?_) | (with_reducible refine At.app ?_) | (with_reducible refine At.tick ?_) | (with_reducible refine At.gx ?_) | ((with_reducible refine At.new' ?_); focus (simp; done)) | (with_reducible refine At.alloc ?_) | (with_reducible refine At.drew ?_) | (with_reducible exact Is.new _ _ _) | (with_reducible refine Is.row ?_) | (with_reducible refine Is.gx ?_) | ((with_reducible refine Is.new' ?_); focus (simp; done)) | (with_reducible refine Is.alloc ?_) | (with_reducible refine Is.drew ?_))))) | (go_at_call 104; go_loud (refine (HS.out _ (Tab.of_gx' hT ?_)).mono ?_; (focus (exact (by repeat (first | (with_reducible exact Gx.refl _) | (with_reducible assumption) | (with_reducible refine Gx.gx ?_) | (with_reducible refine Gx.alloc ?_) | (with_reducible refine Gx.drew ?_) | (with_reducible refine Gx.drewN ?_) | (with_reducible refine Gx.setRow ?_ (by simp)) | (with_reducible refine Gx.setCell ?_ (by simp)))))); rintro e W2 ⟨rfl, z3, hW2⟩; have hG2 : ∃ x, W2 = gx w x := (hW2 ▸ (by repeat (first | (with_reducible exact Gx.refl _) | (with_reducible assumption) | (with_reducible refine Gx.gx ?_) | (with_reducible refine Gx.alloc ?_) | (with_reducible refine Gx.drew ?_) | (with_reducible refine Gx.drewN ?_) | (with_reducible refine Gx.setRow ?_ (by simp)) | (with_reducible refine Gx.setCell ?_ (by simp))))); have hM2 : KM W2 gM 0 (.map []) := (by rw [hW2]; exact KM.gx (KM.alloc hM1)); have hK2 : At W2 W1.heap.size (.cells (kpC F).toArray 67 (0, 0)) := (by rw [hW2]; exact At.gx (At.new _ _)); clear hW2 hM1 hrg)) | (go_at_call 105; go_loud (refine (HNu.out _).mono ?_; rintro e W3 ⟨rfl, z4, hW3⟩; have hG3 : ∃ x, W3 = gx w x := (hW3 ▸ (by repeat (first | (with_reducible exact Gx.refl _) | (with_reducible assumption) | (with_reducible refine Gx.gx ?_) | (with_reducible refine Gx.alloc ?_) | (with_reducible refine Gx.drew ?_) | (with_reducible refine Gx.drewN ?_) | (with_reducible refine Gx.setRow ?_ (by simp)) | (with_reducible refine Gx.setCell ?_ (by simp))))); have hM3 : KM W3 gM 0 (.map []) := (by rw [hW3]; exact KM.gx hM2); have hK3 : At W3 W1.heap.size (.cells (kpC F).toArray 67 (0, 0)) := (by rw [hW3]; exact At.gx hK2); have hl3 := hK3.lt; clear hW3 hM2 hK2)) | (at_lookup; refine look_none rfl _ _ rfl gM 0 rfl ?_ q rfl hn0 hn1 ?_; (focus (repeat (first | exact hM3 | refine KM.alloc ?_)))) | (at_mapUpdate; refine put_one rfl _ _ _ rfl gM rfl ?_ q rfl hn0 hn1 (.agg (kpC F).toArray) rfl ?_; (focus (repeat (first | exact hM3 | refine KM.alloc ?_))); rintro W4 hM4 hg4; have hG4 : ∃ x, W4 = gx w x := gx_of_grown (w := w) ((by repeat (first | (with_reducible exact Gx.refl _) | (with_reducible assumption) | (with_reducible refine Gx.gx ?_) | (with_reducible refine Gx.alloc ?_) | (with_reducible refine Gx.drew ?_) | (with_reducible refine Gx.drewN ?_) | (with_reducible refine Gx.setRow ?_ (by simp)) | (with_reducible refine Gx.setCell ?_ (by simp))))) hg4 (fun k hk => by cases hk; omega); clear hg4 hM3 hK3))
  have hb4 := hM4.lt
  have hz4 := size_of_gx hG4
  rw [rounds_succ]
  go_wp2_with (first | (at_len; refine len_one rfl _ rfl gM 1 rfl q (.agg (kpC F).toArray) hM4 ?_) | (refine make_fr01 rfl _ _ rfl rfl rfl w.heap.size ?_ ?_; (focus omega); rintro W5 hO5 hg5; have hG5 : ∃ x, W5 = gx w x := gx_of_grown hG4 hg5 (fun k hk => by cases hk); have hM5 : KM W5 gM 1 (oneD q (.agg (kpC F).toArray)) := KM.mk' (hM4.out.kept hg5 (by simp)); have hz5 := size_of_gx hG5; have hb5 := hM5.lt; clear hg5) | (go_at_call 107; go_loud (refine (Keys_any _ _).mono ?_; rintro e w' ⟨rfl, rfl⟩)) | (go_at_call 106; go_loud (refine (Sorted_one q _ gM 1 W5.heap.size _ (KM.alloc hM5) (by simp)).mono ?_; rintro e W6 ⟨g6, q6, c6, z6, rfl, hW6, hc6⟩; rw [← hW6] at hc6; have hG6 : ∃ x, W6 = gx w x := (hW6 ▸ (by repeat (first | (with_reducible exact Gx.refl _) | (with_reducible assumption) | (with_reducible refine Gx.gx ?_) | (with_reducible refine Gx.alloc ?_) | (with_reducible refine Gx.drew ?_) | (with_reducible refine Gx.drewN ?_) | (with_reducible refine Gx.setRow ?_ (by simp)) | (with_reducible refine Gx.setCell ?_ (by simp))))); have hM6 : KM W6 gM 1 (oneD q (.agg (kpC F).toArray)) := (by rw [hW6]; exact KM.gx (KM.alloc hM5)); have hO6 : Own w.heap.size W6 57 64 (.slice (some ⟨W4.heap.size, 0, none⟩) 0 1) 0 [] := (by rw [hW6]; exact Own.gx (Own.alloc hO5)); have hz6 := size_of_gx hG6; clear hW6 hM5 hO5)))
  refine wp_loop_rounds 2 ?_
  rw [rounds_succ]
  go_wp2_with (first | (at_lookup; refine look_one rfl _ _ rfl gM 1 rfl q (.agg (kpC F).toArray) ?_ rfl hn0 hn1 ?_; (focus (exact hM6)); go_loud (refine field_kpo rfl _ rfl F rfl hl1 ?_)) | (refine build_frame rfl _ rfl F rfl hl1 ?_) | (at_builtin; (with_reducible apply append_new (o := ⟨some 78, _, _, _, _, _⟩) el_frame w w.heap.size (v := .slice (some ⟨W4.heap.size, 0, none⟩) 0 1) (n := 0) (xs := []) (m := 1) (news := F.map (Value.int .u16))); go_loud ((exact rfl; exact rfl; exact rfl; exact rfl; (focus (exact Nat.le_refl _)); (focus (exact Own.alloc hO6)); exact (by repeat (first | (with_reducible exact Gx.refl _) | (with_reducible assumption) | (with_reducible refine Gx.gx ?_) | (with_reducible refine Gx.alloc ?_) | (with_reducible refine Gx.drew ?_) | (with_reducible refine Gx.drewN ?_) | (with_reducible refine Gx.setRow ?_ (by simp)) | (with_reducible refine Gx.setCell ?_ (by simp)))); (focus (simp <;> omega)); (focus (simp [hl1])); (focus (exact Shows.whole (t := 57) (At.new _ _))); (focus (simp [Value.oneCell']; done)); (focus (simp only [maxLen]; omega)); (focus omega); (rintro v' W7 hG7 hO7 hg7)))))
  rw [rounds_succ]
  go_wp2
  go_ret2
  obtain ⟨A', c', hv', h1, h2, h3, h4⟩ := hO7.is
  subst hv'
  unfold Shows at h4
  obtain ⟨gH, oH, rfl, hcH⟩ := h4 (by simp [hl1])
  obtain ⟨x, hx⟩ := hG7
  exact ⟨gH, oH, c', x, rfl, hx, by rw [← hx]; intro j u hu; exact hcH j u (by simpa using hu)⟩
end Go.Proofs.YthkccbeffonaaaaGreatDoor

/-
  NewMemory: the contract.
-/
namespace Go.Proofs.YthkccbeffonaaaaGreatDoor
open Go.RowKit
-- AT2

/-- A memory that has never been written. -/
def onesB (L : Nat) : List Int := List.replicate L 255
theorem onesB_len (L : Nat) : (onesB L).length = L := by unfold onesB; simp
theorem gw_onesB {L j : Nat} (h : j < L) : gw (onesB L) j = 255 := by unfold onesB gw; simp [List.getD, h]
theorem onesB_bs (L : Nat) : Bs (onesB L) := fun j => by
  unfold onesB gw
  rcases Nat.lt_or_ge j L with h | h
  · simp [List.getD, h]
  · simp [List.getD, h]
def blankM (n s : Nat) (lim : Int) : PM := ⟨s, lim, List.replicate n (onesB (16 + 97 * s)), zerosI n, List.replicate n false⟩
theorem zerosB_arr (n : Nat) : (List.replicate n (Value.int .u8 0)).toArray = bc (zerosI n) := by unfold bc zerosI; simp
theorem make_bytesn (n : Nat) (hn : n ≤ 4194304) (w : World) : (Instr.makeSlice 39 (.int .i64 (n : Int)) (.int .i64 (n : Int))).run Tryz.prog w = .ok (.slice (some ⟨w.heap.size, 0, none⟩) n n) (w.alloc (.cells (bc (zerosI n)) 5)) := by
  have hE : Elem 39 5 1 1 := elem_of Tryz.underlying39 (by decide) (z := .int .u8 0) (by kernel_rfl) (by simp [Value.cells])
  obtain ⟨ht, hp, i, z, hi, hz, hsize, hby, hzs⟩ := hE
  have hzz : z = .int .u8 0 := by
    have h : (Tryz.prog.info? 5).map (·.zero) = some (some (.int .u8 0)) := by kernel_rfl
    rw [hi] at h
    simp only [Option.map_some, Option.some.injEq, hz] at h
    exact h
  have := run_make (P := Tryz.prog) w 39 5 i z ht hi hz .i64 .i64 n n (by omega) (Int.le_refl _) (by rw [hby]; omega) (by omega)
  rw [this, hsize, hzz]
  simp only [Int.toNat_natCast, Value.cells, Nat.mul_one]
  have e : madeCells #[Value.int .u8 0] n = bc (zerosI n) := by
    apply Array.toList_inj.1
    rw [toList_madeCells_one, ← zerosB_arr]
  rw [e]
theorem make_boolsn (n : Nat) (hn : n ≤ 4194304) (w : World) : (Instr.makeSlice 24 (.int .i64 (n : Int)) (.int .i64 (n : Int))).run Tryz.prog w = .ok (.slice (some ⟨w.heap.size, 0, none⟩) n n) (w.alloc (.cells (qC (List.replicate n false)).toArray 4)) := by
  obtain ⟨ht, hp, i, z, hi, hz, hsize, hby, hzs⟩ := el_bool
  have hzz : z = .bool false := by
    have h : (Tryz.prog.info? 4).map (·.zero) = some (some (.bool false)) := by kernel_rfl
    rw [hi] at h
    simp only [Option.map_some, Option.some.injEq, hz] at h
    exact h
  have := run_make (P := Tryz.prog) w 24 4 i z ht hi hz .i64 .i64 n n (by omega) (Int.le_refl _) (by rw [hby]; omega) (by omega)
  rw [this, hsize, hzz]
  simp only [Int.toNat_natCast, Value.cells, Nat.mul_one]
  have e : madeCells #[Value.bool false] n = (qC (List.replicate n false)).toArray := by
    apply Array.toList_inj.1
    rw [toList_madeCells_one]
    unfold qC
    simp
  rw [e]
theorem fill_zeros (L : Nat) : fillTo (zerosI L) 0 L = onesB L := ext_gw (by rw [fillTo_len, zerosI_len, onesB_len]) fun k hk => by
  rw [fillTo_len, zerosI_len] at hk
  rw [gw_fillTo _ _ _ (by rw [zerosI_len]; omega), if_pos (by omega), gw_onesB hk]
theorem secs_len (n s : Nat) (lim : Int) : (blankM n s lim).sec.length = n := by unfold blankM; simp
/-- The five cells of a memory that is being made. -/
def fiveC (n s : Nat) (lim : Int) (gS gI gQ : Nat) : Array Value := #[.int .i64 s, .int .i64 lim, .slice (some ⟨gS, 0, none⟩) n n, .slice (some ⟨gI, 0, none⟩) n n, .slice (some ⟨gQ, 0, none⟩) n n]
/-- A memory that is being made, when some of its sectors are. -/
structure NM (b : Nat) (W : World) (n s : Nat) (lim : Int) (gS gI gQ g9 : Nat) (Z : List (Nat × List Int)) : Prop where
  bS : b < gS
  bI : b < gI
  bQ : b < gQ
  b9 : b < g9
  res : At W b (.cells #[.int .i64 0, .int .i64 0, .slice none 0 0, .slice none 0 0, .slice none 0 0] 26 (0, 0))
  mem : At W g9 (.cells (fiveC n s lim gS gI gQ) 26 (0, 0))
  sec : At W gS (.cells (hdrs (16 + 97 * s) n Z).toArray 39 (0, 0))
  secs : Secs b W (16 + 97 * s) (fun _ => onesB (16 + 97 * s)) Z
  wear : At W gI (.cells (ic (zerosI n)) 3 (0, 0))
  bad : At W gQ (.cells (qC (List.replicate n false)).toArray 4 (0, 0))
theorem NM.gx {b : Nat} {W : World} {n s : Nat} {lim : Int} {gS gI gQ g9 : Nat} {Z : List (Nat × List Int)} {x : Ext} (h : NM b W n s lim gS gI gQ g9 Z) : NM b (gx W x) n s lim gS gI gQ g9 Z :=
  ⟨h.bS, h.bI, h.bQ, h.b9, h.res.gx, h.mem.gx, h.sec.gx, h.secs.gx, h.wear.gx, h.bad.gx⟩
theorem Secs.snoc {b : Nat} {W : World} {L : Nat} {S : Nat → List Int} {Z : List (Nat × List Int)} (hx : Secs b W L S Z) (g : Nat) (C : List Int) (hlt : ∀ (i : Nat) (p : Nat × List Int), Z[i]? = some p → p.1 < g) (hb : b ≤ g) (hA : At W g (.cells (bc C) 5 (0, 0))) (h1 : L ≤ C.length) (h2 : C.length ≤ maxLen) (h3 : Bs C) (h4 : ∀ j, j < L → gw C j = gw (S Z.length) j) :
    Secs b W L S (Z ++ [(g, C)]) := by
  refine ⟨fun i p hp => ?_, fun i j p q hp hq hij => ?_⟩
  · rcases Nat.lt_or_ge i Z.length with hl | hge
    · rw [List.getElem?_append_left hl] at hp
      exact hx.at_ i p hp
    · rw [List.getElem?_append_right hge] at hp
      obtain ⟨h0, e⟩ := List.getElem?_eq_some_iff.1 hp
      have hi : i = Z.length := by simp at h0; omega
      subst hi
      simp only [Nat.sub_self, List.getElem_cons_zero] at e
      subst e
      exact ⟨hb, hA, h1, h2, h3, h4⟩
  · rcases Nat.lt_or_ge j Z.length with hl | hge
    · rw [List.getElem?_append_left hl] at hq
      rw [List.getElem?_append_left (by omega)] at hp
      exact hx.inc i j p q hp hq hij
    · rw [List.getElem?_append_right hge] at hq
      obtain ⟨h0, e⟩ := List.getElem?_eq_some_iff.1 hq
      have hj : j = Z.length := by simp at h0; omega
      subst hj
      simp only [Nat.sub_self, List.getElem_cons_zero] at e
      subst e
      rw [List.getElem?_append_left hij] at hp
      exact hlt i p hp
section
variable {b : Nat} {W : World} {n s : Nat} {lim : Int} {gS gI gQ g9 : Nat} {Z : List (Nat × List Int)}
/-- A block that the stores of a round leave. -/
theorem keepA {g k : Nat} {o : Obj} {cs : Array Value} {t : TypeId} {v : Value} {C C' : Array Value} {x : Ext} (h : At W g o) (hS : At W gS (.cells cs t (0, 0))) (hne : g ≠ gS) : At (gx ((((W.setCell ⟨gS, k, none⟩ v).alloc (.cells C 5)).drew).setRow W.heap.size C') x) g o := by
  rw [setCell_eq_setRow W gS k cs t (0, 0) v hS]
  exact At.gx (At.row_other (At.drew (At.alloc (At.row_other h hne))) (by have := h.lt; omega))
theorem NM.store (h : NM b W n s lim gS gI gQ g9 Z) (hk : Z.length < n) (W2 : World) (hW2 : W2 = ((W.setCell ⟨gS, Z.length, none⟩ (.slice (some ⟨W.heap.size, 0, none⟩) (16 + 97 * s) (16 + 97 * s))).alloc (.cells (bc (zerosI (16 + 97 * s))) 5)).drew) (hm : 16 + 97 * s ≤ maxLen) :
    W2.cell? ⟨g9, 2, none⟩ = some (.slice (some ⟨gS, 0, none⟩) n n) ∧ W2.cell? ⟨gS, Z.length, none⟩ = some (.slice (some ⟨W.heap.size, 0, none⟩) (16 + 97 * s) (16 + 97 * s)) ∧ At W2 W.heap.size (.cells (bc (zerosI (16 + 97 * s))) 5 (0, 0)) ∧
    ∀ x, NM b (Go.Proofs.YthkccbeffonaaaaGreatDoor.gx (W2.setRow W.heap.size (bc (onesB (16 + 97 * s)))) x) n s lim gS gI gQ g9 (Z ++ [(W.heap.size, onesB (16 + 97 * s))]) := by
  subst hW2
  have hne9 : g9 ≠ gS := h.mem.ne h.sec (by decide)
  have hneI : gI ≠ gS := h.wear.ne h.sec (by decide)
  have hneQ : gQ ≠ gS := h.bad.ne h.sec (by decide)
  have hneb : b ≠ gS := by have := h.bS; omega
  have e := setCell_eq_setRow W gS Z.length _ _ (0, 0) (.slice (some ⟨W.heap.size, 0, none⟩) (16 + 97 * s) (16 + 97 * s)) h.sec
  have hset : ((hdrs (16 + 97 * s) n Z).toArray.setIfInBounds Z.length (.slice (some ⟨W.heap.size, 0, none⟩) (16 + 97 * s) (16 + 97 * s))) = (hdrs (16 + 97 * s) n (Z ++ [(W.heap.size, onesB (16 + 97 * s))])).toArray := by
    have := hdrs_set (16 + 97 * s) n Z (W.heap.size, onesB (16 + 97 * s)) hk
    rw [← this]
    unfold hdr
    rw [onesB_len]
    simp
  have hI : Is W gS 39 := ⟨_, h.sec⟩
  have hS1 : At (W.setCell ⟨gS, Z.length, none⟩ (.slice (some ⟨W.heap.size, 0, none⟩) (16 + 97 * s) (16 + 97 * s))) gS (.cells (hdrs (16 + 97 * s) n (Z ++ [(W.heap.size, onesB (16 + 97 * s))])).toArray 39 (0, 0)) := by
    rw [e, ← hset]
    exact At.row hI
  have hsz : (W.setCell ⟨gS, Z.length, none⟩ (.slice (some ⟨W.heap.size, 0, none⟩) (16 + 97 * s) (16 + 97 * s))).heap.size = W.heap.size := by rw [e]; simp
  have hN0 : At (((W.setCell ⟨gS, Z.length, none⟩ (.slice (some ⟨W.heap.size, 0, none⟩) (16 + 97 * s) (16 + 97 * s))).alloc (.cells (bc (zerosI (16 + 97 * s))) 5)).drew) W.heap.size (.cells (bc (zerosI (16 + 97 * s))) 5 (0, 0)) := At.drew (At.new' hsz.symm)
  have hlS : gS < W.heap.size := h.sec.lt
  refine ⟨?_, ?_, hN0, fun x => ⟨h.bS, h.bI, h.bQ, h.b9, keepA h.res h.sec hneb, keepA h.mem h.sec hne9, ?_, ?_, keepA h.wear h.sec hneI, keepA h.bad h.sec hneQ⟩⟩
  · have hm9 : At (((W.setCell ⟨gS, Z.length, none⟩ (.slice (some ⟨W.heap.size, 0, none⟩) (16 + 97 * s) (16 + 97 * s))).alloc (.cells (bc (zerosI (16 + 97 * s))) 5)).drew) g9 (.cells (fiveC n s lim gS gI gQ) 26 (0, 0)) := by
      rw [e]
      exact At.drew (At.alloc (At.row_other h.mem hne9))
    rw [cell_of_row _ _ _ _ _ _ hm9]
    rfl
  · have hs9 := At.drew (At.alloc (o' := .cells (bc (zerosI (16 + 97 * s))) 5) hS1)
    rw [cell_of_row _ _ _ _ _ _ hs9, List.getElem?_toArray, ← hdrs_set _ _ _ _ hk, List.getElem?_set_self (by rw [hdrs_len _ _ _ (by omega)]; exact hk)]
    unfold hdr
    rw [onesB_len]
  · exact At.gx (At.row_other (At.drew (At.alloc hS1)) (by omega))
  · refine Secs.snoc ⟨fun i p hp => ?_, h.secs.inc⟩ W.heap.size _ (fun i p hp => (h.secs.at_ i p hp).2.1.lt) (by have := h.res.lt; omega) ?_ (by rw [onesB_len]; exact Nat.le_refl _) (by rw [onesB_len]; exact hm) (onesB_bs _) (fun j _ => rfl)
    · obtain ⟨h1, h2, h3⟩ := h.secs.at_ i p hp
      exact ⟨h1, keepA h2 h.sec (h2.ne h.sec (by decide)), h3⟩
    · exact At.gx (At.row ⟨_, hN0⟩)
theorem own_whole {W : World} {g : Nat} {e : TypeId} {xs : List Value} {n b : Nat} (hA : At W g (.cells xs.toArray e (0, 0))) (hl : xs.length = n) (hb : b ≤ g) (hm : n ≤ maxLen) : Own b W e 1 (.slice (some ⟨g, 0, none⟩) n n) n xs := by
  refine Own.mk' ⟨by rw [hl, Nat.mul_one], .inr ⟨g, n, xs.toArray, rfl, hb, hA, Nat.le_refl _, hm, by simp [hl], ?_⟩⟩
  rw [Nat.mul_one, ← hl]
  simp
/-- It is the call's own at the end. -/
theorem blank_s {i : Nat} (hi : i < n) : (blankM n s lim).s i = onesB (16 + 97 * s) := by
  unfold PM.s blankM
  simp [List.getD, hi]
theorem NM.omem {C : Array Value} (h : NM b W n s lim gS gI gQ g9 Z) (hl : Z.length = n) (_hm : 16 + 97 * s ≤ maxLen) (hn : n ≤ 64) : OMem b (W.setRow b C) (blankM n s lim) gS (.slice (some ⟨gI, 0, none⟩) n n) (.slice (some ⟨gQ, 0, none⟩) n n) Z := by
  have hmx : n ≤ maxLen := by simp only [maxLen]; omega
  have hbS := h.bS
  have hbI := h.bI
  have hbQ := h.bQ
  have e1 : (blankM n s lim).wear = zerosI n := rfl
  have e2 : (blankM n s lim).bad = List.replicate n false := rfl
  refine ⟨by rw [secs_len, hl], by omega, ?_, ⟨fun i p hp => ?_, h.secs.inc⟩, ?_, ?_⟩
  · have := h.sec
    rw [hdrs_full _ _ _ hl] at this
    exact At.row_other this (by omega)
  · obtain ⟨h1, h2, h3, h4, h5, h6⟩ := h.secs.at_ i p hp
    have hi : i < n := by rw [← hl]; exact (List.getElem?_eq_some_iff.1 hp).1
    exact ⟨h1, At.row_other h2 (h2.ne h.res (by decide)), h3, h4, h5, fun j hj => by rw [h6 j hj, blank_s hi]⟩
  · rw [e1, zerosI_len]
    exact own_whole (xs := iC (zerosI n)) (At.row_other h.wear (by omega)) (by rw [iC_len, zerosI_len]) (by omega) hmx
  · rw [e2, List.length_replicate]
    exact own_whole (xs := qC (List.replicate n false)) (At.row_other h.bad (by omega)) (by rw [qC_len, List.length_replicate]) (by omega) hmx
end
set_option maxHeartbeats 4000000 in
set_option maxRecDepth 100000 in
theorem NewMemory_ok (n s : Nat) (lim : Int) (h : sizesOk n s lim) (w : World) : Calls Tryz.prog 15 #[.int .i64 n, .int .i64 s, .int .i64 lim] w fun e w' => ∃ gS vW vB Z x, e = .returned (.tuple #[oV (blankM n s lim) gS vW vB, .int .i64 0]) ∧ w' = gx w x ∧ OMem w.heap.size (gx w x) (blankM n s lim) gS vW vB Z := by
  have h' := h
  unfold sizesOk at h'
  have hn : n ≤ 64 := by omega
  have hn' : n ≤ 4194304 := by omega
  have hs' : s ≤ 64 := by omega
  have hs'' : 16 + 97 * s ≤ maxLen := by simp only [maxLen]; omega
  have E0 := Lib.hid (hdrs_nil (16 + 97 * s) n)
  obtain ⟨L, hL⟩ : ∃ L, L = 16 + 97 * s := ⟨_, rfl⟩
  have hL' : L ≤ 4194304 := by omega
  have hm4 := make_bytesn L hL'
  have HL := Lib.hid hL
  have hm1 := make_secs n hn
  have hm2 := make_ints n hn'
  have hm3 := make_boolsn n hn'
  have HH := Lib.hid h
  clear h h' hL
  go_enter Tryz.func15, Tryz.ntmps15
  go_wp2_with (go_at_call 73; go_loud (refine (checkSizes_ok _ _ _ HH.out _).mono ?_; rintro e w' ⟨rfl, z, rfl⟩))
  rename_i Q' K hK
  have cont : ∀ (gS gI gQ g9 : Nat) (W : World), (∃ x, W = gx w x) → NM w.heap.size W n s lim gS gI gQ g9 [] → Exit.then K Q' Exit.normal { tmps := #[.int .i64 n, .int .i64 s, .int .i64 lim, undef, undef, undef, .pointer (some ⟨w.heap.size, 0, none⟩), .int .i64 0, .int .i64 0, .pointer (some ⟨g9, 0, none⟩), undef, .int .i64 n, .int .i64 s, .int .i64 lim, .int .i64 0, .int .i64 0, .bool false, undef, undef, .int .i64 s, .int .i64 lim, .int .i64 n, .slice (some ⟨gS, 0, none⟩) n n, .int .i64 n, .slice (some ⟨gI, 0, none⟩) n n, .int .i64 n, .slice (some ⟨gQ, 0, none⟩) n n, .agg #[.int .i64 s, .int .i64 lim, .slice (some ⟨gS, 0, none⟩) n n, .slice (some ⟨gI, 0, none⟩) n n, .slice (some ⟨gQ, 0, none⟩) n n], undef, undef, undef, undef, undef, undef, undef, undef, undef, undef, undef, undef, undef, undef, undef, undef, undef, undef, undef, undef, undef], defers := [] } W := by
    intro gS gI gQ g9 W hW hN
    refine hK _ _ ?_
    have c9 : W.cell? ⟨g9, 2, none⟩ = some (.slice (some ⟨gS, 0, none⟩) n n) := by rw [cell_of_row _ _ _ _ _ _ hN.mem]; rfl
    have HN := Lib.hid hN
    clear hN
    go_wp2
    go_loopw [31] (fun i wr => ∃ (k : Nat) (Z : List (Nat × List Int)), k ≤ n ∧ i = .int .i64 k ∧ Z.length = k ∧ (∃ x, wr = gx w x) ∧ NM w.heap.size wr n s lim gS gI gQ g9 Z) (fun i _ => n - (intOf i).toNat)
    case atStart => exact ⟨0, [], by omega, rfl, rfl, hW, HN.out⟩
    case round =>
      obtain ⟨k, Z, hk, rfl, hZ, hG, hN⟩ := hrel
      by_cases hlt : k < n
      · have e9 : wr.cell? ⟨g9, 2, none⟩ = some (.slice (some ⟨gS, 0, none⟩) n n) := by rw [cell_of_row _ _ _ _ _ _ hN.mem]; rfl
        have hlk := hdrs_len (16 + 97 * s) n Z (by omega)
        obtain ⟨v, hv⟩ : ∃ v, wr.cell? ⟨gS, k, none⟩ = some v := ⟨_, by rw [cell_of_row _ _ _ _ _ _ hN.sec, List.getElem?_toArray, List.getElem?_eq_getElem (by omega)]⟩
        have hf : wr.frozen? ⟨gS, k, none⟩ = false := frozen_of_row wr gS _ _ _ hN.sec
        have hne : g9 ≠ gS := hN.mem.ne hN.sec (by decide)
        have lS := hN.sec.lt
        have l9 := hN.mem.lt
        have HN2 := Lib.hid hN
        clear hN
        go_wp2
        go_region_with (go_at_call 74; go_loud (refine (sectorBytes_any s hs' _).mono ?_; rw [← HL.out]; rintro e w' ⟨rfl, rfl⟩))
        all_goals
          obtain ⟨W2, hW2⟩ : ∃ W2, W2 = ((wr.setCell ⟨gS, k, none⟩ (.slice (some ⟨wr.heap.size, 0, none⟩) L L)).alloc (.cells (bc (zerosI L)) 5)).drew := ⟨_, rfl⟩
          rw [← hW2]
          have hst := HN2.out.store (by omega) W2 (by rw [hZ, ← HL.out]; exact hW2) (by rw [← HL.out]; simp only [maxLen]; omega)
          rw [← HL.out, hZ] at hst
          obtain ⟨hk9, hkS, hkN, hkR⟩ := hst
          have hbS := HN2.out.bS
          have hG2 : ∃ x, W2 = gx w x := by rw [hW2]; exact Gx.drew (Gx.alloc (Gx.setCell hG (by omega)))
          have hbN : w.heap.size ≤ wr.heap.size := by have := HN2.out.res.lt; omega
          have HR := Lib.hid hkR
          have lN := hkN.lt
          clear hkR hW2
          go_wp2_with (go_at_call 75; go_loud (refine (fill_any (zerosI L) wr.heap.size 0 L L (by rw [zerosI_len]; omega) (by omega) _ hkN).mono ?_; rw [fill_zeros]; rintro e w' ⟨rfl, x, rfl⟩))
          refine ⟨⟨k + 1, _, by omega, ?_, ?_, Gx.gx (Gx.setRow hG2 hbN), HR.out x⟩, ?_⟩
          · go_num
          · simp [hZ]
          · simp [intOf]; omega
      · have hkn : Z.length = n := by omega
        obtain rfl : k = n := by omega
        have hlb : w.heap.size < wr.heap.size := hN.res.lt
        have HN2 := Lib.hid hN
        have hr := hN.res
        have hmm := hN.mem
        clear hN
        go_wp2_with (first | (refine wpList_load_row rfl _ _ rfl _ rfl _ _ _ _ hmm Tryz.underlying26 rfl (by unfold fiveC; kernel_rfl) ?_) | (refine wpList_store_row rfl _ _ _ rfl _ _ rfl rfl _ _ hr (by unfold fiveC; kernel_rfl) (by unfold fiveC; rfl) (by simp [fiveC, Value.oneCell']) ?_))
        have hr2 : At (wr.setRow w.heap.size (fiveC k s lim gS gI gQ)) w.heap.size (.cells (fiveC k s lim gS gI gQ) 26 (0, 0)) := At.row ⟨_, hr⟩
        change bodyPost Tryz.prog Tryz.f15 _ .ret _ _
        refine ret_st2 rfl _ _ w.heap.size (fiveC k s lim gS gI gQ) _ rfl rfl rfl (run_loadVar_row _ w.heap.size 26 26 _ (0, 0) _ hr2 Tryz.underlying26 rfl (by unfold fiveC; kernel_rfl)) ?_
        obtain ⟨x, hx⟩ : ∃ x, wr.setRow w.heap.size (fiveC k s lim gS gI gQ) = gx w x := Gx.setRow hG (Nat.le_refl _)
        refine ⟨gS, .slice (some ⟨gI, 0, none⟩) k k, .slice (some ⟨gQ, 0, none⟩) k k, Z, x, ?_, hx, ?_⟩
        · unfold oV fiveC
          rw [secs_len]
          rfl
        · rw [← hx]
          exact HN2.out.omem hkn hs'' hn
  go_region
  all_goals
    refine cont _ _ _ _ _ ?_ ?_
    · exact (by repeat (first | (with_reducible exact Gx.refl _) | (with_reducible assumption) | (with_reducible refine Gx.gx ?_) | (with_reducible refine Gx.alloc ?_) | (with_reducible refine Gx.drew ?_) | (with_reducible refine Gx.drewN ?_) | (with_reducible refine Gx.setRow ?_ (by simp)) | (with_reducible refine Gx.setCell ?_ (by simp))))
    · refine ⟨by omega, by omega, by omega, by omega, ?_, ?_, ?_, Secs.nil _ _ _ _, ?_, ?_⟩
      all_goals first | ((focus (repeat (first | (with_reducible assumption) | (with_reducible exact At.new _ _) | (with_reducible refine At.row ?_) | (with_reducible refine At.app ?_) | (with_reducible refine At.tick ?_) | (with_reducible refine At.gx ?_) | ((with_reducible refine At.new' ?_); focus (simp; done)) | (with_reducible refine At.alloc ?_) | (with_reducible refine At.drew ?_) | (with_reducible exact Is.new _ _ _) | (with_reducible refine Is.row ?_) | (with_reducible refine Is.gx ?_) | ((with_reducible refine Is.new' ?_); focus (simp; done)) | (with_reducible refine Is.alloc ?_) | (with_reducible refine Is.drew ?_)))); done) | (unfold fiveC; (focus (repeat (first | (with_reducible assumption) | (with_reducible exact At.new _ _) | (with_reducible refine At.row ?_) | (with_reducible refine At.app ?_) | (with_reducible refine At.tick ?_) | (with_reducible refine At.gx ?_) | ((with_reducible refine At.new' ?_); focus (simp; done)) | (with_reducible refine At.alloc ?_) | (with_reducible refine At.drew ?_) | (with_reducible exact Is.new _ _ _) | (with_reducible refine Is.row ?_) | (with_reducible refine Is.gx ?_) | ((with_reducible refine Is.new' ?_); focus (simp; done)) | (with_reducible refine Is.alloc ?_) | (with_reducible refine Is.drew ?_)))); done) | (rw [E0.out]; (focus (repeat (first | (with_reducible assumption) | (with_reducible exact At.new _ _) | (with_reducible refine At.row ?_) | (with_reducible refine At.app ?_) | (with_reducible refine At.tick ?_) | (with_reducible refine At.gx ?_) | ((with_reducible refine At.new' ?_); focus (simp; done)) | (with_reducible refine At.alloc ?_) | (with_reducible refine At.drew ?_) | (with_reducible exact Is.new _ _ _) | (with_reducible refine Is.row ?_) | (with_reducible refine Is.gx ?_) | ((with_reducible refine Is.new' ?_); focus (simp; done)) | (with_reducible refine Is.alloc ?_) | (with_reducible refine Is.drew ?_)))); done) | (rw [E0.out, List.toArray_replicate]; (focus (repeat (first | (with_reducible assumption) | (with_reducible exact At.new _ _) | (with_reducible refine At.row ?_) | (with_reducible refine At.app ?_) | (with_reducible refine At.tick ?_) | (with_reducible refine At.gx ?_) | ((with_reducible refine At.new' ?_); focus (simp; done)) | (with_reducible refine At.alloc ?_) | (with_reducible refine At.drew ?_) | (with_reducible exact Is.new _ _ _) | (with_reducible refine Is.row ?_) | (with_reducible refine Is.gx ?_) | ((with_reducible refine Is.new' ?_); focus (simp; done)) | (with_reducible refine Is.alloc ?_) | (with_reducible refine Is.drew ?_)))); done)
end Go.Proofs.YthkccbeffonaaaaGreatDoor

/-
  put: a frame goes into a new recorder's first slot: the contract.
-/
namespace Go.Proofs.YthkccbeffonaaaaGreatDoor
open Go.RowKit
-- AT2
-- AT3

section
variable {b : Nat} {W : World} {m : PM} {gr gm gS gs : Nat} {A1 A2 : Option Addr} {c1 c2 c3 : Nat} {Z : List (Nat × List Int)} {fz st : Bool} {last : Int}
set_option maxHeartbeats 400000 in
set_option maxRecDepth 100000 in
theorem put_new (wk : World) (hG : ∃ x, W = gx wk x) (hb : wk.heap.size ≤ b) (h : RecSt b W m gr gm gS A1 A2 (some ⟨gs, 0, none⟩) c1 c2 c3 Z (-1) 0 false false last) (hm : Good m) (h0 : gq m.bad 0 = false) (h1 : gw m.wear 0 < m.limit) (hno : ∀ k, k < m.sec.length → NoHead (m.s k)) (gd cd : Nat) (D : List Int) (hDb : Bs D) (hDl : D.length = 96) (hAd : At W gd (.cells (bc D) 5 (0, 0))) (hgd : ∀ q, Z[0]? = some q → gd ≠ q.1) (p : Int) (hp : 108 ≤ p) (hp' : p ≤ 1000000000) :
    Calls Tryz.prog 117 #[.pointer (some ⟨gr, 0, none⟩), .int .i64 0, .slice (some ⟨gd, 0, none⟩) 96 cd, .int .i64 p] W fun e w' => e = .returned (.tuple #[.int .i64 (p - 108), .bool true]) ∧ (∃ x, w' = gx wk x) ∧ ∃ Z', RecSt b w' { m with wear := m.wear.set 0 (gw m.wear 0 + 1), sec := m.sec.set 0 (doneB (16 + 97 * m.slots) D) } gr gm gS A1 A2 (some ⟨gs, 0, none⟩) c1 c2 c3 Z' 0 1 false false last := by
  have HS := Lib.hid h
  have HD := Lib.hid hAd
  have HN := Lib.hid hno
  have hs := hm.sizes
  unfold sizesOk at hs
  have hn0 : 0 < m.sec.length := by omega
  have hsl : 1 ≤ m.slots ∧ m.slots ≤ 64 := by omega
  clear h hAd hno hs
  go_enter Tryz.func117, Tryz.ntmps117
  go_wp2_with (first | (go_at_call 146; go_loud (refine (isFull_new (HS.out.rd rfl)).mono ?_; rintro e W1 ⟨rfl, z1, hW1⟩; have hS1 := Lib.hid (hW1 ▸ HS.out.gx : RecSt b W1 m gr gm gS A1 A2 (some ⟨gs, 0, none⟩) c1 c2 c3 Z (-1) 0 false false last); have hD1 := Lib.hid (hW1 ▸ At.gx HD.out : At W1 gd (.cells (bc D) 5 (0, 0))); have hG1 := Lib.hid (hW1 ▸ Gx.gx hG : ∃ x, W1 = gx wk x); clear hW1)) | (go_at_call 150; go_loud (refine (open_new wk hG1.out hb hS1.out hm h0 h1 HN.out gd D hD1.out hgd p (by omega) hp').mono ?_; rintro e W2 ⟨rfl, hG2', hD2', Z2, hZ2, hS2'⟩; have hG2 := Lib.hid hG2'; have hD2 := Lib.hid hD2'; have hS2 := Lib.hid hS2'; clear hG2' hD2' hS2'; obtain ⟨⟨f0, C0⟩, hz0⟩ : ∃ q, Z2[0]? = some q := ⟨_, List.getElem?_eq_getElem (by rw [hS2.out.om.fl]; simpa using hn0)⟩; obtain ⟨hbf, hAf, hCL, hCm, hCb, hCg⟩ := hS2.out.om.secs.at_ 0 _ hz0; simp only [maxLen] at hCL hCm; have hfd : gd ≠ f0 := (by obtain ⟨q0, hq0, e0⟩ := hZ2 _ hz0; exact fun e => hgd _ hq0 (e.trans e0.symm)); obtain ⟨q1, q2, q3, x0, x1, x2, x3, x4, x5, y0, y1, y2, y3, y4, u0, u1⟩ := hS2.out.rd rfl; have k2 : W2.cell? ⟨gS, 0, none⟩ = some (.slice (some ⟨f0, 0, none⟩) (16 + 97 * m.slots) C0.length) := (by rw [cell_of_row _ _ _ _ _ _ hS2.out.om.sec]; simp [hdr, hz0]); have hAF := Lib.hid (hAf : At W2 f0 (.cells (bc C0) 5 (0, 0))); have hCB : Bs C0 := hCb; have hbf' : b ≤ f0 := hbf; have hCG := Lib.hid (fun j (hj : j < 16 + 97 * m.slots) => (by have := hCg j hj; rw [setSec_s (m := { m with wear := m.wear.set 0 (gw m.wear 0 + 1) }) hn0] at this; simpa using this : gw C0 j = gw (headedB (16 + 97 * m.slots)) j)); simp only [List.length_set] at y2; have lS : gS < W2.heap.size := hS2.out.om.sec.lt; clear hAf hCg hCb hbf x1 x3 x4 x5 y0 y1 y3 y4)))
  first | (with_reducible refine region_gxx (by kernel_rfl) (by kernel_rfl) ?_) | (with_reducible refine region_gx (by kernel_rfl) (by kernel_rfl) ?_)
  repeat (any_goals (first | (refine quiet_fr rfl _ rfl _ rfl ?_ ?_ ?_ ?_; rotate_left; (focus (rintro _ ⟨x, rfl⟩; (focus (repeat (first | (with_reducible assumption) | (with_reducible exact At.new _ _) | (with_reducible refine At.row ?_) | ((with_reducible refine At.row_other ?_ ?_); rotate_left; (focus (simp <;> omega))) | (with_reducible refine At.app ?_) | (with_reducible refine At.tick ?_) | (with_reducible refine At.gx ?_) | ((with_reducible refine At.new' ?_); focus (simp; done)) | (with_reducible refine At.alloc ?_) | (with_reducible refine At.drew ?_) | (with_reducible exact Is.new _ _ _) | (with_reducible refine Is.row ?_) | ((with_reducible refine Is.row_other ?_ ?_); rotate_left; (focus (simp <;> omega))) | (with_reducible refine Is.gx ?_) | ((with_reducible refine Is.new' ?_); focus (simp; done)) | (with_reducible refine Is.alloc ?_) | (with_reducible refine Is.drew ?_)))))); (focus (with_reducible (first | exact hl | exact hl1 | exact hl2 | exact hl3 | exact hl4 | exact zeroF_len)))) | go_big_quiet_step ((first | (go_at_call 95; exact calls_gx_same (slotOf_any f0 0 (16 + 97 * m.slots) C0.length m.slots 0 rfl hCL (by omega) (by omega) (by omega) _)))) | quiet_step ((first | (go_at_call 95; exact calls_gx_same (slotOf_any f0 0 (16 + 97 * m.slots) C0.length m.slots 0 rfl hCL (by omega) (by omega) (by omega) _))))))
  refine wpQuiet_nil ?_
  rintro _ ⟨x, rfl⟩
  have hS3 := Lib.hid (RecSt.gx (x := x) hS2.out)
  have hD3 := Lib.hid (At.gx (x := x) hD2.out)
  have hG3 := Lib.hid (Gx.gx (y := x) hG2.out)
  have hF3 := Lib.hid (At.gx (x := x) hAF.out)
  generalize gx W2 x = W3 at *
  have hd3 : Hid (∀ j, j < 96 → W3.cell? ⟨gd, 0 + j, none⟩ = some (.int .u8 (gw D j))) := Lib.hid (fun j hj => by rw [Nat.zero_add, cell_of_row _ _ _ _ _ _ hD3.out, bc_get _ _ (by omega)])
  have hz0' := Lib.hid hz0
  have hZ0 : 0 < Z2.length := (List.getElem?_eq_some_iff.1 hz0).1
  clear hz0 hS2 hD2 hG2 hAF
  go_upto_region 12 with (go_at_call 86; go_loud (refine (write_fulln C0 D 96 f0 16 96 97 gd 0 cd (p - 11) hDl (by omega) (by omega) (by omega) hfd (by omega) (by omega) _ hF3.out hd3.out).mono ?_; rintro e W4 ⟨rfl, z, hW4⟩; have hS4 := Lib.hid ((hW4 ▸ RecSt.gx (RecSt.setSec hS3.out (by simpa using hn0) hz0'.out (by rw [wrB_len]) (wr_bs hCB hDb (by omega)) (slotB (16 + 97 * m.slots) D) (fun j hj => by unfold slotB; exact wr_same (by omega) (by rw [headed_len (by omega)]; omega) hCG.out j hj)) : RecSt b W4 _ gr gm gS A1 A2 (some ⟨gs, 0, none⟩) c1 c2 c3 _ 0 0 false false last)); have hG4 := Lib.hid (hW4 ▸ Gx.gx (Gx.setRow hG3.out (by omega)) : ∃ x, W4 = gx wk x); clear hW4; obtain ⟨q1', q2', q3', v0, v1, v2, v3, v4, v5, n0, n1, n2, n3, n4, t0, t1⟩ := hS4.out.rd rfl; obtain ⟨gs', cur4, e4, hbg, hA4, -⟩ := hS4.out.gs; simp only [Option.some.injEq, Addr.mk.injEq, and_true] at e4; subst e4; have fz1 : W4.frozen? ⟨gs, 1, none⟩ = false := frozen_at hA4; clear v0 v1 v2 v3 v4 v5 n0 n1 n2 n3 n4 t0 hA4 u0 u1 k2))
  go_wp2_with (go_at_call 86; have hS5 := Lib.hid (RecSt.alloc (ob := .cells #[.int .u8 0] 5) (hS4.out.setSlot rfl 1)); have hz4 : Hid ((Z2.set 0 (f0, wrB C0 D 16 96))[0]? = some (f0, wrB C0 D 16 96)) := Lib.hid (List.getElem?_set_self hZ0); have hF5 := Lib.hid (hS5.out.om.secs.at_ 0 _ hz4.out).2.1; have hlf : f0 < W4.heap.size := (hS4.out.om.secs.at_ 0 _ hz4.out).2.1.lt; have hd5 : Hid (∀ j, j < 1 → ((W4.setCell ⟨gs, 1, none⟩ (.int .i64 1)).alloc (.cells #[.int .u8 0] 5)).cell? ⟨W4.heap.size, 0 + j, none⟩ = some (.int .u8 (gw [0] j))) := Lib.hid (fun j hj => (by obtain rfl : j = 0 := (by omega); have h9 : At ((W4.setCell ⟨gs, 1, none⟩ (.int .i64 1)).alloc (.cells #[.int .u8 0] 5)) W4.heap.size (.cells #[.int .u8 0] 5 (0, 0)) := At.new' (by simp); rw [cell_of_row _ _ _ _ _ _ h9]; unfold gw; rfl)); go_loud (refine (write_fulln (wrB C0 D 16 96) [0] 1 f0 112 1 1 W4.heap.size 0 1 (p - 11 - 96) rfl (by omega) (by rw [wrB_len]; omega) (by omega) (by omega) (by omega) (by omega) _ hF5.out hd5.out).mono ?_; rintro e W6 ⟨rfl, z, hW6⟩; have hS6 := Lib.hid ((hW6 ▸ RecSt.gx (RecSt.setSec hS5.out (by simpa using hn0) hz4.out (by rw [wrB_len]) (wr_bs (wr_bs hCB hDb (by omega)) zero_bs (by rw [wrB_len]; omega)) (doneB (16 + 97 * m.slots) D) (fun j hj => by unfold doneB; exact wr_same (by rw [wrB_len]; omega) (by rw [slot_len (by omega)]; omega) (fun i hi => by unfold slotB; exact wr_same (by omega) (by rw [headed_len (by omega)]; omega) hCG.out i hi) j hj)) : RecSt b W6 _ gr gm gS A1 A2 (some ⟨gs, 0, none⟩) c1 c2 c3 _ 0 1 false false last)); have hG6 := Lib.hid (hW6 ▸ Gx.gx (Gx.setRow (Gx.alloc (Gx.setCell hG4.out (by omega))) (by omega)) : ∃ x, W6 = gx wk x); clear hW6))
  go_ret2
  have hF := hS6.out
  simp only [List.set_set] at hF
  have hpp : p - 11 - 96 - 1 = p - 108 := by omega
  exact ⟨by rw [← hpp]; rfl, hG6.out, _, hF⟩
end
end Go.Proofs.YthkccbeffonaaaaGreatDoor

/-
  What Record calls: ToBytes, whose bytes are new; the recorder's last number.
-/
namespace Go.Proofs.YthkccbeffonaaaaGreatDoor
open Go.RowKit
-- AT2

set_option maxHeartbeats 600000 in
set_option maxRecDepth 100000 in
theorem ToBytes_new (F : List Int) (hF : Fr F) (hw : wideB F = false) (w : World) :
    Calls Tryz.prog 116 #[.agg (fc F)] w fun e w' => ∃ g x, e = .returned (.tuple #[.slice (some ⟨g, 0, none⟩) 96 96, .int .i64 0]) ∧ w' = gx w x ∧ w.heap.size ≤ g ∧ At (gx w x) g (.cells (bc (packF F)) 5 (0, 0)) := by
  have hl := hF.len
  have hn := wideB_false.1 hw
  have hz := zerosI_len 96
  have hp : wrF (zerosI 96) 0 F = packF F := by unfold packF; rfl
  have key : ∀ W g, (∃ x, W = gx w x) → w.heap.size ≤ g → At W g (.cells (bc (packF F)) 5 (0, 0)) → ∃ g' x, Ending.returned (.tuple #[.slice (some ⟨g, 0, none⟩) 96 96, .int .i64 0]) = .returned (.tuple #[.slice (some ⟨g', 0, none⟩) 96 96, .int .i64 0]) ∧ W = gx w x ∧ w.heap.size ≤ g' ∧ At (gx w x) g' (.cells (bc (packF F)) 5 (0, 0)) := fun W g ⟨x, h⟩ hg hA => ⟨g, x, rfl, h, hg, h ▸ hA⟩
  have Key := Lib.hid key
  clear key
  have hat : ∀ w b, (Instr.arrayAt 258 (.slice (some ⟨b, 0, none⟩) 96 96)).run Tryz.prog w = .ok (.pointer (some ⟨b, 0, none⟩)) w := fun w b => run_arrayAt _ _ _ _ _ _ _ Tryz.underlying258 (by omega)
  go_enter Tryz.func116, Tryz.ntmps116
  go_wp2_with (first | (refine load_fr rfl _ rfl _ rfl ?_ ?_ ?_ ?_; rotate_left; (focus (repeat (first | (with_reducible assumption) | (with_reducible exact At.new _ _) | (with_reducible refine At.row ?_) | (with_reducible refine At.app ?_) | (with_reducible refine At.tick ?_) | (with_reducible refine At.gx ?_) | ((with_reducible refine At.new' ?_); focus (simp; done)) | (with_reducible refine At.alloc ?_) | (with_reducible refine At.drew ?_) | (with_reducible exact Is.new _ _ _) | (with_reducible refine Is.row ?_) | (with_reducible refine Is.gx ?_) | ((with_reducible refine Is.new' ?_); focus (simp; done)) | (with_reducible refine Is.alloc ?_) | (with_reducible refine Is.drew ?_)))); (focus (with_reducible (first | exact hl | exact hl1 | exact hl2 | exact hl3 | exact hl4 | exact zeroF_len)))) | (go_at_call 139; refine (isWide_any F hF _).mono ?_; rintro e w' ⟨rfl, z, rfl⟩))
  first | (with_reducible refine region_gx_tail 3 (by kernel_rfl) (by kernel_rfl) ?_) | (with_reducible refine region_w_tail 3 (by kernel_rfl) (by kernel_rfl) ?_)
  simp only [List.take_succ_cons, List.take_zero, List.drop_succ_cons, List.drop_zero]
  repeat (any_goals (first | (refine quiet_fr rfl _ rfl _ rfl ?_ ?_ ?_ ?_; rotate_left; (focus (rintro _ ⟨x, rfl⟩; (focus (repeat (first | (with_reducible assumption) | (with_reducible exact At.new _ _) | (with_reducible refine At.row ?_) | (with_reducible refine At.app ?_) | (with_reducible refine At.tick ?_) | (with_reducible refine At.gx ?_) | ((with_reducible refine At.new' ?_); focus (simp; done)) | (with_reducible refine At.alloc ?_) | (with_reducible refine At.drew ?_) | (with_reducible exact Is.new _ _ _) | (with_reducible refine Is.row ?_) | (with_reducible refine Is.gx ?_) | ((with_reducible refine Is.new' ?_); focus (simp; done)) | (with_reducible refine Is.alloc ?_) | (with_reducible refine Is.drew ?_)))))); (focus (with_reducible (first | exact hl | exact hl1 | exact hl2 | exact hl3 | exact hl4 | exact zeroF_len)))) | go_big_quiet_step ((first | fail)) | quiet_step ((first | fail))))
  refine wpQuiet_nil ?_
  rintro _ ⟨x, rfl⟩
  go_wp2_with (go_at_call 149; refine (write_any (zerosI 96) (zeros_bs 96) 0 (by rw [zerosI_len]; decide) F hF hn _ _ ?_).mono ?_; (focus (repeat (first | (with_reducible assumption) | (with_reducible exact At.new _ _) | (with_reducible refine At.row ?_) | (with_reducible refine At.app ?_) | (with_reducible refine At.tick ?_) | (with_reducible refine At.gx ?_) | ((with_reducible refine At.new' ?_); focus (simp; done)) | (with_reducible refine At.alloc ?_) | (with_reducible refine At.drew ?_) | (with_reducible exact Is.new _ _ _) | (with_reducible refine Is.row ?_) | (with_reducible refine Is.gx ?_) | ((with_reducible refine Is.new' ?_); focus (simp; done)) | (with_reducible refine Is.alloc ?_) | (with_reducible refine Is.drew ?_)))); rintro e w' ⟨rfl, z, rfl⟩)
  go_wp2
  go_ret2
  refine Key.out _ _ ?_ ?_ ?_
  · exact (by repeat (first | (with_reducible exact Gx.refl _) | (with_reducible assumption) | (with_reducible refine Gx.gx ?_) | (with_reducible refine Gx.alloc ?_) | (with_reducible refine Gx.drew ?_) | (with_reducible refine Gx.drewN ?_) | (with_reducible refine Gx.setRow ?_ (by simp)) | (with_reducible refine Gx.setCell ?_ (by simp))))
  · first | exact Nat.le_refl _ | omega | (simp; done) | (simp; omega)
  · (focus (repeat (first | (with_reducible assumption) | (with_reducible exact At.new _ _) | (with_reducible refine At.row ?_) | (with_reducible refine At.app ?_) | (with_reducible refine At.tick ?_) | (with_reducible refine At.gx ?_) | ((with_reducible refine At.new' ?_); focus (simp; done)) | (with_reducible refine At.alloc ?_) | (with_reducible refine At.drew ?_) | (with_reducible exact Is.new _ _ _) | (with_reducible refine Is.row ?_) | (with_reducible refine Is.gx ?_) | ((with_reducible refine Is.new' ?_); focus (simp; done)) | (with_reducible refine Is.alloc ?_) | (with_reducible refine Is.drew ?_))))

section
variable {b : Nat} {W : World} {m : PM} {gr gm gS : Nat} {A1 A2 A3 : Option Addr} {c1 c2 c3 : Nat} {Z : List (Nat × List Int)} {sec slot : Int} {fz st : Bool} {last : Int}
/-- The number of the last frame. -/
theorem RecSt.setLast (h : RecSt b W m gr gm gS A1 A2 A3 c1 c2 c3 Z sec slot fz st last) (last' : Int) : RecSt b (W.setCell ⟨gr, 5, none⟩ (.int .i64 last')) m gr gm gS A1 A2 A3 c1 c2 c3 Z sec slot fz st last' := by
  have hA := h.r
  have e := setCell_eq_setRow W gr 5 _ 148 (0, 0) (.int .i64 last') hA
  rw [e]
  exact ⟨h.br, h.bm, At.row ⟨_, hA⟩, h.mem.row_other (h.mem.ne hA (by decide)), ⟨h.om.fl, h.om.base, h.om.sec.row_other (h.om.sec.ne hA (by decide)), h.om.secs.row_ne hA (by decide), h.om.wear.row_ne (h.om.wear.ne_of_type hA (by decide)), h.om.bad.row_ne (h.om.bad.ne_of_type hA (by decide))⟩, h.std.row_ne (h.std.ne_of_type hA (by decide))⟩
end
end Go.Proofs.YthkccbeffonaaaaGreatDoor

/-
  Record of a sound frame on a new recorder: the contract.
-/
namespace Go.Proofs.YthkccbeffonaaaaGreatDoor
open Go.RowKit
-- AT2
-- AT3

theorem Tab.of_gx {w W : World} (h : Tab w) (hW : ∃ x, W = Go.Proofs.YthkccbeffonaaaaGreatDoor.gx w x) : Tab W := by
  obtain ⟨x, rfl⟩ := hW
  exact h.gx _
section
variable {b : Nat} {W : World} {m : PM} {gr gm gS gs : Nat} {A1 A2 : Option Addr} {c1 c2 c3 : Nat} {Z : List (Nat × List Int)} {last : Int}
set_option maxHeartbeats 600000 in
set_option maxRecDepth 100000 in
theorem Record_new (wk : World) (hT : Tab wk) (hG : ∃ x, W = gx wk x) (hb : wk.heap.size ≤ b) (h : RecSt b W m gr gm gS A1 A2 (some ⟨gs, 0, none⟩) c1 c2 c3 Z (-1) 0 false false last) (hm : Good m) (h0 : gq m.bad 0 = false) (h1 : gw m.wear 0 < m.limit) (hno : ∀ k, k < m.sec.length → NoHead (m.s k))
    (G : List Int) (hF : Fr G) (hNr : Narrow G) (hs : soundB G = true) (hw : wideB G = false) (o1 : oddI (gw G 1) = true) (o2 : oddI (gw G 2) = true) (hn0 : 0 ≤ numI G) (hn1 : numI G < 4194304) (p : Int) (hp : 108 ≤ p) (hp' : p ≤ 1000000000) :
    Calls Tryz.prog 54 #[.pointer (some ⟨gr, 0, none⟩), .agg (fc G), .int .i64 p] W fun e w' => e = .returned (.tuple #[.int .i64 (p - 108), .bool true, .int .i64 0]) ∧ (∃ x, w' = gx wk x) ∧ ∃ Z', RecSt b w' { m with wear := m.wear.set 0 (gw m.wear 0 + 1), sec := m.sec.set 0 (doneB (16 + 97 * m.slots) (packF G)) } gr gm gS A1 A2 (some ⟨gs, 0, none⟩) c1 c2 c3 Z' 0 1 false false (numI G) := by
  have hl := hF.len
  have hPb : Bs (packF G) := FrBs hF hNr
  have HS := Lib.hid h
  have HG := Lib.hid hG
  have HN := Lib.hid hno
  clear h hG hno
  go_enter Tryz.func54, Tryz.ntmps54
  go_upto_region 7 with (first | (refine load_fr rfl _ rfl _ rfl ?_ ?_ ?_ ?_; rotate_left; (focus (repeat (first | (with_reducible assumption) | (with_reducible exact At.new _ _) | (with_reducible refine At.row ?_) | ((with_reducible refine At.row_other ?_ ?_); rotate_left; (focus (simp <;> omega))) | (with_reducible refine At.app ?_) | (with_reducible refine At.tick ?_) | (with_reducible refine At.gx ?_) | ((with_reducible refine At.new' ?_); focus (simp; done)) | (with_reducible refine At.alloc ?_) | (with_reducible refine At.drew ?_) | (with_reducible exact Is.new _ _ _) | (with_reducible refine Is.row ?_) | ((with_reducible refine Is.row_other ?_ ?_); rotate_left; (focus (simp <;> omega))) | (with_reducible refine Is.gx ?_) | ((with_reducible refine Is.new' ?_); focus (simp; done)) | (with_reducible refine Is.alloc ?_) | (with_reducible refine Is.drew ?_)))); (focus (with_reducible (first | exact hl | exact hl1 | exact hl2 | exact hl3 | exact hl4 | exact zeroF_len)))) | (go_at_call 113; go_loud (refine (check_ok ((RecSt.alloc HS.out).rd rfl) p (by omega) hp').mono ?_; rintro e W1 ⟨rfl, z1, hW1⟩; have hS1 := Lib.hid (hW1 ▸ RecSt.gx (RecSt.alloc HS.out) : RecSt b W1 m gr gm gS A1 A2 (some ⟨gs, 0, none⟩) c1 c2 c3 Z (-1) 0 false false last); have hG1 := Lib.hid (hW1 ▸ Gx.gx (Gx.alloc HG.out) : ∃ x, W1 = gx wk x); have hB1 : At W1 W.heap.size (.cells (fc G) 57 (0, 0)) := (hW1 ▸ At.gx (At.new _ _)); clear hW1)) | (go_at_call 104; go_loud (refine (Sound_ok G hF hNr hs hw _ ?_).mono ?_; (focus (refine Tab.of_gx (w := wk) hT ?_; first | exact hG1.out | exact hG2.out | exact hG3.out)); rintro e W2 ⟨rfl, z2, hW2⟩; have hS2 := Lib.hid (hW2 ▸ RecSt.gx hS1.out : RecSt b W2 m gr gm gS A1 A2 (some ⟨gs, 0, none⟩) c1 c2 c3 Z (-1) 0 false false last); have hG2 := Lib.hid (hW2 ▸ Gx.gx hG1.out : ∃ x, W2 = gx wk x); have hB2 : At W2 W.heap.size (.cells (fc G) 57 (0, 0)) := (hW2 ▸ At.gx hB1); clear hW2)) | (go_at_call 105; go_loud (refine (Number_any G hF hNr o1 o2 _).mono ?_; rintro e W3 ⟨rfl, z3, hW3⟩; have hS3 := Lib.hid (hW3 ▸ RecSt.gx hS2.out : RecSt b W3 m gr gm gS A1 A2 (some ⟨gs, 0, none⟩) c1 c2 c3 Z (-1) 0 false false last); have hG3 := Lib.hid (hW3 ▸ Gx.gx hG2.out : ∃ x, W3 = gx wk x); have hB3 : At W3 W.heap.size (.cells (fc G) 57 (0, 0)) := (hW3 ▸ At.gx hB2); clear hW3; obtain ⟨q1, q2, q3, x0, x1, x2, x3, x4, x5, y0, y1, y2, y3, y4, u0, u1⟩ := hS3.out.rd rfl; clear q2 q3 x2 x3 x4 x5 y0 y1 y2 y3 y4 u0 u1)))
  go_region_with (go_at_call 110; go_loud (refine (targets_any (numI G) 1 1 hn0 hn1 (by decide) (by decide) (by decide) _).mono ?_; rintro e W4 ⟨gl, z, rfl, hW4, hgl, hAl⟩; rw [← hW4] at hAl; have hS4 := Lib.hid (hW4 ▸ RecSt.gx (RecSt.drew hS3.out) : RecSt b W4 m gr gm gS A1 A2 (some ⟨gs, 0, none⟩) c1 c2 c3 Z (-1) 0 false false last); have hG4 := Lib.hid (hW4 ▸ Gx.gx (Gx.drew hG3.out) : ∃ x, W4 = gx wk x); have hB4 : At W4 W.heap.size (.cells (fc G) 57 (0, 0)) := (hW4 ▸ At.gx (At.drew hB3)); have hl4 : W4.cell? ⟨gl, 0, none⟩ = some (.int .i64 0) := (by rw [cell_of_row _ _ _ _ _ _ hAl, ic_get _ _ (by rw [tgL_len]; decide), gw_tgL (numI G) 1 1 0 (by decide)]; unfold tgI; simp); have lgl : gl < W4.heap.size := hAl.lt; clear hW4 hAl))
  all_goals
    go_wp2_with (first | (refine load_fr rfl _ rfl _ rfl ?_ ?_ ?_ ?_; rotate_left; (focus (repeat (first | (with_reducible assumption) | (with_reducible exact At.new _ _) | (with_reducible refine At.row ?_) | ((with_reducible refine At.row_other ?_ ?_); rotate_left; (focus (simp <;> omega))) | (with_reducible refine At.app ?_) | (with_reducible refine At.tick ?_) | (with_reducible refine At.gx ?_) | ((with_reducible refine At.new' ?_); focus (simp; done)) | (with_reducible refine At.alloc ?_) | (with_reducible refine At.drew ?_) | (with_reducible exact Is.new _ _ _) | (with_reducible refine Is.row ?_) | ((with_reducible refine Is.row_other ?_ ?_); rotate_left; (focus (simp <;> omega))) | (with_reducible refine Is.gx ?_) | ((with_reducible refine Is.new' ?_); focus (simp; done)) | (with_reducible refine Is.alloc ?_) | (with_reducible refine Is.drew ?_)))); (focus (with_reducible (first | exact hl | exact hl1 | exact hl2 | exact hl3 | exact hl4 | exact zeroF_len)))) | (go_at_call 115; go_loud (refine (checkSectors_new (hS4.out.rd rfl) (hS4.out.om.rm hm) hm h0 h1 HN.out gl 1 hl4).mono ?_; rintro e W5 ⟨rfl, z, hW5⟩; have hS5 := Lib.hid (hW5 ▸ RecSt.gx hS4.out : RecSt b W5 m gr gm gS A1 A2 (some ⟨gs, 0, none⟩) c1 c2 c3 Z (-1) 0 false false last); have hG5 := Lib.hid (hW5 ▸ Gx.gx hG4.out : ∃ x, W5 = gx wk x); have hB5 : At W5 W.heap.size (.cells (fc G) 57 (0, 0)) := (hW5 ▸ At.gx hB4); have hl5 : W5.cell? ⟨gl, 0, none⟩ = some (.int .i64 0) := (hW5 ▸ cell_keep_gx hl4); have lgl5 : gl < W5.heap.size := World.block_lt_of_cell? W5 _ hl5; clear hW5)) | (go_at_call 116; go_loud (refine (ToBytes_new G hF hw _).mono ?_; rintro e W6 ⟨gd, z, rfl, hW6, hgd, hAd⟩; rw [← hW6] at hAd; have hgz : ∀ q, Z[0]? = some q → gd ≠ q.1 := (fun q hq e => (by have := (hS5.out.om.secs.at_ 0 q hq).2.1.lt; omega)); have hS6 := Lib.hid (hW6 ▸ RecSt.gx hS5.out : RecSt b W6 m gr gm gS A1 A2 (some ⟨gs, 0, none⟩) c1 c2 c3 Z (-1) 0 false false last); have hG6 := Lib.hid (hW6 ▸ Gx.gx hG5.out : ∃ x, W6 = gx wk x); have hB6 : At W6 W.heap.size (.cells (fc G) 57 (0, 0)) := (hW6 ▸ At.gx hB5); have hl6 : W6.cell? ⟨gl, 0, none⟩ = some (.int .i64 0) := (hW6 ▸ cell_keep_gx hl5); have lgl6 : gl < W6.heap.size := World.block_lt_of_cell? W6 _ hl6; clear hW6; have hDD := Lib.hid hAd; have hGZ := Lib.hid hgz; clear hAd hgz hgd)))
    refine wp_loop_rounds 2 ?_
    rw [rounds_succ]
    go_wp2_with (go_at_call 117; go_loud (refine (put_new wk hG6.out hb hS6.out hm h0 h1 HN.out gd 96 (packF G) hPb (packF_len G) hDD.out hGZ.out p hp hp').mono ?_; rintro e W7 ⟨rfl, hG7', Z7, hS7'⟩; have hG7 := Lib.hid hG7'; have hS7 := Lib.hid hS7'; clear hG7' hS7'; obtain ⟨q1', q2', q3', v0, v1, v2, v3, v4, v5, n0, n1, n2, n3, n4, t0, t1⟩ := hS7.out.rd rfl; have fz5 : W7.frozen? ⟨gr, 5, none⟩ = false := frozen_at hS7.out.r; have hbr : wk.heap.size ≤ gr := Nat.le_trans hb hS7.out.br; clear q2' q3' v0 v1 v2 v3 v4 n0 n1 n2 n3 n4 t0 t1 hl4 hl5 hl6 lgl lgl5 lgl6 hB1 hB2 hB3 hB4 hB5 hB6))
    rw [rounds_succ]
    go_wp2
    go_ret3
    have hGf : ∃ x, W7.setCell ⟨gr, 5, none⟩ (.int .i64 (numI G)) = gx wk x := Gx.setCell hG7.out hbr
    exact ⟨rfl, hGf, _, hS7.out.setLast (numI G)⟩
end
end Go.Proofs.YthkccbeffonaaaaGreatDoor

/-
  Memories of a recorder of one memory: the contract.
-/
namespace Go.Proofs.YthkccbeffonaaaaGreatDoor
open Go.RowKit
-- AT2

section
variable {b : Nat} {W : World} {m : PM} {gr gm gS gs : Nat} {A1 A2 : Option Addr} {c1 c2 c3 : Nat} {Z : List (Nat × List Int)} {sec slot : Int} {fz st : Bool} {last : Int}
set_option maxHeartbeats 400000 in
set_option maxRecDepth 100000 in
theorem Memories_one (h : RecSt b W m gr gm gS A1 A2 (some ⟨gs, 0, none⟩) c1 c2 c3 Z sec slot fz st last) (hm : Good m) :
    Calls Tryz.prog 58 #[.pointer (some ⟨gr, 0, none⟩)] W fun e w' => ∃ gn gT vW vB Y x, e = .returned (.slice (some ⟨gn, 0, none⟩) 1 1) ∧ w' = gx W x ∧ W.heap.size ≤ gn ∧ At (gx W x) gn (.cells (oC m gT vW vB) 26 (0, 0)) ∧ OMem W.heap.size (gx W x) m gT vW vB Y := by
  have hR := h.rd rfl
  have HR := Lib.hid (h.om.rm hm)
  obtain ⟨q1, q2, q3, x0, x1, x2, x3, x4, x5, y0, y1, y2, y3, y4, u0, u1⟩ := hR
  have HF := Lib.hid (⟨y0, by simpa using y1, by simpa using y2, by simpa using y3, by simpa using y4⟩ : Five W gm 0 m (some ⟨gS, 0, none⟩) A1 A2 m.sec.length c1 c2)
  clear q2 q3 x1 x2 x3 x4 x5 y0 y1 y2 y3 y4 u0 u1 h
  go_enter Tryz.func58, Tryz.ntmps58
  go_wp2_with (go_at_call 111; go_loud (refine (copied_one m hm (some ⟨gS, 0, none⟩) A1 A2 m.sec.length c1 c2 gm 0 1 _ HF.out HR.out).mono ?_; rintro e w' ⟨gn, gT, vW, vB, Y, z, rfl, rfl, hgn, hAn, hO⟩))
  have hfd : ∀ w : World, Sem.run Tryz.prog (Instr.field 132 (.agg #[.slice (some ⟨gn, 0, none⟩) 1 1]) 0) w = .ok (.slice (some ⟨gn, 0, none⟩) 1 1) w := fun _ => by kernel_rfl
  rw [hfd]
  go_wp2
  go_ret
  exact ⟨gn, gT, vW, vB, Y, z, rfl, rfl, hgn, hAn, hO⟩
end
end Go.Proofs.YthkccbeffonaaaaGreatDoor
