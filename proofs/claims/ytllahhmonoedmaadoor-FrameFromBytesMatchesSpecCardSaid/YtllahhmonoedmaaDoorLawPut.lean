/-
  FramePutMatchesSpec: the walk.
-/
import Derived.Test.YtllahhmonoedmaaDoorWith
import Derived.OpenShut
namespace Go.Proofs.YtllahhmonoedmaaDoor
open Go.RowKit
-- AT2

theorem HeldB.own_row {B : List Int} {g g2 n : Nat} {w : World} {cs : Array Value} {o : Nat} (h : HeldB B (some ⟨g2, o, none⟩) n w) (hne : g2 ≠ g) : HeldB B (some ⟨g2, o, none⟩) n (w.setRow g cs) := by
  unfold HeldB at *
  intro h0
  obtain ⟨b, o', e, hc⟩ := h h0
  obtain ⟨rfl, rfl⟩ : b = g2 ∧ o' = o := by simpa using (Option.some.inj e).symm
  refine ⟨b, o', rfl, fun j hj => ?_⟩
  rw [← hc j hj]
  simp only [World.cell?, setRow_other _ _ _ _ hne]
theorem Tab.own_row {w : World} {x : Ext} {g : Nat} {cs : Array Value} (h : Tab w) (hg : w.heap.size ≤ g) : Tab ((Go.Proofs.YtllahhmonoedmaaDoor.gx w x).setRow g cs) := by
  obtain ⟨y, hy⟩ := gx_row (x := x) (cs := cs) hg
  rw [hy]
  exact h.gx y

set_option maxHeartbeats 1000000 in
set_option maxRecDepth 100000 in
theorem putLaw_bad (M : List Int) (hM : Bs M) (A : Option Addr) (c : Nat) (at_ : Int) (ha : at_ ≤ 9223372036854775807) (F : List Int) (hF : Fr F) (w : World) (hT : Tab w) (hH : HeldB M A M.length w) (hN : A = none → M.length = 0) (hm : 12 + M.length ≤ 140737488355328)
    (E : Int) (he : placeE M.length at_ 96 = E) (hE : E ≠ 0) :
    Calls Tryd.prog 12 #[.slice A M.length c, .int .i64 at_, .agg (fc F)] w fun e w' => e = .returned (.bool true) ∧ ∃ x, w' = gx w x := by
  have hl := hF.len
  have HN := Lib.hid hN
  have HE := Lib.hid hE
  have He := Lib.hid he
  have hml : M.length ≤ 9223372036854775807 := by omega
  clear hN hE he
  go_enter Tryd.func12, Tryd.ntmps12
  go_wp2_with (first | (refine load_fr rfl _ rfl _ rfl ?_ ?_ ?_ ?_; rotate_left; (focus (repeat (first | (with_reducible assumption) | (with_reducible exact At.new _ _) | (with_reducible refine At.row ?_) | (with_reducible refine At.app ?_) | (with_reducible refine At.tick ?_) | (with_reducible refine At.gx ?_) | ((with_reducible refine At.new' ?_); focus (simp; done)) | (with_reducible refine At.alloc ?_) | (with_reducible refine At.drew ?_) | (with_reducible exact Is.new _ _ _) | (with_reducible refine Is.row ?_) | (with_reducible refine Is.gx ?_) | ((with_reducible refine Is.new' ?_); focus (simp; done)) | (with_reducible refine Is.alloc ?_) | (with_reducible refine Is.drew ?_)))); (focus (with_reducible (first | exact hl | exact hl1 | exact hl2 | exact hl3 | exact hl4 | exact zeroF_len)))) | (go_at_call 61; refine (inside_any M hM A c _ ?_ hm).mono ?_; (focus (repeat (first | (with_reducible assumption) | (with_reducible refine HeldB.gx ?_) | (with_reducible refine HeldB.alloc ?_) | (with_reducible refine HeldB.drew ?_)))); rintro e w' ⟨g, C, z, rfl, rfl, hg, hA, hr⟩; (try simp only [gx_gx] at hA)) | (go_at_call 62; refine (RPut_bad A M.length c at_ F hml ha _ E He.out HE.out).mono ?_; rintro e w' ⟨rfl, z2, rfl⟩) | (go_at_call 63; refine (Put_bad _ M.length _ at_ F hml ha _ E He.out HE.out).mono ?_; rintro e w' ⟨rfl, z3, rfl⟩) | (go_at_call 46; refine (EqualB_same M M.length _ _ _ _ _ (HeldB.part (C := C) (o := 5) ?_ (by have := hr.len; omega) hr.mid) (fun h => by cases h) ?_ HN.out).mono ?_; (focus (repeat (first | (with_reducible assumption) | (with_reducible exact At.new _ _) | (with_reducible refine At.row ?_) | (with_reducible refine At.app ?_) | (with_reducible refine At.tick ?_) | (with_reducible refine At.gx ?_) | ((with_reducible refine At.new' ?_); focus (simp; done)) | (with_reducible refine At.alloc ?_) | (with_reducible refine At.drew ?_) | (with_reducible exact Is.new _ _ _) | (with_reducible refine Is.row ?_) | (with_reducible refine Is.gx ?_) | ((with_reducible refine Is.new' ?_); focus (simp; done)) | (with_reducible refine Is.alloc ?_) | (with_reducible refine Is.drew ?_)))); (focus (repeat (first | (with_reducible assumption) | (with_reducible refine HeldB.gx ?_) | (with_reducible refine HeldB.alloc ?_) | (with_reducible refine HeldB.drew ?_)))); rintro e w' ⟨rfl, rfl⟩) | (go_at_call 64; refine (kept_any M.length g C hr.max hr.len hr.pre hr.post _ ?_).mono ?_; (focus (repeat (first | (with_reducible assumption) | (with_reducible exact At.new _ _) | (with_reducible refine At.row ?_) | (with_reducible refine At.app ?_) | (with_reducible refine At.tick ?_) | (with_reducible refine At.gx ?_) | ((with_reducible refine At.new' ?_); focus (simp; done)) | (with_reducible refine At.alloc ?_) | (with_reducible refine At.drew ?_) | (with_reducible exact Is.new _ _ _) | (with_reducible refine Is.row ?_) | (with_reducible refine Is.gx ?_) | ((with_reducible refine Is.new' ?_); focus (simp; done)) | (with_reducible refine Is.alloc ?_) | (with_reducible refine Is.drew ?_)))); rintro e w' ⟨rfl, z4, rfl⟩) | (go_at_call 22; refine (framed_any _ ?_).mono ?_; (focus (repeat (first | (with_reducible exact hT) | (with_reducible assumption) | (with_reducible refine Tab.gx ?_ _) | (with_reducible refine Tab.alloc ?_ _)))); rintro e w' ⟨rfl, z, rfl⟩))
  go_ret
  exact ⟨rfl, (by repeat (first | (with_reducible exact Gx.refl _) | (with_reducible assumption) | (with_reducible refine Gx.gx ?_) | (with_reducible refine Gx.alloc ?_) | (with_reducible refine Gx.drew ?_) | (with_reducible refine Gx.drewN ?_) | (with_reducible refine Gx.setRow ?_ (by simp)) | (with_reducible refine Gx.setCell ?_ (by simp))))⟩

set_option maxHeartbeats 1000000 in
set_option maxRecDepth 100000 in
theorem putLaw_wide (M : List Int) (hM : Bs M) (A : Option Addr) (c q : Nat) (h : q + 96 ≤ M.length) (F : List Int) (hF : Fr F) (hw : wideB F = true) (w : World) (hT : Tab w) (hH : HeldB M A M.length w) (hN : A = none → M.length = 0) (hm : 12 + M.length ≤ 140737488355328) :
    Calls Tryd.prog 12 #[.slice A M.length c, .int .i64 q, .agg (fc F)] w fun e w' => e = .returned (.bool true) ∧ ∃ x, w' = gx w x := by
  have hl := hF.len
  have HN := Lib.hid hN
  have hml : M.length ≤ 9223372036854775807 := by omega
  clear hN
  go_enter Tryd.func12, Tryd.ntmps12
  go_wp2_with (first | (refine load_fr rfl _ rfl _ rfl ?_ ?_ ?_ ?_; rotate_left; (focus (repeat (first | (with_reducible assumption) | (with_reducible exact At.new _ _) | (with_reducible refine At.row ?_) | (with_reducible refine At.app ?_) | (with_reducible refine At.tick ?_) | (with_reducible refine At.gx ?_) | ((with_reducible refine At.new' ?_); focus (simp; done)) | (with_reducible refine At.alloc ?_) | (with_reducible refine At.drew ?_) | (with_reducible exact Is.new _ _ _) | (with_reducible refine Is.row ?_) | (with_reducible refine Is.gx ?_) | ((with_reducible refine Is.new' ?_); focus (simp; done)) | (with_reducible refine Is.alloc ?_) | (with_reducible refine Is.drew ?_)))); (focus (with_reducible (first | exact hl | exact hl1 | exact hl2 | exact hl3 | exact hl4 | exact zeroF_len)))) | (go_at_call 61; refine (inside_any M hM A c _ ?_ hm).mono ?_; (focus (repeat (first | (with_reducible assumption) | (with_reducible refine HeldB.gx ?_) | (with_reducible refine HeldB.alloc ?_) | (with_reducible refine HeldB.drew ?_)))); rintro e w' ⟨g, C, z, rfl, rfl, hg, hA, hr⟩; (try simp only [gx_gx] at hA)) | (go_at_call 62; refine (RPut_wide A M.length c q F hF hw hml h _).mono ?_; rintro e w' ⟨rfl, z2, rfl⟩) | (go_at_call 63; refine (Put_wide _ 5 M.length _ q F hF hw hml (by have := hr.len; omega) (by have := hr.max; simp only [maxLen] at this; omega) h _).mono ?_; rintro e w' ⟨rfl, z3, rfl⟩) | (go_at_call 46; refine (EqualB_same M M.length _ _ _ _ _ (HeldB.part (C := C) (o := 5) ?_ (by have := hr.len; omega) hr.mid) (fun h => by cases h) ?_ HN.out).mono ?_; (focus (repeat (first | (with_reducible assumption) | (with_reducible exact At.new _ _) | (with_reducible refine At.row ?_) | (with_reducible refine At.app ?_) | (with_reducible refine At.tick ?_) | (with_reducible refine At.gx ?_) | ((with_reducible refine At.new' ?_); focus (simp; done)) | (with_reducible refine At.alloc ?_) | (with_reducible refine At.drew ?_) | (with_reducible exact Is.new _ _ _) | (with_reducible refine Is.row ?_) | (with_reducible refine Is.gx ?_) | ((with_reducible refine Is.new' ?_); focus (simp; done)) | (with_reducible refine Is.alloc ?_) | (with_reducible refine Is.drew ?_)))); (focus (repeat (first | (with_reducible assumption) | (with_reducible refine HeldB.gx ?_) | (with_reducible refine HeldB.alloc ?_) | (with_reducible refine HeldB.drew ?_)))); rintro e w' ⟨rfl, rfl⟩) | (go_at_call 64; refine (kept_any M.length g C hr.max hr.len hr.pre hr.post _ ?_).mono ?_; (focus (repeat (first | (with_reducible assumption) | (with_reducible exact At.new _ _) | (with_reducible refine At.row ?_) | (with_reducible refine At.app ?_) | (with_reducible refine At.tick ?_) | (with_reducible refine At.gx ?_) | ((with_reducible refine At.new' ?_); focus (simp; done)) | (with_reducible refine At.alloc ?_) | (with_reducible refine At.drew ?_) | (with_reducible exact Is.new _ _ _) | (with_reducible refine Is.row ?_) | (with_reducible refine Is.gx ?_) | ((with_reducible refine Is.new' ?_); focus (simp; done)) | (with_reducible refine Is.alloc ?_) | (with_reducible refine Is.drew ?_)))); rintro e w' ⟨rfl, z4, rfl⟩) | (go_at_call 22; refine (framed_any _ ?_).mono ?_; (focus (repeat (first | (with_reducible exact hT) | (with_reducible assumption) | (with_reducible refine Tab.gx ?_ _) | (with_reducible refine Tab.alloc ?_ _)))); rintro e w' ⟨rfl, z, rfl⟩))
  go_ret
  exact ⟨rfl, (by repeat (first | (with_reducible exact Gx.refl _) | (with_reducible assumption) | (with_reducible refine Gx.gx ?_) | (with_reducible refine Gx.alloc ?_) | (with_reducible refine Gx.drew ?_) | (with_reducible refine Gx.drewN ?_) | (with_reducible refine Gx.setRow ?_ (by simp)) | (with_reducible refine Gx.setCell ?_ (by simp))))⟩

theorem kept_cap (n g cap : Nat) (C : List Int) (hc : C.length = cap) (hmax : C.length ≤ maxLen) (hlen : 5 + n + 7 ≤ C.length) (hpre : ∀ j, j < 5 → gw C j = gw [1, 2, 3, 4, 5] j) (hpost : ∀ j, j < 7 → gw C (5 + n + j) = gw [9, 8, 7, 6, 5, 4, 3] j)
    (w : World) (hA : At w g (.cells (bc C) 5 (0, 0))) :
    Calls Tryd.prog 64 #[.slice (some ⟨g, 0, none⟩) (5 + n + 7) cap] w fun e w' => e = .returned (.bool true) ∧ ∃ x, w' = gx w x := by
  subst hc
  exact kept_any n g C hmax hlen hpre hpost w hA
theorem Gx.own_row {w W : World} {x : Ext} {g : Nat} {cs : Array Value} (hg : W.heap.size ≤ g) (h : ∀ y, ∃ x, Go.Proofs.YtllahhmonoedmaaDoor.gx W y = Go.Proofs.YtllahhmonoedmaaDoor.gx w x) : ∃ x', (Go.Proofs.YtllahhmonoedmaaDoor.gx W x).setRow g cs = Go.Proofs.YtllahhmonoedmaaDoor.gx w x' := by
  obtain ⟨y, hy⟩ := gx_row (x := x) (cs := cs) hg
  rw [hy]
  exact h y
/-- What Put leaves of the slice and of the bytes around it. -/
theorem put_around {M C F : List Int} {q : Nat} (hr : Around M C) (h : q + 96 ≤ M.length) :
    (∀ j, j < M.length → gw (wrF C (5 + q) F) (5 + j) = gw (putAt M q (packF F)) j) ∧ (∀ j, j < 5 → gw (wrF C (5 + q) F) j = gw [1, 2, 3, 4, 5] j) ∧ (∀ j, j < 7 → gw (wrF C (5 + q) F) (5 + M.length + j) = gw [9, 8, 7, 6, 5, 4, 3] j) := by
  have hq : 5 + q + 96 ≤ C.length := by have := hr.len; omega
  refine ⟨fun j hj => ?_, fun j hj => ?_, fun j hj => ?_⟩
  · rw [gw_wrF C (5 + q) F hq, gw_putAt (packF F) M q j (by rw [packF_len]; exact h), packF_len]
    by_cases c : q ≤ j ∧ j < q + 96
    · rw [if_pos (by omega), if_pos c, gw_packF F _ (by omega)]
      congr 1
      omega
    · rw [if_neg (by omega), if_neg c]
      exact hr.mid j hj
  · rw [gw_wrF C (5 + q) F hq, if_neg (by omega)]; exact hr.pre j hj
  · rw [gw_wrF C (5 + q) F hq, if_neg (by omega)]; exact hr.post j hj

set_option maxHeartbeats 2000000 in
set_option maxRecDepth 100000 in
theorem putLaw_good (M : List Int) (hM : Bs M) (A : Option Addr) (c q : Nat) (h : q + 96 ≤ M.length) (F : List Int) (hF : Fr F) (hw : wideB F = false) (w : World) (hT : Tab w) (hH : HeldB M A M.length w) (hm : 12 + M.length ≤ 140737488355328) :
    Calls Tryd.prog 12 #[.slice A M.length c, .int .i64 q, .agg (fc F)] w fun e w' => e = .returned (.bool true) ∧ ∃ x, w' = gx w x := by
  have hl := hF.len
  have hml : M.length ≤ 140737488355328 := by omega
  go_enter Tryd.func12, Tryd.ntmps12
  go_wp2_with (first | (refine load_fr rfl _ rfl _ rfl ?_ ?_ ?_ ?_; rotate_left; (focus (repeat (first | (with_reducible assumption) | (with_reducible exact At.new _ _) | (with_reducible refine At.row ?_) | (with_reducible refine At.app ?_) | (with_reducible refine At.tick ?_) | (with_reducible refine At.gx ?_) | ((with_reducible refine At.new' ?_); focus (simp; done)) | (with_reducible refine At.alloc ?_) | (with_reducible refine At.drew ?_) | (with_reducible exact Is.new _ _ _) | (with_reducible refine Is.row ?_) | (with_reducible refine Is.gx ?_) | ((with_reducible refine Is.new' ?_); focus (simp; done)) | (with_reducible refine Is.alloc ?_) | (with_reducible refine Is.drew ?_)))); (focus (with_reducible (first | exact hl | exact hl1 | exact hl2 | exact hl3 | exact hl4 | exact zeroF_len)))) | (go_at_call 61; refine (inside_any M hM A c _ ?_ hm).mono ?_; (focus (repeat (first | (with_reducible assumption) | (with_reducible refine HeldB.gx ?_) | (with_reducible refine HeldB.alloc ?_) | (with_reducible refine HeldB.drew ?_)))); rintro e w' ⟨g, C, z, rfl, rfl, hg, hA, hr⟩; have ha := put_around (F := F) hr h; (try simp only [gx_gx] at hA)) | (go_at_call 62; refine (RPut_good M hM A c q F hF hw h _ ?_ hml).mono ?_; (focus (repeat (first | (with_reducible assumption) | (with_reducible refine HeldB.gx ?_) | (with_reducible refine HeldB.alloc ?_) | (with_reducible refine HeldB.drew ?_)))); rintro e w' ⟨g2, C2, z2, rfl, rfl, hg2, hA2, hw2⟩; have hne : g2 ≠ g := (by have := hA.lt; omega); have hAx := hA.gx (x := z2); simp only [gx_gx] at hA2 hAx) | (go_at_call 63; refine (Put_good C hr.bs g 5 M.length _ q F hF hw (by omega) (by have := hr.len; omega) (by have := hr.max; simp only [maxLen] at this; omega) h (by have := hr.len; omega) _ ?_).mono ?_; (focus (repeat (first | (with_reducible assumption) | (with_reducible exact At.new _ _) | (with_reducible refine At.row ?_) | (with_reducible refine At.app ?_) | (with_reducible refine At.tick ?_) | (with_reducible refine At.gx ?_) | ((with_reducible refine At.new' ?_); focus (simp; done)) | (with_reducible refine At.alloc ?_) | (with_reducible refine At.drew ?_) | (with_reducible exact Is.new _ _ _) | (with_reducible refine Is.row ?_) | (with_reducible refine Is.gx ?_) | ((with_reducible refine Is.new' ?_); focus (simp; done)) | (with_reducible refine Is.alloc ?_) | (with_reducible refine Is.drew ?_)))); rintro e w' ⟨rfl, z3, rfl⟩; have hA3 := (At.row (cs' := bc (wrF C (5 + q) F)) ⟨_, hAx⟩).gx (x := z3)) | (go_at_call 46; refine (EqualB_same (putAt M q (packF F)) M.length _ _ _ _ _ (HeldB.part (C := wrF C (5 + q) F) (o := 5) ?_ (by have := hr.len; rw [wrF_len]; omega) ha.1) (fun h => by cases h) (HeldB.gx (HeldB.own_row (HeldB.part (C := C2) (o := 0) hA2 (by have := hw2.len; omega) (fun j hj => by rw [Nat.zero_add]; exact hw2.at_ j hj)) hne)) (fun h => by cases h)).mono ?_; (focus (repeat (first | (with_reducible assumption) | (with_reducible exact At.new _ _) | (with_reducible refine At.row ?_) | (with_reducible refine At.app ?_) | (with_reducible refine At.tick ?_) | (with_reducible refine At.gx ?_) | ((with_reducible refine At.new' ?_); focus (simp; done)) | (with_reducible refine At.alloc ?_) | (with_reducible refine At.drew ?_) | (with_reducible exact Is.new _ _ _) | (with_reducible refine Is.row ?_) | (with_reducible refine Is.gx ?_) | ((with_reducible refine Is.new' ?_); focus (simp; done)) | (with_reducible refine Is.alloc ?_) | (with_reducible refine Is.drew ?_)))); rintro e w' ⟨rfl, rfl⟩) | (go_at_call 64; refine (kept_cap M.length g C.length (wrF C (5 + q) F) (wrF_len _ _ _) (by rw [wrF_len]; exact hr.max) (by rw [wrF_len]; exact hr.len) ha.2.1 ha.2.2 _ ?_).mono ?_; (focus (repeat (first | (with_reducible assumption) | (with_reducible exact At.new _ _) | (with_reducible refine At.row ?_) | (with_reducible refine At.app ?_) | (with_reducible refine At.tick ?_) | (with_reducible refine At.gx ?_) | ((with_reducible refine At.new' ?_); focus (simp; done)) | (with_reducible refine At.alloc ?_) | (with_reducible refine At.drew ?_) | (with_reducible exact Is.new _ _ _) | (with_reducible refine Is.row ?_) | (with_reducible refine Is.gx ?_) | ((with_reducible refine Is.new' ?_); focus (simp; done)) | (with_reducible refine Is.alloc ?_) | (with_reducible refine Is.drew ?_)))); rintro e w' ⟨rfl, z4, rfl⟩) | (go_at_call 22; refine (framed_any _ ?_).mono ?_; (focus (repeat (first | (with_reducible exact hT) | (with_reducible refine Tab.gx ?_ _) | (with_reducible refine Tab.alloc ?_ _) | (with_reducible refine Tab.own_row ?_ hg)))); rintro e w' ⟨rfl, z, rfl⟩))
  go_ret
  exact ⟨rfl, Gx.gx (Gx.own_row hg fun y => Gx.gx (Gx.alloc (Gx.refl _)))⟩

theorem place_zero {n : Nat} {at_ k : Int} (h : placeE n at_ k = 0) : ∃ q : Nat, at_ = q ∧ (q : Int) + k ≤ n := by
  unfold placeE at h
  by_cases h0 : at_ < 0
  · rw [if_pos h0] at h; omega
  · rw [if_neg h0] at h
    by_cases h1 : (n : Int) - at_ < k
    · rw [if_pos h1] at h; omega
    · exact ⟨at_.toNat, by omega, by omega⟩
theorem putLaw (M : List Int) (hM : Bs M) (A : Option Addr) (c : Nat) (at_ : Int) (ha : at_ ≤ 9223372036854775807) (F : List Int) (hF : Fr F) (w : World) (hT : Tab w) (hH : HeldB M A M.length w) (hN : A = none → M.length = 0) (hm : 12 + M.length ≤ 140737488355328) :
    Calls Tryd.prog 12 #[.slice A M.length c, .int .i64 at_, .agg (fc F)] w fun e w' => e = .returned (.bool true) ∧ ∃ x, w' = gx w x := by
  by_cases he : placeE M.length at_ 96 = 0
  · obtain ⟨q, rfl, hq⟩ := place_zero he
    cases hw : wideB F
    · exact putLaw_good M hM A c q (by omega) F hF hw w hT hH hm
    · exact putLaw_wide M hM A c q (by omega) F hF hw w hT hH hN hm
  · exact putLaw_bad M hM A c at_ ha F hF w hT hH hN hm _ rfl he
theorem bs_of {D : List Int} (h : ∀ n ∈ D, (Lit.int .u8 n).wf = true) : Bs D := fun k => by
  have := range_u8 h k
  unfold gw
  simpa [List.getD] using this
end Go.Proofs.YtllahhmonoedmaaDoor
