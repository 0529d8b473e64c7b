/-
  slices.Sort of numbers: the shelf's contract at this program.
-/
import Derived.Test.YtmpokfbliacmoaaDoorSRSrt2
import Derived.Shelf.SortM.Plain
import Derived.Sort.OwnSortedInts
namespace Go.Proofs.YtmpokfbliacmoaaDoor
open Go.RowKit
open Go.Shelf Go.Sort
def sortA_ren : Go.Shelf.Ren := ⟨fun | 5 => 24 | 8 => 36 | 7 => 35 | 19 => 51 | 20 => 52 | 10 => 42 | 11 => 43 | 12 => 44 | 13 => 45 | 14 => 46 | 15 => 47 | 16 => 48 | 17 => 49 | 18 => 50 | 30 => 57 | 31 => 58 | 32 => 59 | 33 => 60 | 34 => 61 | 35 => 62 | 40 => 64 | n => n, fun | 23 => 36 | 25 => 3 | 3 => 3 | 32 => 66 | 22 => 36 | 0 => 0 | 44 => 80 | 46 => 82 | 4 => 4 | 36 => 73 | 35 => 72 | 41 => 77 | 5 => 5 | 9 => 9 | 53 => 84 | 57 => 88 | 63 => 91 | 64 => 92 | n => n, fun | n => n⟩
theorem sortA : Go.Proofs.SlLaysM.n5 Tryd.prog sortA_ren := {
  mixed := by kernel_rfl
  f5 := ⟨Tryd.f24.name, by decide, Tryd.func24.trans (congrArg some (by kernel_rfl))⟩
  f7 := ⟨Tryd.f35.name, by decide, Tryd.func35.trans (congrArg some (by kernel_rfl))⟩
  f8 := Tryd.func36.trans (congrArg some (by kernel_rfl))
  f10 := ⟨Tryd.f42.name, by decide, Tryd.func42.trans (congrArg some (by kernel_rfl))⟩
  f11 := ⟨Tryd.f43.name, by decide, Tryd.func43.trans (congrArg some (by kernel_rfl))⟩
  f12 := ⟨Tryd.f44.name, by decide, Tryd.func44.trans (congrArg some (by kernel_rfl))⟩
  f13 := ⟨Tryd.f45.name, by decide, Tryd.func45.trans (congrArg some (by kernel_rfl))⟩
  f14 := ⟨Tryd.f46.name, by decide, Tryd.func46.trans (congrArg some (by kernel_rfl))⟩
  f15 := ⟨Tryd.f47.name, by decide, Tryd.func47.trans (congrArg some (by kernel_rfl))⟩
  f16 := ⟨Tryd.f48.name, by decide, Tryd.func48.trans (congrArg some (by kernel_rfl))⟩
  f17 := ⟨Tryd.f49.name, by decide, Tryd.func49.trans (congrArg some (by kernel_rfl))⟩
  f18 := ⟨Tryd.f50.name, by decide, Tryd.func50.trans (congrArg some (by kernel_rfl))⟩
  f19 := Tryd.func51.trans (congrArg some (by kernel_rfl))
  f20 := Tryd.func52.trans (congrArg some (by kernel_rfl))
  f30 := ⟨Tryd.f57.name, by decide, Tryd.func57.trans (congrArg some (by kernel_rfl))⟩
  f31 := Tryd.func58.trans (congrArg some (by kernel_rfl))
  f32 := Tryd.func59.trans (congrArg some (by kernel_rfl))
  f33 := ⟨Tryd.f60.name, by decide, Tryd.func60.trans (congrArg some (by kernel_rfl))⟩
  f34 := ⟨Tryd.f61.name, by decide, Tryd.func61.trans (congrArg some (by kernel_rfl))⟩
  f35 := ⟨Tryd.f62.name, by decide, Tryd.func62.trans (congrArg some (by kernel_rfl))⟩
  f40 := ⟨Tryd.f64.name, by decide, Tryd.func64.trans (congrArg some (by kernel_rfl))⟩
  t0 := Tryd.underlying0
  a0 := Tryd.isAgg0
  z0 := Tryd.sizeOf0
  v0 := Tryd.zeroValue0
  t3 := Tryd.underlying3
  a3 := Tryd.isAgg3
  z3 := Tryd.sizeOf3
  v3 := Tryd.zeroValue3
  t4 := Tryd.underlying4
  a4 := Tryd.isAgg4
  z4 := Tryd.sizeOf4
  v4 := Tryd.zeroValue4
  t5 := Tryd.underlying5
  a5 := Tryd.isAgg5
  z5 := Tryd.sizeOf5
  v5 := Tryd.zeroValue5
  t9 := Tryd.underlying9
  a9 := Tryd.isAgg9
  z9 := Tryd.sizeOf9
  v9 := Tryd.zeroValue9
  t22 := Tryd.underlying36
  a22 := Tryd.isAgg36
  z22 := Tryd.sizeOf36
  v22 := Tryd.zeroValue36
  t23 := Tryd.underlying36
  a23 := Tryd.isAgg36
  z23 := Tryd.sizeOf36
  v23 := Tryd.zeroValue36
  t25 := Tryd.underlying3
  a25 := Tryd.isAgg3
  z25 := Tryd.sizeOf3
  v25 := Tryd.zeroValue3
  t32 := Tryd.underlying66
  a32 := Tryd.isAgg66
  z32 := Tryd.sizeOf66
  v32 := Tryd.zeroValue66
  t35 := Tryd.underlying72
  a35 := Tryd.isAgg72
  z35 := Tryd.sizeOf72
  v35 := Tryd.zeroValue72
  t36 := Tryd.underlying73
  a36 := Tryd.isAgg73
  z36 := Tryd.sizeOf73
  v36 := Tryd.zeroValue73
  t41 := Tryd.underlying77
  a41 := Tryd.isAgg77
  z41 := Tryd.sizeOf77
  v41 := Tryd.zeroValue77
  t44 := Tryd.underlying80
  a44 := Tryd.isAgg80
  z44 := Tryd.sizeOf80
  v44 := Tryd.zeroValue80
  t46 := Tryd.underlying82
  a46 := Tryd.isAgg82
  z46 := Tryd.sizeOf82
  v46 := Tryd.zeroValue82
  t53 := Tryd.underlying84
  a53 := Tryd.isAgg84
  z53 := Tryd.sizeOf84
  v53 := Tryd.zeroValue84
  t57 := Tryd.underlying88
  a57 := Tryd.isAgg88
  z57 := Tryd.sizeOf88
  v57 := Tryd.zeroValue88
  t63 := Tryd.underlying91
  a63 := Tryd.isAgg91
  z63 := Tryd.sizeOf91
  v63 := Tryd.zeroValue91
  t64 := Tryd.underlying92
  a64 := Tryd.isAgg92
  z64 := Tryd.sizeOf92
  v64 := Tryd.zeroValue92 }

theorem Own.emptyI {b g : Nat} {W : World} (hA : At W g (.cells #[] 3 (0, 0))) (hb : b ≤ g) : Own b W 3 1 (.slice (some ⟨g, 0, none⟩) 0 0) 0 [] :=
  Own.mk' ⟨rfl, .inr ⟨g, 0, #[], rfl, hb, hA, Nat.le_refl _, by simp only [maxLen]; omega, rfl, rfl⟩⟩
theorem merge_srt (zs : List Int) : zs.mergeSort (fun x y => decide (x ≤ y)) = srt zs := by
  refine srt_uniq (List.mergeSort_perm _ _) ?_
  have h := List.pairwise_mergeSort (le := fun x y : Int => decide (x ≤ y)) (fun a b c h1 h2 => by simp only [decide_eq_true_eq] at *; omega) (fun a b => by simp only [Bool.or_eq_true, decide_eq_true_eq]; omega) zs
  exact h.imp fun h => by simpa using h
theorem Sort_any (zs : List Int) (g n cap : Nat) (hnz : n = zs.length) (w0 w : World) (hI : IntSt w0 w g zs) (hn : n ≤ 20000) (h0 : 0 < n) :
    Calls Tryd.prog 24 #[.slice (some ⟨g, 0, none⟩) n cap] w fun e w' => e = .returned (.tuple #[]) ∧ IntSt w0 w' g (srt zs) := by
  subst hnz
  have hlt : g < w.heap.size := World.block_lt_of_cell? w _ (hI.cells 0 h0)
  have hH : Holds (Value.int .i64) w g 0 zs.toArray := by
    intro j hj
    have hj' : j < zs.length := by simpa using hj
    refine ⟨?_, ?_⟩
    · have h := hI.cells j hj'
      rw [Nat.zero_add, h]
      simp [List.getD, hj', getElem!_pos]
    · obtain ⟨cs, h⟩ := hI.is; exact h.frz
  refine (AnyM.slices_Sort_int sortA g 0 cap zs w hH hlt (by omega)).mono ?_
  rintro e w' ⟨rfl, m, os, rfl⟩
  rw [merge_srt]
  have hg : w.grownBy (grow (putRow (Value.int .i64) (Sort.ahead w m) g 0 (srt zs).toArray) os) (some g) := grownBy_sortedI _
  refine ⟨rfl, gx_of_grown hI.grew hg (fun k hk => by simp at hk; have := hI.low; omega), hI.low, ?_, ?_⟩
  · obtain ⟨cs, hA⟩ := hI.is
    unfold At at hA
    exact ⟨_, by unfold At; exact heap_sortedI _ hA⟩
  · intro k hk
    rw [srt_len] at hk
    have h := cell?_putRow (Value.int .i64) (Sort.ahead w m) g 0 zs.toArray (srt zs).toArray hH (by simp [srt_len]) k (by simpa [srt_len] using hk)
    rw [Nat.zero_add] at h
    have hk2 : k < (srt zs).length := by rw [srt_len]; exact hk
    have hb : g < (putRow (Value.int .i64) (Sort.ahead w m) g 0 (srt zs).toArray).heap.size := World.block_lt_of_cell? _ _ h
    have e2 : (grow (putRow (Value.int .i64) (Sort.ahead w m) g 0 (srt zs).toArray) os).cell? ⟨g, k, none⟩ = (putRow (Value.int .i64) (Sort.ahead w m) g 0 (srt zs).toArray).cell? ⟨g, k, none⟩ := by
      unfold World.cell?
      rw [heap_grow_old _ _ hb]
    rw [e2, h]
    simp [List.getD, hk2]
set_option maxHeartbeats 1000000 in
set_option maxRecDepth 100000 in
theorem CloneI_any (zs : List Int) (ad : Addr) (n c : Nat) (hnz : n = zs.length) (w : World) (hsh : Shows (iC zs) (some ad) w) (h0 : 0 < n) (hn : n ≤ 20000) :
    Calls Tryd.prog 23 #[.slice (some ad) n c] w fun e w' => ∃ gM c', e = .returned (.slice (some ⟨gM, 0, none⟩) n c') ∧ IntSt w w' gM zs := by
  have he : ∀ w : World, (binOp .eql 36 (.slice (some ad) n c) (.slice none 0 0)).run Tryd.prog w = .ok (.bool false) w := fun _ => rfl
  have hlen : (iC zs).length = n * 1 := by rw [iC_len]; omega
  have HNz := Lib.hid hnz
  clear hnz
  go_enter Tryd.func23, Tryd.ntmps23
  go_wp2_with (at_builtin; (with_reducible apply append_all (o := ⟨some 7, _, _, _, _, _⟩) el_int w w.heap.size (v := .slice (some ⟨w.heap.size, 0, none⟩) 0 0) (n := 0) (xs := []) (A := some ad) (m := n) (c := c) (news := iC zs)); go_loud (exact rfl; exact rfl; exact rfl; exact rfl; exact (fun h => by cases h); (focus omega); exact Own.emptyI (At.new w _) (Nat.le_refl _); exact (by repeat (first | (with_reducible exact Gx.refl _) | (with_reducible assumption) | (with_reducible refine Gx.gx ?_) | (with_reducible refine Gx.alloc ?_) | (with_reducible refine Gx.drew ?_) | (with_reducible refine Gx.drewN ?_) | (with_reducible refine Gx.setRow ?_ (by simp)) | (with_reducible refine Gx.setCell ?_ (by simp)))); (focus (simp <;> omega)); exact hlen; exact hsh.alloc; exact iC_one zs; (focus (simp only [maxLen]; omega)); (focus omega); rintro v' W3 hG3 hO3 hg3; obtain ⟨A3, c3, rfl, -⟩ := hO3.is; rw [Nat.zero_add, List.nil_append] at hO3))
  obtain ⟨gM, rfl, hb, hI, hc⟩ := own_int HNz.out hO3 h0
  go_ret
  exact ⟨gM, c3, rfl, hG3, hb, hI, hc⟩
theorem sortedI_any (zs : List Int) (ad : Addr) (n c : Nat) (hnz : n = zs.length) (w : World) (hsh : Shows (iC zs) (some ad) w) (h0 : 0 < n) (hn : n ≤ 20000) :
    Calls Tryd.prog 12 #[.slice (some ad) n c] w fun e w' => ∃ gM c', e = .returned (.slice (some ⟨gM, 0, none⟩) n c') ∧ IntSt w w' gM (srt zs) := by
  have cC := CloneI_any zs ad n c hnz w hsh h0 hn
  have HNz := Lib.hid hnz
  clear hnz
  go_enter Tryd.func12, Tryd.ntmps12
  go_wp2_with first
    | (go_at_call 23; refine cC.mono ?_; rintro e W2 ⟨gM, c', rfl, hI⟩)
    | (go_at_call 24; refine (Sort_any zs gM n c' HNz.out w _ hI hn h0).mono ?_; rintro e W3 ⟨rfl, hI2⟩)
  go_ret
  exact ⟨gM, c', rfl, hI2⟩
end Go.Proofs.YtmpokfbliacmoaaDoor
