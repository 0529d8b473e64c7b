/-
  Texts that this claim leans on, merged: GInside, GRPut, GClear, GClear1, GLawP.
-/
import Derived.Deep.Cut
import Derived.Test.YthkccbeffonaaaaGreatDoorM7
import Derived.Test.YthkccbeffonaaaaGreatDoorM3
import Derived.Test.YthkccbeffonaaaaGreatDoorM6

/-
  The helpers of the laws of package ring: a slice inside a longer one, and whether the bytes around it are kept.
-/
namespace Go.Proofs.YthkccbeffonaaaaGreatDoor
open Go.RowKit
-- AT2

@[go_sem high] theorem fold_pre3 : (#[Value.int .u8 1, Value.int .u8 2, Value.int .u8 3] : Array Value) = bc [1, 2, 3] := rfl
@[go_sem high] theorem fold_post5 : (#[Value.int .u8 9, Value.int .u8 8, Value.int .u8 7, Value.int .u8 6, Value.int .u8 5] : Array Value) = bc [9, 8, 7, 6, 5] := rfl
theorem pre3_bs : Bs [1, 2, 3] := lit_bs _ (by decide)
theorem post5_bs : Bs [9, 8, 7, 6, 5] := lit_bs _ (by decide)
/-- A slice inside a longer one: three bytes ahead of it, five behind it. -/
structure AroundR (M C : List Int) : Prop where
  bs : Bs C
  max : C.length ≤ maxLen
  len : 3 + M.length + 5 ≤ C.length
  pre : ∀ j, j < 3 → gw C j = gw [1, 2, 3] j
  mid : ∀ j, j < M.length → gw C (3 + j) = gw M j
  post : ∀ j, j < 5 → gw C (3 + M.length + j) = gw [9, 8, 7, 6, 5] j

set_option maxHeartbeats 1000000 in
set_option maxRecDepth 100000 in
theorem insideR_any (M : List Int) (hM : Bs M) (A : Option Addr) (c : Nat) (w : World) (hH : HeldB M A M.length w) (hm : 8 + M.length ≤ 140737488355328) :
    Calls Tryz.prog 26 #[.slice A M.length c] w fun e w' => ∃ g C x, e = .returned (.tuple #[.slice (some ⟨g, 0, none⟩) (3 + M.length + 5) C.length, .slice (some ⟨g, 3, none⟩) M.length (C.length - 3)]) ∧
      w' = gx w x ∧ w.heap.size ≤ g ∧ At (gx w x) g (.cells (bc C) 5 (0, 0)) ∧ AroundR M C := by
  have Hm := Lib.hid hm
  clear hm
  go_enter Tryz.func26, Tryz.ntmps26
  go_wp2_with (first | (refine append_own w [1, 2, 3] M _ 3 A c rfl _ _ rfl rfl rfl rfl ?_ ?_ ?_ (by decide) (by decide) pre3_bs hM ?_ (by have := Hm.out; omega) ?_; (focus (repeat (first | (with_reducible assumption) | (with_reducible exact At.new _ _) | (with_reducible refine At.row ?_) | (with_reducible refine At.app ?_) | (with_reducible refine At.tick ?_) | (with_reducible refine At.gx ?_) | ((with_reducible refine At.new' ?_); focus (simp; done)) | (with_reducible refine At.alloc ?_) | (with_reducible refine At.drew ?_) | (with_reducible exact Is.new _ _ _) | (with_reducible refine Is.row ?_) | (with_reducible refine Is.gx ?_) | ((with_reducible refine Is.new' ?_); focus (simp; done)) | (with_reducible refine Is.alloc ?_) | (with_reducible refine Is.drew ?_)))); exact (by repeat (first | (with_reducible exact Gx.refl _) | (with_reducible assumption) | (with_reducible refine Gx.gx ?_) | (with_reducible refine Gx.alloc ?_) | (with_reducible refine Gx.drew ?_) | (with_reducible refine Gx.drewN ?_) | (with_reducible refine Gx.setRow ?_ (by simp)) | (with_reducible refine Gx.setCell ?_ (by simp)))); (focus (simp)); (focus (repeat (first | (with_reducible assumption) | (with_reducible refine HeldB.gx ?_) | (with_reducible refine HeldB.alloc ?_) | (with_reducible refine HeldB.drew ?_)))); rintro g1 C1 W1 ⟨x1, rfl⟩ hg1 hA1 hl1 hm1 hb1 hp1 hq1) | (refine append_own w C1 [9, 8, 7, 6, 5] g1 (3 + M.length) (some ⟨w.heap.size + x1.n, 0, none⟩) 5 rfl _ _ rfl rfl rfl rfl ?_ ?_ hg1 hl1 hm1 hb1 post5_bs (HeldB.of_at (B := [9, 8, 7, 6, 5]) ?_ (by decide)) (by have := Hm.out; show _ + 5 ≤ _; omega) ?_; (focus (repeat (first | (with_reducible assumption) | (with_reducible exact At.new _ _) | (with_reducible refine At.row ?_) | (with_reducible refine At.app ?_) | (with_reducible refine At.tick ?_) | (with_reducible refine At.gx ?_) | ((with_reducible refine At.new' ?_); focus (simp; done)) | (with_reducible refine At.alloc ?_) | (with_reducible refine At.drew ?_) | (with_reducible exact Is.new _ _ _) | (with_reducible refine Is.row ?_) | (with_reducible refine Is.gx ?_) | ((with_reducible refine Is.new' ?_); focus (simp; done)) | (with_reducible refine Is.alloc ?_) | (with_reducible refine Is.drew ?_)))); exact (by repeat (first | (with_reducible exact Gx.refl _) | (with_reducible assumption) | (with_reducible refine Gx.gx ?_) | (with_reducible refine Gx.alloc ?_) | (with_reducible refine Gx.drew ?_) | (with_reducible refine Gx.drewN ?_) | (with_reducible refine Gx.setRow ?_ (by simp)) | (with_reducible refine Gx.setCell ?_ (by simp)))); (focus (repeat (first | (with_reducible assumption) | (with_reducible exact At.new _ _) | (with_reducible refine At.row ?_) | (with_reducible refine At.app ?_) | (with_reducible refine At.tick ?_) | (with_reducible refine At.gx ?_) | ((with_reducible refine At.new' ?_); focus (simp; done)) | (with_reducible refine At.alloc ?_) | (with_reducible refine At.drew ?_) | (with_reducible exact Is.new _ _ _) | (with_reducible refine Is.row ?_) | (with_reducible refine Is.gx ?_) | ((with_reducible refine Is.new' ?_); focus (simp; done)) | (with_reducible refine Is.alloc ?_) | (with_reducible refine Is.drew ?_)))); rintro g2 C2 W2 ⟨x2, rfl⟩ hg2 hA2 hl2 hm2 hb2 hp2 hq2))
  have hl2' : 3 + M.length + 5 ≤ C2.length := hl2
  have hs : ∀ W, (Instr.slice 39 (.slice (some ⟨g2, 0, none⟩) (3 + M.length + 5) C2.length) (some (.int .i64 3)) (some (.int .i64 (3 + (M.length : Int)))) none).run Tryz.prog W = .ok (.slice (some ⟨g2, 3, none⟩) M.length (C2.length - 3)) W := fun W => by
    have := slice_part g2 0 (3 + M.length + 5) C2.length 3 (3 + M.length) (by omega) (by omega) (by omega) W
    rw [Nat.zero_add, Nat.add_sub_cancel_left] at this
    exact this
  have hr : AroundR M C2 := ⟨hb2, hm2, hl2', fun j hj => by rw [hp2 j (by omega), hp1 j hj], fun j hj => by rw [hp2 _ (by omega), hq1 j hj], fun j hj => hq2 j hj⟩
  have Hr := Lib.hid hr
  clear hr hp1 hq1 hp2 hq2 hb1 hb2
  have hml : M.length ≤ 140737488355328 := by have := Hm.out; omega
  go_wp2
  refine region_gx (by kernel_rfl) (by kernel_rfl) ?_
  repeat (any_goals (first | (refine quiet_fr rfl _ rfl _ rfl ?_ ?_ ?_ ?_; rotate_left; (focus (rintro _ ⟨x, rfl⟩; (focus (repeat (first | (with_reducible assumption) | (with_reducible exact At.new _ _) | (with_reducible refine At.row ?_) | (with_reducible refine At.app ?_) | (with_reducible refine At.tick ?_) | (with_reducible refine At.gx ?_) | ((with_reducible refine At.new' ?_); focus (simp; done)) | (with_reducible refine At.alloc ?_) | (with_reducible refine At.drew ?_) | (with_reducible exact Is.new _ _ _) | (with_reducible refine Is.row ?_) | (with_reducible refine Is.gx ?_) | ((with_reducible refine Is.new' ?_); focus (simp; done)) | (with_reducible refine Is.alloc ?_) | (with_reducible refine Is.drew ?_)))))); (focus (with_reducible (first | exact hl | exact hl1 | exact hl2 | exact hl3 | exact hl4 | exact zeroF_len)))) | go_big_quiet_step ((first | fail)) | quiet_step ((first | fail))))
  refine wpQuiet_nil ?_
  rintro _ ⟨x, rfl⟩
  go_wp2
  go_ret2
  exact ⟨g2, C2, _, rfl, gx_gx _ _ _, hg2, by rw [← gx_gx]; exact hA2.gx, Hr.out⟩

set_option maxHeartbeats 1000000 in
set_option maxRecDepth 100000 in
theorem aroundR_any (n g : Nat) (C : List Int) (hmax : C.length ≤ maxLen) (hlen : 3 + n + 5 ≤ C.length) (hpre : ∀ j, j < 3 → gw C j = gw [1, 2, 3] j) (hpost : ∀ j, j < 5 → gw C (3 + n + j) = gw [9, 8, 7, 6, 5] j)
    (w : World) (hA : At w g (.cells (bc C) 5 (0, 0))) :
    Calls Tryz.prog 30 #[.slice (some ⟨g, 0, none⟩) (3 + n + 5) C.length] w fun e w' => e = .returned (.bool true) ∧ ∃ x, w' = gx w x := by
  have hb : 3 + n + 5 ≤ 9223372036854775807 := by simp only [maxLen] at hmax; omega
  have s1 : ∀ W, (Instr.slice 39 (.slice (some ⟨g, 0, none⟩) (3 + n + 5) C.length) none (some (.int .i64 3)) none).run Tryz.prog W = .ok (.slice (some ⟨g, 0, none⟩) 3 C.length) W := fun W => slice_head g 0 _ _ 3 (by omega) (by omega) W
  have s2 : ∀ W, (Instr.slice 39 (.slice (some ⟨g, 0, none⟩) (3 + n + 5) C.length) (some (.int .i64 (3 + (n : Int)))) none none).run Tryz.prog W = .ok (.slice (some ⟨g, 3 + n, none⟩) 5 (C.length - (3 + n))) W := fun W => by
    have := slice_tail g 0 (3 + n + 5) C.length (3 + n) (by omega) (by omega) W
    rw [Nat.zero_add, Nat.add_sub_cancel_left] at this
    exact this
  have Hpre := Lib.hid hpre
  have Hpost := Lib.hid hpost
  have Hl := Lib.hid hlen
  clear hpre hpost hmax hlen
  go_enter Tryz.func30, Tryz.ntmps30
  go_wp2_with (first | (go_at_call_of 29 (Value.slice (some ⟨g, 0, none⟩) 3 C.length); refine (EqualB_same [1, 2, 3] 3 _ _ _ _ _ (HeldB.part (C := C) ?_ (by have := Hl.out; omega) (fun j hj => by rw [Nat.zero_add]; exact Hpre.out j hj)) (fun h => by cases h) (HeldB.of_at (B := [1, 2, 3]) ?_ (by decide)) (fun h => by cases h)).mono ?_; (focus (repeat (first | (with_reducible assumption) | (with_reducible exact At.new _ _) | (with_reducible refine At.row ?_) | (with_reducible refine At.app ?_) | (with_reducible refine At.tick ?_) | (with_reducible refine At.gx ?_) | ((with_reducible refine At.new' ?_); focus (simp; done)) | (with_reducible refine At.alloc ?_) | (with_reducible refine At.drew ?_) | (with_reducible exact Is.new _ _ _) | (with_reducible refine Is.row ?_) | (with_reducible refine Is.gx ?_) | ((with_reducible refine Is.new' ?_); focus (simp; done)) | (with_reducible refine Is.alloc ?_) | (with_reducible refine Is.drew ?_)))); (focus (repeat (first | (with_reducible assumption) | (with_reducible exact At.new _ _) | (with_reducible refine At.row ?_) | (with_reducible refine At.app ?_) | (with_reducible refine At.tick ?_) | (with_reducible refine At.gx ?_) | ((with_reducible refine At.new' ?_); focus (simp; done)) | (with_reducible refine At.alloc ?_) | (with_reducible refine At.drew ?_) | (with_reducible exact Is.new _ _ _) | (with_reducible refine Is.row ?_) | (with_reducible refine Is.gx ?_) | ((with_reducible refine Is.new' ?_); focus (simp; done)) | (with_reducible refine Is.alloc ?_) | (with_reducible refine Is.drew ?_)))); rintro e w' ⟨rfl, rfl⟩) | (go_at_call 29; refine (EqualB_same [9, 8, 7, 6, 5] 5 _ _ _ _ _ (HeldB.part (C := C) (o := 3 + n) ?_ (by have := Hl.out; omega) Hpost.out) (fun h => by cases h) (HeldB.of_at (B := [9, 8, 7, 6, 5]) ?_ (by decide)) (fun h => by cases h)).mono ?_; (focus (repeat (first | (with_reducible assumption) | (with_reducible exact At.new _ _) | (with_reducible refine At.row ?_) | (with_reducible refine At.app ?_) | (with_reducible refine At.tick ?_) | (with_reducible refine At.gx ?_) | ((with_reducible refine At.new' ?_); focus (simp; done)) | (with_reducible refine At.alloc ?_) | (with_reducible refine At.drew ?_) | (with_reducible exact Is.new _ _ _) | (with_reducible refine Is.row ?_) | (with_reducible refine Is.gx ?_) | ((with_reducible refine Is.new' ?_); focus (simp; done)) | (with_reducible refine Is.alloc ?_) | (with_reducible refine Is.drew ?_)))); (focus (repeat (first | (with_reducible assumption) | (with_reducible exact At.new _ _) | (with_reducible refine At.row ?_) | (with_reducible refine At.app ?_) | (with_reducible refine At.tick ?_) | (with_reducible refine At.gx ?_) | ((with_reducible refine At.new' ?_); focus (simp; done)) | (with_reducible refine At.alloc ?_) | (with_reducible refine At.drew ?_) | (with_reducible exact Is.new _ _ _) | (with_reducible refine Is.row ?_) | (with_reducible refine Is.gx ?_) | ((with_reducible refine Is.new' ?_); focus (simp; done)) | (with_reducible refine Is.alloc ?_) | (with_reducible refine Is.drew ?_)))); rintro e w' ⟨rfl, rfl⟩))
  go_ret
  exact ⟨rfl, (by repeat (first | (with_reducible exact Gx.refl _) | (with_reducible assumption) | (with_reducible refine Gx.gx ?_) | (with_reducible refine Gx.alloc ?_) | (with_reducible refine Gx.drew ?_) | (with_reducible refine Gx.drewN ?_) | (with_reducible refine Gx.setRow ?_ (by simp)) | (with_reducible refine Gx.setCell ?_ (by simp))))⟩
end Go.Proofs.YthkccbeffonaaaaGreatDoor

/-
  The reference's PutBytes: contracts.
-/
namespace Go.Proofs.YthkccbeffonaaaaGreatDoor
open Go.RowKit
-- AT2

theorem results_tmp4 {fn : Func} {t u v x : Tmp} (h : fn.results = #[.tmp t, .tmp u, .tmp v, .tmp x]) (tmps : Array Value) (P : Program) (w : World) :
    (results fn tmps).run P w = .ok (.tuple #[tmps.getD t undef, tmps.getD u undef, tmps.getD v undef, tmps.getD x undef]) w := by
  simp [results, h]
theorem data_at {D : List Int} {A2 : Option Addr} {w W : World} (h : HeldB D A2 D.length w) (hW : ∃ x, W = Go.Proofs.YthkccbeffonaaaaGreatDoor.gx w x) : 0 < D.length → ∃ b o, A2 = some ⟨b, o, none⟩ ∧ b < w.heap.size ∧ ∀ j, j < D.length → W.cell? ⟨b, o + j, none⟩ = some (.int .u8 (gw D j)) := by
  intro h0
  unfold HeldB at h
  obtain ⟨b, o, e, hc⟩ := h h0
  refine ⟨b, o, e, World.block_lt_of_cell? w _ (hc 0 h0), fun j hj => ?_⟩
  obtain ⟨x, rfl⟩ := hW
  exact cell_keep_gx (hc j hj)
set_option maxHeartbeats 1000000 in
set_option maxRecDepth 100000 in
theorem rput_ok (M D : List Int) (hM : Bs M) (A A2 : Option Addr) (c c2 q : Nat) (p : Int) (hq : q + D.length ≤ M.length) (p0 : 0 ≤ p) (p1 : p ≤ 1000000000) (hm : M.length ≤ 140737488355328) (w : World) (hH : HeldB M A M.length w) (hH2 : HeldB D A2 D.length w) :
    Calls Tryz.prog 87 #[.slice A M.length c, .int .i64 (q : Int), .slice A2 D.length c2, .int .i64 p] w fun e w' => ∃ g C x, e = .returned (.tuple #[.slice (some ⟨g, 0, none⟩) M.length C.length, .int .i64 (pbV D p), .bool (decide ((D.length : Int) ≤ p))]) ∧ w' = gx w x ∧ w.heap.size ≤ g ∧ At (gx w x) g (.cells (bc (pbC C D q p)) 5 (0, 0)) ∧ M.length ≤ C.length ∧ Bs C ∧ ∀ j, j < M.length → gw C j = gw M j := by
  have H2 := Lib.hid hH2
  clear hH2
  go_enter Tryz.func87, Tryz.ntmps87
  go_wp2_with (first | (at_builtin; go_loud (refine append_own w [] M _ 0 A c rfl _ _ rfl rfl rfl rfl ?_ ?_ ?_ (by decide) (by decide) nil_bs hM ?_ (by omega) ?_; (focus (exact At.new w (.cells #[] 5))); exact (by repeat (first | (with_reducible exact Gx.refl _) | (with_reducible assumption) | (with_reducible refine Gx.gx ?_) | (with_reducible refine Gx.alloc ?_) | (with_reducible refine Gx.drew ?_) | (with_reducible refine Gx.drewN ?_) | (with_reducible refine Gx.setRow ?_ (by simp)) | (with_reducible refine Gx.setCell ?_ (by simp)))); (focus (simp)); (focus (repeat (first | (with_reducible assumption) | (with_reducible refine HeldB.gx ?_) | (with_reducible refine HeldB.alloc ?_) | (with_reducible refine HeldB.drew ?_)))); rintro g C W1 hG1 hg1 hA1 hl1 hm1 hb1 hp1 hq1)))
  have HD := Lib.hid (data_at H2.out hG1)
  have hl1' : M.length ≤ C.length := by omega
  have hv : ∀ j, j < M.length → gw C j = gw M j := fun j hj => by have := hq1 j hj; rwa [Nat.zero_add] at this
  have HV := Lib.hid hv
  have hI : Is W1 g 5 := ⟨_, hA1⟩
  have E0 : Hid (W1.setRow g (bc (wrB C D q 0)) = W1) := Lib.hid (by rw [wrB_0]; exact hA1.self)
  have hlg := hA1.lt
  have key : ∀ K W, At W g (.cells (bc K) 5 (0, 0)) → (∃ x, W = gx w x) → K = pbC C D q p → ∀ v d, v = pbV D p → d = decide ((D.length : Int) ≤ p) → ∃ g' B x, Ending.returned (.tuple #[.slice (some ⟨g, 0, none⟩) M.length C.length, .int .i64 v, .bool d]) = .returned (.tuple #[.slice (some ⟨g', 0, none⟩) M.length B.length, .int .i64 (pbV D p), .bool (decide ((D.length : Int) ≤ p))]) ∧ W = gx w x ∧ w.heap.size ≤ g' ∧ At (gx w x) g' (.cells (bc (pbC B D q p)) 5 (0, 0)) ∧ M.length ≤ B.length ∧ Bs B ∧ ∀ j, j < M.length → gw B j = gw M j := by
    rintro K _ hA ⟨x, rfl⟩ rfl v d rfl rfl
    exact ⟨g, C, x, rfl, rfl, hg1, hA, hl1', hb1, HV.out⟩
  have Key := Lib.hid key
  clear hp1 hq1 hv key hb1 hm1 hl1
  go_loopw [19, 3] (fun i u wr => ∃ k : Nat, k ≤ D.length ∧ (k : Int) ≤ p ∧ i = .int .i64 k ∧ u = .int .i64 (p - k) ∧ wr = W1.setRow g (bc (wrB C D q k))) (fun i _ _ => D.length - (intOf i).toNat)
  case atStart => exact ⟨0, Nat.zero_le _, by omega, rfl, by simp, by rw [E0.out]⟩
  case round =>
    obtain ⟨k, hk, hkp, rfl, rfl, rfl⟩ := hrel
    have hlk := wrB_len C D q k
    have hA' : At (W1.setRow g (bc (wrB C D q k))) g (.cells (bc (wrB C D q k)) 5 (0, 0)) := At.row hI
    by_cases hlt : k < D.length
    · obtain ⟨b, o, rfl, hbl, hcs⟩ := HD.out (by omega)
      have hne : b ≠ g := by omega
      have hc : (W1.setRow g (bc (wrB C D q k))).cell? ⟨b, o + k, none⟩ = some (.int .u8 (gw D k)) := by rw [cell_row_ne hne]; exact hcs k hlt
      have h0 := wrB_at C D q k (by omega)
      have hca : (W1.setRow g (bc (wrB C D q k))).cell? ⟨g, q + k, none⟩ = some (.int .u8 (gw C (q + k))) := by rw [cell_of_row _ g _ _ _ _ hA', bc_get _ _ (by omega), h0]
      have hwr : IntKind.i64.wrap ((q : Int) + (k : Int)) = ((q + k : Nat) : Int) := by rw [IntWalk.i64_in _ (by omega)]; omega
      have hql : q + k < M.length := by omega
      clear hcs
      by_cases hz : (k : Int) = p
      · have h1 := tornB_eq (gw C (q + k)) (gw D k)
        have h2 := wrT_is C D q k
        have hpk : p - (k : Int) = 0 := by omega
        have Hz := Lib.hid hz
        clear hz
        go_wp2
        go_ret3
        refine Key.out (wrT C D q k) _ (At.row hI) (Gx.setRow hG1 hg1) ?_ _ _ ?_ ?_
        · have hz := Hz.out; unfold pbC; rw [if_neg (by omega), ← hz, Int.toNat_natCast]
        · have hz := Hz.out; unfold pbV; rw [if_neg (by omega)]
        · have hz := Hz.out; exact (decide_eq_false (by omega)).symm
      · have h1 := andB_eq (gw C (q + k)) (gw D k)
        have h2 := wrB_succ C D q k
        have hpk : ¬ p - (k : Int) = 0 := by omega
        have hw2 : IntKind.i64.wrap (p - (k : Int) - 1) = p - ((k + 1 : Nat) : Int) := by rw [IntWalk.i64_in _ (by omega)]; omega
        go_wp2
        go_roundw
        case rel => exact ⟨k + 1, by omega, by omega, by go_num, rfl, rfl⟩
        case measure => simp [intOf]; omega
    · obtain rfl : k = D.length := by omega
      go_wp2
      go_ret3
      refine Key.out (wrB C D q D.length) _ (At.row hI) (Gx.setRow hG1 hg1) ?_ _ _ ?_ ?_
      · unfold pbC; rw [if_pos hkp]
      · unfold pbV; rw [if_pos hkp]
      · exact (decide_eq_true hkp).symm
set_option maxHeartbeats 600000 in
set_option maxRecDepth 100000 in
theorem RPutBytes_err (at_ p : Int) (A A2 : Option Addr) (n c l c2 : Nat) (hn : n ≤ 140737488355328) (hl : l ≤ 140737488355328) (hat : at_ ≤ 9223372036854775807) (h : pbE at_ p n l ≠ 0) (w : World) :
    Calls Tryz.prog 28 #[.slice A n c, .int .i64 at_, .slice A2 l c2, .int .i64 p] w fun e w' => e = .returned (.tuple #[.slice A n c, .int .i64 0, .bool false, .int .i64 (pbE at_ p n l)]) ∧ ∃ x, w' = gx w x := by
  unfold pbE at *
  by_cases h1 : at_ < 0
  · rw [if_pos h1]
    clear h
    go_enter Tryz.func28, Tryz.ntmps28
    go_wp2
    ((try simp only [Exit.inBlock, Exit.then]); refine bodyPost_ret (results_tmp4 rfl _ _ _) rfl ?_)
    exact ⟨rfl, (by repeat (first | (with_reducible exact Gx.refl _) | (with_reducible assumption) | (with_reducible refine Gx.gx ?_) | (with_reducible refine Gx.alloc ?_) | (with_reducible refine Gx.drew ?_) | (with_reducible refine Gx.drewN ?_) | (with_reducible refine Gx.setRow ?_ (by simp)) | (with_reducible refine Gx.setCell ?_ (by simp))))⟩
  · rw [if_neg h1] at h ⊢
    by_cases h2 : p < 0 ∨ 1000000000 < p
    · rw [if_pos h2]
      have H2 : Hid (∀ W : World, Calls Tryz.prog 76 #[.int .i64 p, .int .i64 0, .int .i64 1000000000] W fun e w' => e = .returned (.bool true) ∧ W = w') := Lib.hid (fun W => by
        refine (outside_any p 0 1000000000 W).mono ?_
        rintro e w' ⟨rfl, rfl⟩
        refine ⟨?_, rfl⟩
        rcases h2 with h2 | h2
        · rw [decide_eq_true h2]; rfl
        · rw [decide_eq_true h2]; simp)
      clear h h2
      go_enter Tryz.func28, Tryz.ntmps28
      go_wp2_with (go_at_call 76; refine (H2.out _).mono ?_; rintro e w' ⟨rfl, rfl⟩)
      ((try simp only [Exit.inBlock, Exit.then]); refine bodyPost_ret (results_tmp4 rfl _ _ _) rfl ?_)
      exact ⟨rfl, (by repeat (first | (with_reducible exact Gx.refl _) | (with_reducible assumption) | (with_reducible refine Gx.gx ?_) | (with_reducible refine Gx.alloc ?_) | (with_reducible refine Gx.drew ?_) | (with_reducible refine Gx.drewN ?_) | (with_reducible refine Gx.setRow ?_ (by simp)) | (with_reducible refine Gx.setCell ?_ (by simp))))⟩
    · rw [if_neg h2] at h ⊢
      have h3 : (n : Int) - at_ < l := by
        by_cases h3 : (n : Int) - at_ < l
        · exact h3
        · rw [if_neg h3] at h; exact absurd rfl h
      rw [if_pos h3]
      have p0 : 0 ≤ p := by omega
      have p1 : p ≤ 1000000000 := by omega
      have hw : IntKind.i64.wrap ((n : Int) - at_) = (n : Int) - at_ := IntWalk.i64_in _ (by omega)
      clear h h2
      go_enter Tryz.func28, Tryz.ntmps28
      go_wp2_with (go_at_call 76; refine (outside_no _ _ _ p0 p1 _).mono ?_; rintro e w' ⟨rfl, rfl⟩)
      all_goals (((try simp only [Exit.inBlock, Exit.then]); refine bodyPost_ret (results_tmp4 rfl _ _ _) rfl ?_); exact ⟨rfl, (by repeat (first | (with_reducible exact Gx.refl _) | (with_reducible assumption) | (with_reducible refine Gx.gx ?_) | (with_reducible refine Gx.alloc ?_) | (with_reducible refine Gx.drew ?_) | (with_reducible refine Gx.drewN ?_) | (with_reducible refine Gx.setRow ?_ (by simp)) | (with_reducible refine Gx.setCell ?_ (by simp))))⟩)
set_option maxHeartbeats 600000 in
set_option maxRecDepth 100000 in
theorem RPutBytes_ok (M D : List Int) (hM : Bs M) (A A2 : Option Addr) (c c2 : Nat) (at_ p : Int) (hE : pbE at_ p M.length D.length = 0) (hm : M.length ≤ 140737488355328) (w : World) (hH : HeldB M A M.length w) (hH2 : HeldB D A2 D.length w) :
    Calls Tryz.prog 28 #[.slice A M.length c, .int .i64 at_, .slice A2 D.length c2, .int .i64 p] w fun e w' => ∃ g C x, e = .returned (.tuple #[.slice (some ⟨g, 0, none⟩) M.length C.length, .int .i64 (pbV D p), .bool (decide ((D.length : Int) ≤ p)), .int .i64 0]) ∧ w' = gx w x ∧ w.heap.size ≤ g ∧ At (gx w x) g (.cells (bc (pbC C D at_.toNat p)) 5 (0, 0)) ∧ M.length ≤ C.length ∧ Bs C ∧ ∀ j, j < M.length → gw C j = gw M j := by
  obtain ⟨a0, p0, p1, hl⟩ := pbE_ok hE
  obtain ⟨q, rfl⟩ : ∃ q : Nat, at_ = q := ⟨at_.toNat, by omega⟩
  have hw : IntKind.i64.wrap ((M.length : Int) - (q : Int)) = (M.length : Int) - q := IntWalk.i64_in _ (by omega)
  have hge : decide ((M.length : Int) - q < D.length) = false := decide_eq_false (by omega)
  have hgt : decide ((M.length : Int) < q) = false := decide_eq_false (by omega)
  have hgt2 : decide (M.length < q) = false := decide_eq_false (by omega)
  have hqn : q ≤ M.length := by omega
  have hlt0 : decide ((q : Int) < 0) = false := decide_eq_false (by omega)
  rw [Int.toNat_natCast]
  have HP := Lib.hid (rput_ok M D hM A A2 c c2 q p (by omega) p0 p1 hm w hH hH2)
  clear hE hH hH2 hl
  go_enter Tryz.func28, Tryz.ntmps28
  go_wp2_with (first | (go_at_call 76; refine (outside_no _ _ _ p0 p1 _).mono ?_; rintro e w' ⟨rfl, rfl⟩) | (go_at_call 87; go_loud (refine HP.out.mono ?_; rintro e w' ⟨g, C, x, rfl, rfl, r1, r2, r3, r4, r5⟩)))
  ((try simp only [Exit.inBlock, Exit.then]); refine bodyPost_ret (results_tmp4 rfl _ _ _) rfl ?_)
  exact ⟨g, C, x, rfl, rfl, r1, r2, r3, r4, r5⟩
end Go.Proofs.YthkccbeffonaaaaGreatDoor

/-
  ClearSector, the program's and the reference's: contracts.
-/
namespace Go.Proofs.YthkccbeffonaaaaGreatDoor
open Go.RowKit
-- AT2

theorem make_bytesw (n : Nat) (hn : n ≤ 140737488355328) (w : World) : (Instr.makeSlice 39 (.int .i64 (n : Int)) (.int .i64 (n : Int))).run Tryz.prog w = .ok (.slice (some ⟨w.heap.size, 0, none⟩) n n) (w.alloc (.cells (bc (zerosI n)) 5)) := by
  have hE : Elem 39 5 1 1 := elem_of Tryz.underlying39 (by decide) (z := .int .u8 0) (by kernel_rfl) (by simp [Value.cells])
  obtain ⟨ht, hp, i, z, hi, hz, hsize, hby, hzs⟩ := hE
  have hzz : z = .int .u8 0 := by
    have h : (Tryz.prog.info? 5).map (·.zero) = some (some (.int .u8 0)) := by kernel_rfl
    rw [hi] at h
    simp only [Option.map_some, Option.some.injEq, hz] at h
    exact h
  have := run_make (P := Tryz.prog) w 39 5 i z ht hi hz .i64 .i64 n n (by omega) (Int.le_refl _) (by rw [hby]; omega) (by omega)
  rw [this, hsize, hzz]
  simp only [Int.toNat_natCast, Value.cells, Nat.mul_one]
  have e : madeCells #[Value.int .u8 0] n = bc (zerosI n) := by
    apply Array.toList_inj.1
    rw [toList_madeCells_one, ← zerosB_arr]
  rw [e]
set_option maxHeartbeats 600000 in
set_option maxRecDepth 100000 in
theorem filled_any (n : Nat) (hn : n ≤ 140737488355328) (w : World) :
    Calls Tryz.prog 77 #[.int .i64 (n : Int)] w fun e w' => ∃ g x, e = .returned (.slice (some ⟨g, 0, none⟩) n n) ∧ w' = gx w x ∧ w.heap.size ≤ g ∧ At (gx w x) g (.cells (bc (onesB n)) 5 (0, 0)) := by
  have hmk := make_bytesw n hn
  have F0 : Hid (fillTo (zerosI n) 0 0 = zerosI n) := Lib.hid rfl
  have F1 := Lib.hid (fill_zeros n)
  go_enter Tryz.func77, Tryz.ntmps77
  go_wp2
  go_loopw [9] (fun i wr => ∃ k : Nat, k ≤ n ∧ i = .int .i64 k ∧ wr = w.alloc (.cells (bc (fillTo (zerosI n) 0 k)) 5)) (fun i _ => n - (intOf i).toNat)
  case atStart => exact ⟨0, Nat.zero_le _, rfl, by rw [F0.out]⟩
  case round =>
    obtain ⟨k, hk, rfl, rfl⟩ := hrel
    have hlf : (fillTo (zerosI n) 0 k).length = n := by rw [fillTo_len, zerosI_len]
    by_cases hlt : k < n
    · have e : (fillTo (zerosI n) 0 k).set k 255 = fillTo (zerosI n) 0 (k + 1) := by
        show _ = (fillTo (zerosI n) 0 k).set (0 + k) 255
        rw [Nat.zero_add]
      go_wp2
      go_roundw
      case rel => exact ⟨k + 1, by omega, by go_num, rfl⟩
      case measure => simp [intOf]; omega
    · obtain rfl : k = n := by omega
      go_wp2
      go_ret
      refine ⟨w.heap.size, _, rfl, alloc_is _ _, Nat.le_refl _, ?_⟩
      rw [← alloc_is, F1.out]
      exact At.new _ _
/-- The bytes behind clearing the first k of them. -/
def clB (M : List Int) (k : Nat) : List Int := onesB k ++ M.drop k
theorem clB_len {M : List Int} {k : Nat} (h : k ≤ M.length) : (clB M k).length = M.length := by unfold clB; simp [onesB_len]; omega
theorem gw_clB (M : List Int) (k j : Nat) : gw (clB M k) j = if j < k then 255 else gw M j := by
  unfold clB
  rw [gw_append, onesB_len]
  by_cases h : j < k
  · rw [if_pos h, if_pos h, gw_onesB h]
  · rw [if_neg h, if_neg h, gw_drop]
    congr 1
    omega
theorem el_byte : Elem 39 5 1 1 := elem_of Tryz.underlying39 (by decide) (z := .int .u8 0) (by kernel_rfl) (by simp [Value.cells])
def uC (B : List Int) : List Value := B.map (Value.int .u8)
theorem uC_len (B : List Int) : (uC B).length = B.length := by unfold uC; simp
theorem uC_one (B : List Int) : ∀ u ∈ uC B, u.oneCell' = true := by unfold uC; simp [Value.oneCell']
theorem uC_get {B : List Int} {j : Nat} (h : j < B.length) : (uC B)[j]? = some (.int .u8 (gw B j)) := by
  unfold uC gw
  simp [List.getD, List.getElem?_eq_getElem h]
theorem uC_app (A B : List Int) : uC A ++ uC B = uC (A ++ B) := by unfold uC; simp
theorem held_shows {B : List Int} {A : Option Addr} {n : Nat} {W : World} (hn : B.length = n) (h : Shows (uC B) A W) : HeldB B A n W := by
  unfold HeldB
  intro h0
  unfold Shows at h
  obtain ⟨g, o, e, hc⟩ := h (by rw [uC_len]; omega)
  exact ⟨g, o, e, fun j hj => hc j _ (uC_get (by omega))⟩
theorem shows_held {B : List Int} {A : Option Addr} {W : World} (h : HeldB B A B.length W) : Shows (uC B) A W := by
  unfold HeldB at h
  unfold Shows
  intro h0
  obtain ⟨g, o, e, hc⟩ := h (by rw [uC_len] at h0; exact h0)
  refine ⟨g, o, e, fun j u hu => ?_⟩
  have hj : j < B.length := by have := (List.getElem?_eq_some_iff.1 hu).1; rwa [uC_len] at this
  rw [uC_get hj] at hu
  rw [← Option.some.inj hu]
  exact hc j hj
attribute [irreducible] uC
/-- s[k:], of any slice. -/
theorem slice_any (A : Option Addr) (n c k : Nat) (hk : k ≤ n) (hc : n ≤ c) (hN : A = none → c = 0) (M : List Int) (hl : M.length = n) (w : World) (hH : HeldB M A n w) : ∃ A', (∀ W, (Instr.slice 39 (.slice A n c) (some (.int .i64 (k : Int))) none none).run Tryz.prog W = .ok (.slice A' (n - k) (c - k)) W) ∧ HeldB (M.drop k) A' (n - k) w ∧ (A' = none → n - k = 0 ∧ c - k = 0) := by
  cases A with
  | none =>
    obtain rfl := hN rfl
    obtain rfl : n = 0 := by omega
    obtain rfl : k = 0 := by omega
    exact ⟨none, slice_nil0, HeldB.none_zero, fun _ => ⟨rfl, rfl⟩⟩
  | some ad =>
    rcases Nat.eq_zero_or_pos n with rfl | h0
    · obtain rfl : k = 0 := by omega
      obtain ⟨b, o, z⟩ := ad
      rcases Nat.eq_zero_or_pos c with rfl | hc0
      · refine ⟨some ⟨b, o, z⟩, fun W => ?_, HeldB.none_zero, fun h => by cases h⟩
        have ht' : Tryz.prog.underlying 39 = some (.slice (Tryz.prog.elem 39)) := by simp [Program.elem, Tryz.underlying39]
        have he : Tryz.prog.elem 39 = 5 := by simp [Program.elem, Tryz.underlying39]
        rw [run_slice_l W 39 _ _ _ ht' .i64 _ (by omega) (by omega), he, sizeByte]
        simp [Result.andThen, sliced]
      · refine ⟨some ((⟨b, o, z⟩ : Addr).add 0), fun W => ?_, HeldB.none_zero, fun h => by cases h⟩
        have ht' : Tryz.prog.underlying 39 = some (.slice (Tryz.prog.elem 39)) := by simp [Program.elem, Tryz.underlying39]
        have he : Tryz.prog.elem 39 = 5 := by simp [Program.elem, Tryz.underlying39]
        have hne : ¬ c = 0 := by omega
        rw [run_slice_l W 39 _ _ _ ht' .i64 _ (by omega) (by omega), he, sizeByte]
        simp [Result.andThen, sliced, hne]
    · have hH' := hH
      unfold HeldB at hH'
      obtain ⟨g, o, e, hcs⟩ := hH' h0
      cases e
      obtain ⟨A', h1, h2⟩ := slice_from g o n c k hk hc
      refine ⟨A', h1, ?_, fun h => ?_⟩
      · rcases Nat.lt_or_ge k n with hlt | hge
        · rw [h2 hlt]
          unfold HeldB
          intro _
          refine ⟨g, o + k, rfl, fun j hj => ?_⟩
          rw [gw_drop, Nat.add_assoc]
          exact hcs (k + j) (by omega)
        · obtain rfl : k = n := by omega
          rw [Nat.sub_self]
          exact HeldB.none_zero
      · rcases Nat.lt_or_ge k n with hlt | hge
        · rw [h2 hlt] at h; cases h
        · have hx := h1 w
          obtain rfl : k = n := by omega
          subst h
          exfalso
          rcases Nat.lt_or_ge k c with hkc | hkc
          · rw [slice_tail g o k c k (Nat.le_refl _) hkc] at hx
            simp at hx
          · obtain rfl : c = k := by omega
            have ht' : Tryz.prog.underlying 39 = some (.slice (Tryz.prog.elem 39)) := by simp [Program.elem, Tryz.underlying39]
            have he : Tryz.prog.elem 39 = 5 := by simp [Program.elem, Tryz.underlying39]
            rw [run_slice_l w 39 _ _ _ ht' .i64 _ (by omega) (by omega), he, sizeByte] at hx
            simp [Result.andThen, sliced] at hx
end Go.Proofs.YthkccbeffonaaaaGreatDoor

/-
  The reference's clear1 and ClearSector; the program's ClearSector: contracts.
-/
namespace Go.Proofs.YthkccbeffonaaaaGreatDoor
open Go.RowKit
-- AT2

theorem step_append_all {t e : TypeId} {size bytes : Nat} (hE : Elem t e size bytes) {ops : Array Oper} {o : Oper} {a : Act} {K : Act → World → Prop} {Q : Exit → Act → World → Prop} {E' : Prop} {W : World} (w : World) (b : Nat) {s x : Operand} {v : Value} {n : Nat} {xs : List Value} {A : Option Addr} {m c : Nat} {news : List Value}
    (ho : o.op = .call { callee := .builtin .append, args := #[s, x], argTypes := #[t, t] }) (hgd : o.guard = none) (hs : a.eval s = v) (hx : a.eval x = .slice A m c) (hN : A = none → m = 0 ∧ c = 0)
    (hb : w.heap.size ≤ b) (hown : Own b W e size v n xs) (hW : ∃ x, W = gx w x) (hbW : b ≤ W.heap.size) (hl : news.length = m * size) (hnews : Shows news A W) (h1 : ∀ u ∈ news, u.oneCell' = true) (h63 : n + m ≤ maxLen) (hbytes : (n + m) * bytes ≤ 140737488355328)
    (h : ∀ v' W', (∃ x, W' = gx w x) → Own b W' e size v' (n + m) (xs ++ news) → W.grownBy W' v.ownBlock → K (a.put o.dst v') W') : if Region.wanted o (yielded ops a.tmps) = true then Oper.wp Tryz.prog o a W K Q else E' := by
  rw [if_pos (by simp [Region.wanted, hgd])]
  obtain ⟨ht, hp, i, z, hi, hz, hsize, hby, hzs⟩ := hE
  have gxw : ∀ W' , W.grownBy W' v.ownBlock → ∃ x, W' = gx w x := fun W' hg => gx_of_grown hW hg fun k hk => by have := hown.lt k hk; omega
  cases A with
  | none =>
    obtain ⟨rfl, rfl⟩ := hN rfl
    have hn : news = [] := List.eq_nil_of_length_eq_zero (by simpa using hl)
    subst hn
    have hr := run_append_owned_none (P := Tryz.prog) W b t o.type e i size ht hi v n xs hown.out
    unfold Oper.wp execOp
    simp only [ho, resolve, invoke, builtin, Sem.run_bind, Sem.run_pure, Result.andThen_ok, List.map_toArray, List.map_cons, List.map_nil, hs, hx, hr]
    exact h v W hW (by simpa using hown) ⟨rfl, rfl, rfl, Nat.le_refl _, fun _ _ _ => rfl⟩
  | some ad =>
    refine wp_append_own W s x t ho b e i z size bytes ht hi hz hsize hby hzs hp v n xs hs hown.out ad m c news hx hl ?_ h1 h63 hbytes hbW fun v' W' h2 h3 _ => h v' W' (gxw W' h3) (Own.mk' h2) h3
    intro j u hu
    unfold Shows at hnews
    obtain ⟨g', o', e1, hc⟩ := hnews (by have := (List.getElem?_eq_some_iff.1 hu).1; omega)
    obtain rfl := Option.some.inj e1
    rw [Addr.add_lit]
    exact hc j u hu
set_option maxHeartbeats 1000000 in
set_option maxRecDepth 100000 in
theorem clear1_zero (M : List Int) (A : Option Addr) (c : Nat) (hm : M.length ≤ 140737488355328) (hc : M.length ≤ c) (hN : A = none → c = 0) (w : World) (hH : HeldB M A M.length w) :
    Calls Tryz.prog 89 #[.slice A M.length c, .int .i64 0] w fun e w' => ∃ A' c' x, e = .returned (.tuple #[.slice A' M.length c', .int .i64 0, .bool false]) ∧ w' = gx w x ∧ HeldB (clB M (M.length / 2)) A' M.length (gx w x) := by
  obtain ⟨k, hkd⟩ : ∃ k, k = M.length / 2 := ⟨_, rfl⟩
  rw [← hkd]
  have hk : k ≤ M.length := by omega
  have hkm : k ≤ 140737488355328 := by omega
  have hd2 : (M.length : Int) / 2 = (k : Int) := by omega
  have hd3 : IntKind.i64.wrap ((M.length : Int).tdiv 2) = (k : Int) := by rw [Int.tdiv_eq_ediv_of_nonneg (by omega), IntKind.wrap_i64]; omega
  obtain ⟨A', hT1, hHT, hNT⟩ := slice_any A M.length c k hk hc hN M rfl w hH
  have hdl : (M.drop k).length = M.length - k := List.length_drop
  have hul := uC_len (M.drop k)
  have hSh : Hid (Shows (uC (M.drop k)) A' w) := Lib.hid (shows_held (by rw [hdl]; exact hHT))
  have HKK : Hid (k + (M.length - k) = M.length) := Lib.hid (by omega)
  have hCl := clB_len hk
  clear hHT
  have HKD := Lib.hid hkd
  clear hkd
  go_enter Tryz.func89, Tryz.ntmps89
  go_wp2
  go_region_law (first | (go_simp; go_at_call 77; go_loud (refine (filled_any k hkm _).mono ?_; rintro e W1 ⟨g1, x1, rfl, hW1, hg1, hA1⟩; rw [← hW1] at hA1; have hG1 : ∃ x, W1 = gx w x := (hW1 ▸ (by repeat (first | (with_reducible exact Gx.refl _) | (with_reducible assumption) | (with_reducible refine Gx.gx ?_) | (with_reducible refine Gx.alloc ?_) | (with_reducible refine Gx.drew ?_) | (with_reducible refine Gx.drewN ?_) | (with_reducible refine Gx.setRow ?_ (by simp)) | (with_reducible refine Gx.setCell ?_ (by simp))))); have hO1 : Own w.heap.size W1 5 1 (.slice (some ⟨g1, 0, none⟩) k k) k (uC (onesB k)) := own_whole (by unfold uC; exact hA1) (by rw [uC_len, onesB_len]) (by simp at hg1; omega) (by simp only [maxLen]; omega); have hz1 := size_of_gx hG1; clear hW1 hA1)) | (apply step_append_all el_byte w w.heap.size (v := .slice (some ⟨g1, 0, none⟩) k k) (n := k) (xs := uC (onesB k)) (A := A') (m := M.length - k) (c := c - k) (news := uC (M.drop k)); go_loud ((exact rfl; exact rfl; exact rfl; exact rfl; exact hNT; (focus (exact Nat.le_refl _)); (focus (repeat (first | (with_reducible assumption) | (with_reducible exact Own.nil _ _ _ _) | (with_reducible refine Own.app ?_) | (with_reducible refine Own.tick ?_) | (with_reducible refine Own.gx ?_) | (with_reducible refine Own.alloc ?_) | (with_reducible refine Own.drew ?_) | (with_reducible refine Own.row ?_ (by omega))))); exact (by repeat (first | (with_reducible exact Gx.refl _) | (with_reducible assumption) | (with_reducible refine Gx.gx ?_) | (with_reducible refine Gx.alloc ?_) | (with_reducible refine Gx.drew ?_) | (with_reducible refine Gx.drewN ?_) | (with_reducible refine Gx.setRow ?_ (by simp)) | (with_reducible refine Gx.setCell ?_ (by simp)))); (focus (first | omega | (simp <;> omega))); (focus (rw [hul, hdl, Nat.mul_one])); (focus (refine Shows.of_gx hSh.out ?_; exact (by repeat (first | (with_reducible exact Gx.refl _) | (with_reducible assumption) | (with_reducible refine Gx.gx ?_) | (with_reducible refine Gx.alloc ?_) | (with_reducible refine Gx.drew ?_) | (with_reducible refine Gx.drewN ?_) | (with_reducible refine Gx.setRow ?_ (by simp)) | (with_reducible refine Gx.setCell ?_ (by simp)))))); (focus (exact uC_one _)); (focus (simp only [maxLen]; omega)); (focus omega); rintro v' W2 hG2 hO2 hg2))))
  all_goals
    go_wp2
    go_ret3
    obtain ⟨A2, c2, hv2, h1, h2, h3, hSS⟩ := hO2.is
    subst hv2
    rw [uC_app] at hSS
    have hHH := held_shows (n := M.length) (B := clB M k) hCl hSS
    obtain ⟨x, hx⟩ := hG2
    refine ⟨A2, c2, x, ?_, hx, by rw [← hx]; exact hHH⟩
    first | rfl | (rw [HKK.out]; rfl)
set_option maxHeartbeats 1000000 in
set_option maxRecDepth 100000 in
theorem clear1_pos (M : List Int) (A : Option Addr) (c : Nat) (p : Int) (p0 : 0 < p) (p1 : p ≤ 1000000000) (hm : M.length ≤ 140737488355328) (hc : M.length ≤ c) (hN : A = none → c = 0) (w : World) (hH : HeldB M A M.length w) :
    Calls Tryz.prog 89 #[.slice A M.length c, .int .i64 p] w fun e w' => ∃ A' c' x, e = .returned (.tuple #[.slice A' M.length c', .int .i64 (p - 1), .bool true]) ∧ w' = gx w x ∧ HeldB (clB M M.length) A' M.length (gx w x) := by
  have hne : ¬ p = 0 := by omega
  have hpw : IntKind.i64.wrap (p - 1) = p - 1 := IntWalk.i64_in _ (by omega)
  obtain ⟨A', hT1, -, hNT⟩ := slice_any A M.length c M.length (Nat.le_refl _) hc hN M rfl w hH
  rw [Nat.sub_self] at hT1 hNT
  have hCl := clB_len (M := M) (Nat.le_refl _)
  have HB : Hid (uC (onesB M.length) ++ [] = uC (clB M M.length)) := Lib.hid (by unfold clB; rw [List.drop_length, List.append_nil, List.append_nil])
  go_enter Tryz.func89, Tryz.ntmps89
  go_wp2
  go_region_law (first | (go_simp; go_at_call 77; go_loud (refine (filled_any M.length hm _).mono ?_; rintro e W1 ⟨g1, x1, rfl, hW1, hg1, hA1⟩; rw [← hW1] at hA1; have hG1 : ∃ x, W1 = gx w x := (hW1 ▸ (by repeat (first | (with_reducible exact Gx.refl _) | (with_reducible assumption) | (with_reducible refine Gx.gx ?_) | (with_reducible refine Gx.alloc ?_) | (with_reducible refine Gx.drew ?_) | (with_reducible refine Gx.drewN ?_) | (with_reducible refine Gx.setRow ?_ (by simp)) | (with_reducible refine Gx.setCell ?_ (by simp))))); have hO1 : Own w.heap.size W1 5 1 (.slice (some ⟨g1, 0, none⟩) M.length M.length) M.length (uC (onesB M.length)) := own_whole (by unfold uC; exact hA1) (by rw [uC_len, onesB_len]) (by simp at hg1; omega) (by simp only [maxLen]; omega); have hz1 := size_of_gx hG1; clear hW1 hA1)) | (apply step_append_all el_byte w w.heap.size (v := .slice (some ⟨g1, 0, none⟩) M.length M.length) (n := M.length) (xs := uC (onesB M.length)) (A := A') (m := 0) (c := c - M.length) (news := []); go_loud ((exact rfl; exact rfl; exact rfl; exact rfl; exact (fun h => ⟨rfl, (hNT h).2⟩); (focus (exact Nat.le_refl _)); (focus (repeat (first | (with_reducible assumption) | (with_reducible exact Own.nil _ _ _ _) | (with_reducible refine Own.app ?_) | (with_reducible refine Own.tick ?_) | (with_reducible refine Own.gx ?_) | (with_reducible refine Own.alloc ?_) | (with_reducible refine Own.drew ?_) | (with_reducible refine Own.row ?_ (by omega))))); exact (by repeat (first | (with_reducible exact Gx.refl _) | (with_reducible assumption) | (with_reducible refine Gx.gx ?_) | (with_reducible refine Gx.alloc ?_) | (with_reducible refine Gx.drew ?_) | (with_reducible refine Gx.drewN ?_) | (with_reducible refine Gx.setRow ?_ (by simp)) | (with_reducible refine Gx.setCell ?_ (by simp)))); (focus (first | omega | (simp <;> omega))); (focus (simp)); (focus (unfold Shows; intro h; simp at h)); (focus (intro u hu; cases hu)); (focus (simp only [maxLen]; omega)); (focus omega); rintro v' W2 hG2 hO2 hg2))))
  all_goals
    go_wp2
    go_ret3
    obtain ⟨A2, c2, hv2, h1, h2, h3, hSS⟩ := hO2.is
    subst hv2
    rw [HB.out] at hSS
    have hHH := held_shows (n := M.length) (B := clB M M.length) hCl hSS
    obtain ⟨x, hx⟩ := hG2
    refine ⟨A2, c2, x, ?_, hx, by rw [← hx]; exact hHH⟩
    first | rfl | (rw [Nat.add_zero]; rfl)
/-- What ClearSector leaves. -/
def csK (n : Nat) (p : Int) : Nat := if p = 0 then n / 2 else n
def csV (p : Int) : Int := if p = 0 then 0 else p - 1
set_option maxHeartbeats 600000 in
set_option maxRecDepth 100000 in
theorem RClear_ok (M : List Int) (A : Option Addr) (c : Nat) (p : Int) (p0 : 0 ≤ p) (p1 : p ≤ 1000000000) (hm : M.length ≤ 140737488355328) (hc : M.length ≤ c) (hN : A = none → c = 0) (w : World) (hH : HeldB M A M.length w) :
    Calls Tryz.prog 32 #[.slice A M.length c, .int .i64 p] w fun e w' => ∃ A' c' x, e = .returned (.tuple #[.slice A' M.length c', .int .i64 (csV p), .bool (!decide (p = 0)), .int .i64 0]) ∧ w' = gx w x ∧ HeldB (clB M (csK M.length p)) A' M.length (gx w x) := by
  have HC : Hid (Calls Tryz.prog 89 #[.slice A M.length c, .int .i64 p] w fun e w' => ∃ A' c' x, e = .returned (.tuple #[.slice A' M.length c', .int .i64 (csV p), .bool (!decide (p = 0))]) ∧ w' = gx w x ∧ HeldB (clB M (csK M.length p)) A' M.length (gx w x)) := Lib.hid (by
    by_cases h0 : p = 0
    · subst h0
      exact clear1_zero M A c hm hc hN w hH
    · have e1 : csV p = p - 1 := by unfold csV; rw [if_neg h0]
      have e2 : csK M.length p = M.length := by unfold csK; rw [if_neg h0]
      have e3 : (!decide (p = 0)) = true := by rw [decide_eq_false h0]; rfl
      rw [e1, e2, e3]
      exact clear1_pos M A c p (by omega) p1 hm hc hN w hH)
  clear hH
  go_enter Tryz.func32, Tryz.ntmps32
  go_wp2_with (first | (go_at_call 76; refine (outside_no _ _ _ p0 p1 _).mono ?_; rintro e w' ⟨rfl, rfl⟩) | (go_at_call 89; go_loud (refine HC.out.mono ?_; rintro e w' ⟨A', c', x, rfl, rfl, r1⟩)))
  ((try simp only [Exit.inBlock, Exit.then]); refine bodyPost_ret (results_tmp4 rfl _ _ _) rfl ?_)
  exact ⟨A', c', x, rfl, rfl, r1⟩
set_option maxHeartbeats 600000 in
set_option maxRecDepth 100000 in
theorem RClear_err (A : Option Addr) (n c : Nat) (p : Int) (h : p < 0 ∨ 1000000000 < p) (w : World) :
    Calls Tryz.prog 32 #[.slice A n c, .int .i64 p] w fun e w' => e = .returned (.tuple #[.slice A n c, .int .i64 0, .bool false, .int .i64 9]) ∧ ∃ x, w' = gx w x := by
  have H2 : Hid (∀ W : World, Calls Tryz.prog 76 #[.int .i64 p, .int .i64 0, .int .i64 1000000000] W fun e w' => e = .returned (.bool true) ∧ W = w') := Lib.hid (fun W => by
    refine (outside_any p 0 1000000000 W).mono ?_
    rintro e w' ⟨rfl, rfl⟩
    refine ⟨?_, rfl⟩
    rcases h with h2 | h2
    · rw [decide_eq_true h2]; rfl
    · rw [decide_eq_true h2]; simp)
  clear h
  go_enter Tryz.func32, Tryz.ntmps32
  go_wp2_with (go_at_call 76; refine (H2.out _).mono ?_; rintro e w' ⟨rfl, rfl⟩)
  ((try simp only [Exit.inBlock, Exit.then]); refine bodyPost_ret (results_tmp4 rfl _ _ _) rfl ?_)
  exact ⟨rfl, (by repeat (first | (with_reducible exact Gx.refl _) | (with_reducible assumption) | (with_reducible refine Gx.gx ?_) | (with_reducible refine Gx.alloc ?_) | (with_reducible refine Gx.drew ?_) | (with_reducible refine Gx.drewN ?_) | (with_reducible refine Gx.setRow ?_ (by simp)) | (with_reducible refine Gx.setCell ?_ (by simp))))⟩
set_option maxHeartbeats 600000 in
set_option maxRecDepth 100000 in
theorem Clear_err (A : Option Addr) (n c : Nat) (p : Int) (h : p < 0 ∨ 1000000000 < p) (w : World) :
    Calls Tryz.prog 31 #[.slice A n c, .int .i64 p] w fun e w' => e = .returned (.tuple #[.int .i64 0, .bool false, .int .i64 9]) ∧ ∃ x, w' = gx w x := by
  have H2 := Lib.hid h
  clear h
  go_enter Tryz.func31, Tryz.ntmps31
  go_wp2_with (go_at_call 84; refine (checkPower_bad _ H2.out _).mono ?_; rintro e w' ⟨rfl, rfl⟩)
  go_ret3
  exact ⟨rfl, (by repeat (first | (with_reducible exact Gx.refl _) | (with_reducible assumption) | (with_reducible refine Gx.gx ?_) | (with_reducible refine Gx.alloc ?_) | (with_reducible refine Gx.drew ?_) | (with_reducible refine Gx.drewN ?_) | (with_reducible refine Gx.setRow ?_ (by simp)) | (with_reducible refine Gx.setCell ?_ (by simp))))⟩
set_option maxHeartbeats 600000 in
set_option maxRecDepth 100000 in
theorem Clear_ok (C : List Int) (g o n c : Nat) (p : Int) (p0 : 0 ≤ p) (p1 : p ≤ 1000000000) (hC : o + n ≤ C.length) (hnc : n ≤ c) (hc0 : 0 < c) (hcm : c ≤ 9223372036854775807) (w : World) (hA : At w g (.cells (bc C) 5 (0, 0))) :
    Calls Tryz.prog 31 #[.slice (some ⟨g, o, none⟩) n c, .int .i64 p] w fun e w' => e = .returned (.tuple #[.int .i64 (csV p), .bool (!decide (p = 0)), .int .i64 0]) ∧ ∃ x, w' = gx (w.setRow g (bc (fillTo C o (csK n p)))) x := by
  have HE : Hid (Calls Tryz.prog 88 #[.slice (some ⟨g, o, none⟩) n c, .int .i64 p] w fun e w' => e = .returned (.tuple #[.int .i64 (csV p), .bool (!decide (p = 0))]) ∧ ∃ x, w' = gx (w.setRow g (bc (fillTo C o (csK n p)))) x) := Lib.hid (by
    by_cases h0 : p = 0
    · subst h0
      exact erase_torn C g o n c (n / 2) rfl hC hnc hc0 hcm w hA
    · have e1 : csV p = p - 1 := by unfold csV; rw [if_neg h0]
      have e2 : csK n p = n := by unfold csK; rw [if_neg h0]
      have e3 : (!decide (p = 0)) = true := by rw [decide_eq_false h0]; rfl
      rw [e1, e2, e3]
      exact erase_full C g o n c hC (by omega) p (by omega) (by omega) w hA)
  go_enter Tryz.func31, Tryz.ntmps31
  go_wp2_with (first | (go_at_call 84; refine (checkPower_good _ p0 p1 _).mono ?_; rintro e w' ⟨rfl, rfl⟩) | (go_at_call 88; go_loud (refine HE.out.mono ?_; rintro e w' ⟨rfl, z, rfl⟩)))
  go_ret3
  exact ⟨rfl, _, rfl⟩
end Go.Proofs.YthkccbeffonaaaaGreatDoor

/-
  RingPutMatchesSpec: the walk.
-/
namespace Go.Proofs.YthkccbeffonaaaaGreatDoor
open Go.RowKit
-- AT2

theorem gw_wrT' (C D : List Int) (q k : Nat) (h : q + k < C.length) (x : Nat) : gw (wrT C D q k) x = if x = q + k then tornB (gw C (q + k)) (gw D k) else gw (wrB C D q k) x := by
  rw [← wrT_is, gw_set _ _ _ _ (by rw [wrB_len]; exact h)]
/-- What PutBytes leaves as it was. -/
theorem pbC_out {C D : List Int} (q : Nat) (p : Int) (hp : 0 ≤ p) (h : q + D.length ≤ C.length) (j : Nat) (hj : j < q ∨ q + D.length ≤ j) : gw (pbC C D q p) j = gw C j := by
  unfold pbC
  by_cases hl : (D.length : Int) ≤ p
  · rw [if_pos hl, gw_wrB _ _ _ _ h, if_neg (by omega)]
  · rw [if_neg hl, gw_wrT' _ _ _ _ (by omega), if_neg (by omega), gw_wrB _ _ _ _ (by omega), if_neg (by omega)]
/-- .. the same in a longer row. -/
theorem pbC_shift {C M D : List Int} {o n : Nat} (hv : ∀ j, j < n → gw C (o + j) = gw M j) (q : Nat) (p : Int) (hp : 0 ≤ p) (hq : q + D.length ≤ n) (hC : o + n ≤ C.length) (hM : n = M.length) (j : Nat) (hj : j < n) : gw (pbC C D (o + q) p) (o + j) = gw (pbC M D q p) j := by
  unfold pbC
  by_cases hl : (D.length : Int) ≤ p
  · rw [if_pos hl, if_pos hl, gw_wrB _ _ _ _ (by omega), gw_wrB _ _ _ _ (by omega), hv j hj]
    by_cases h : q ≤ j ∧ j < q + D.length
    · rw [if_pos h, if_pos (by omega), show o + j - (o + q) = j - q by omega]
    · rw [if_neg h, if_neg (by omega)]
  · rw [if_neg hl, if_neg hl, gw_wrT' _ _ _ _ (by omega), gw_wrT' _ _ _ _ (by omega)]
    have e : o + q + p.toNat = o + (q + p.toNat) := by omega
    by_cases h0 : j = q + p.toNat
    · rw [if_pos h0, if_pos (by omega), e, hv _ (by omega)]
    · rw [if_neg h0, if_neg (by omega), gw_wrB _ _ _ _ (by omega), gw_wrB _ _ _ _ (by omega), hv j hj]
      by_cases h : q ≤ j ∧ j < q + p.toNat
      · rw [if_pos h, if_pos (by omega), show o + j - (o + q) = j - q by omega]
      · rw [if_neg h, if_neg (by omega)]
theorem fillR_mid {M C : List Int} (hlen : 3 + M.length + 5 ≤ C.length) (hmid : ∀ j, j < M.length → gw C (3 + j) = gw M j) (k : Nat) (hk : k ≤ M.length) (j : Nat) (hj : j < M.length) : gw (fillTo C 3 k) (3 + j) = gw (clB M k) j := by
  rw [gw_fillTo _ _ _ (by omega), gw_clB]
  by_cases h : j < k
  · rw [if_pos h, if_pos (by omega)]
  · rw [if_neg h, if_neg (by omega)]
    exact hmid j hj
theorem held_none {B : List Int} {n : Nat} {W : World} (h : HeldB B none n W) : n = 0 := by
  rcases Nat.eq_zero_or_pos n with e | e
  · exact e
  · unfold HeldB at h
    obtain ⟨b, o, e', -⟩ := h e
    cases e'
/-- A row as inside leaves it, its middle perhaps another. -/
structure AR (M C : List Int) : Prop where
  max : C.length ≤ maxLen
  len : 3 + M.length + 5 ≤ C.length
  pre : ∀ j, j < 3 → gw C j = gw [1, 2, 3] j
  mid : ∀ j, j < M.length → gw C (3 + j) = gw M j
  post : ∀ j, j < 5 → gw C (3 + M.length + j) = gw [9, 8, 7, 6, 5] j
theorem AroundR.ar {M C : List Int} (h : AroundR M C) : AR M C := ⟨h.max, h.len, h.pre, h.mid, h.post⟩
set_option maxHeartbeats 2000000 in
set_option maxRecDepth 100000 in
theorem putCore (M D M' K' : List Int) (hM : Bs M) (hM' : M'.length = M.length) (hK' : K'.length = M.length) (A A2 : Option Addr) (c c2 : Nat) (at_ p v u E F : Int) (b d : Bool) (w : World) (hT : Tab w) (HH : Hid (HeldB M A M.length w)) (hm0 : 8 + M.length ≤ 140737488355328)
    (HPB : Hid (∀ (g : Nat) (C : List Int) (W : World), AR M C → (∃ x, W = gx w x) → w.heap.size ≤ g → At W g (.cells (bc C) 5 (0, 0)) → Calls Tryz.prog 27 #[.slice (some ⟨g, 3, none⟩) M.length (C.length - 3), .int .i64 at_, .slice A2 D.length c2, .int .i64 p] W fun e w' => e = .returned (.tuple #[.int .i64 v, .bool b, .int .i64 E]) ∧ ∃ C', AR M' C' ∧ C'.length = C.length ∧ At w' g (.cells (bc C') 5 (0, 0)) ∧ ∃ x, w' = gx w x))
    (HRP : Hid (∀ (W : World), (∃ x, W = gx w x) → Calls Tryz.prog 28 #[.slice A M.length c, .int .i64 at_, .slice A2 D.length c2, .int .i64 p] W fun e w' => ∃ A' c', e = .returned (.tuple #[.slice A' M.length c', .int .i64 v, .bool b, .int .i64 E]) ∧ HeldB M' A' M.length w' ∧ (A' = none → M.length = 0) ∧ ∃ x, w' = gx W x))
    (HCS : Hid (∀ (g : Nat) (C : List Int) (W : World), AR M C → (∃ x, W = gx w x) → w.heap.size ≤ g → At W g (.cells (bc C) 5 (0, 0)) → Calls Tryz.prog 31 #[.slice (some ⟨g, 3, none⟩) M.length (C.length - 3), .int .i64 p] W fun e w' => e = .returned (.tuple #[.int .i64 u, .bool d, .int .i64 F]) ∧ ∃ C', AR K' C' ∧ C'.length = C.length ∧ At w' g (.cells (bc C') 5 (0, 0)) ∧ ∃ x, w' = gx w x))
    (HRC : Hid (∀ (W : World), (∃ x, W = gx w x) → Calls Tryz.prog 32 #[.slice A M.length c, .int .i64 p] W fun e w' => ∃ A' c', e = .returned (.tuple #[.slice A' M.length c', .int .i64 u, .bool d, .int .i64 F]) ∧ HeldB K' A' M.length w' ∧ (A' = none → M.length = 0) ∧ ∃ x, w' = gx W x)) :
    Calls Tryz.prog 5 #[.slice A M.length c, .int .i64 at_, .slice A2 D.length c2, .int .i64 p] w fun e w' => e = .returned (.bool true) ∧ ∃ x, w' = gx w x := by
  have hv : (v == v) = true := by simp
  have hu : (u == u) = true := by simp
  have hE : (E == E) = true := by simp
  have hF : (F == F) = true := by simp
  have hb : (b == b) = true := by simp
  have hd : (d == d) = true := by simp
  go_enter Tryz.func5, Tryz.ntmps5
  go_upto_region 6 with (first | (go_at_call 26; go_loud (refine (insideR_any M hM A c _ HH.out (by omega)).mono ?_; rintro e W1 ⟨g1, C1, x1, rfl, hW1, hg1, hA1, hR1⟩; rw [← hW1] at hA1; have hG1 : ∃ x, W1 = gx w x := (hW1 ▸ (by repeat (first | (with_reducible exact Gx.refl _) | (with_reducible assumption) | (with_reducible refine Gx.gx ?_) | (with_reducible refine Gx.alloc ?_) | (with_reducible refine Gx.drew ?_) | (with_reducible refine Gx.drewN ?_) | (with_reducible refine Gx.setRow ?_ (by simp)) | (with_reducible refine Gx.setCell ?_ (by simp))))); have hlen1 := hR1.len; have HR1 := Lib.hid hR1; clear hW1 hR1)) | (go_at_call 27; go_loud (refine (HPB.out g1 C1 _ HR1.out.ar hG1 hg1 hA1).mono ?_; rintro e W2 ⟨rfl, C2, hR2, hl2, hA2, hG2⟩; have HR2 := Lib.hid hR2; clear hR2)) | (go_at_call 28; go_loud (refine (HRP.out _ hG2).mono ?_; rintro e W3 ⟨A3, c3, rfl, hH3, hN3, x3, hW3⟩; have hA4 : At W3 g1 (.cells (bc C2) 5 (0, 0)) := (by rw [hW3]; exact hA2.gx); have hG3 : ∃ x, W3 = gx w x := (hW3 ▸ Gx.gx hG2); have HH3 := Lib.hid hH3; have HN3 := Lib.hid hN3; clear hH3 hN3 hW3)) | (go_at_call 29; go_loud (refine (EqualB_same M' M.length _ _ _ _ _ (HeldB.part (C := C2) (o := 3) hA4 (by have := HR2.out.len; omega) (fun j hj => HR2.out.mid j (by omega))) (fun h => by cases h) HH3.out HN3.out).mono ?_; rintro e w' ⟨rfl, rfl⟩)) | (go_at_call 30; go_loud (have har := aroundR_any M.length g1 C2 HR2.out.max (by have := HR2.out.len; omega) HR2.out.pre (by have h := HR2.out.post; rw [hM'] at h; exact h) _ hA4; rw [hl2] at har; refine har.mono ?_; clear har; rintro e W5 ⟨rfl, x5, hW5⟩; have hG5 : ∃ x, W5 = gx w x := (hW5 ▸ Gx.gx hG3); clear hW5)))
  have hs5 := size_of_gx hG5
  go_wp2_with (first | (go_at_call 26; go_loud (refine (insideR_any M hM A c _ (HeldB.of_gx HH.out hG5) (by omega)).mono ?_; rintro e W6 ⟨g6, C6, x6, rfl, hW6, hg6, hA6, hR6⟩; rw [← hW6] at hA6; have hG6 : ∃ x, W6 = gx w x := (hW6 ▸ (by repeat (first | (with_reducible exact Gx.refl _) | (with_reducible assumption) | (with_reducible refine Gx.gx ?_) | (with_reducible refine Gx.alloc ?_) | (with_reducible refine Gx.drew ?_) | (with_reducible refine Gx.drewN ?_) | (with_reducible refine Gx.setRow ?_ (by simp)) | (with_reducible refine Gx.setCell ?_ (by simp))))); have hlen6 := hR6.len; have HR6 := Lib.hid hR6; clear hW6 hR6)) | (go_at_call 31; go_loud (refine (HCS.out g6 C6 _ HR6.out.ar hG6 (by omega) hA6).mono ?_; rintro e W7 ⟨rfl, C7, hR7, hl7, hA7, hG7⟩; have HR7 := Lib.hid hR7; clear hR7)) | (go_at_call 32; go_loud (refine (HRC.out _ hG7).mono ?_; rintro e W8 ⟨A8, c8, rfl, hH8, hN8, x8, hW8⟩; have hA8 : At W8 g6 (.cells (bc C7) 5 (0, 0)) := (by rw [hW8]; exact hA7.gx); have hG8 : ∃ x, W8 = gx w x := (hW8 ▸ Gx.gx hG7); have HH8 := Lib.hid hH8; have HN8 := Lib.hid hN8; clear hH8 hN8 hW8)) | (go_at_call 29; go_loud (refine (EqualB_same K' M.length _ _ _ _ _ (HeldB.part (C := C7) (o := 3) hA8 (by have := HR7.out.len; omega) (fun j hj => HR7.out.mid j (by omega))) (fun h => by cases h) HH8.out HN8.out).mono ?_; rintro e w' ⟨rfl, rfl⟩)) | (go_at_call 30; go_loud (have har := aroundR_any M.length g6 C7 HR7.out.max (by have := HR7.out.len; omega) HR7.out.pre (by have h := HR7.out.post; rw [hK'] at h; exact h) _ hA8; rw [hl7] at har; refine har.mono ?_; clear har; rintro e W9 ⟨rfl, x9, hW9⟩; have hG9 : ∃ x, W9 = gx w x := (hW9 ▸ Gx.gx hG8); clear hW9)) | (go_at_call 18; go_loud (refine (keptGuard _ (Tab.of_gx' hT hG9)).mono ?_; rintro e w' ⟨rfl, z4, rfl⟩)))
  go_ret
  exact ⟨rfl, (by repeat (first | (with_reducible exact Gx.refl _) | (with_reducible assumption) | (with_reducible refine Gx.gx ?_) | (with_reducible refine Gx.alloc ?_) | (with_reducible refine Gx.drew ?_) | (with_reducible refine Gx.drewN ?_) | (with_reducible refine Gx.setRow ?_ (by simp)) | (with_reducible refine Gx.setCell ?_ (by simp))))⟩
theorem gPut_ok (M : List Int) (D : List Int) (hD : Bs D) (A2 : Option Addr) (c2 : Nat) (at_ : Int) (p : Int) (w : World) (hm0 : 8 + M.length ≤ 140737488355328) (hH2 : HeldB D A2 D.length w) (hN2 : A2 = none → c2 = 0) (hE : pbE at_ p M.length D.length = 0) : (∀ (g : Nat) (C : List Int) (W : World), AR M C → (∃ x, W = gx w x) → w.heap.size ≤ g → At W g (.cells (bc C) 5 (0, 0)) → Calls Tryz.prog 27 #[.slice (some ⟨g, 3, none⟩) M.length (C.length - 3), .int .i64 at_, .slice A2 D.length c2, .int .i64 p] W fun e w' => e = .returned (.tuple #[.int .i64 (pbV D p), .bool (decide ((D.length : Int) ≤ p)), .int .i64 0]) ∧ ∃ C', AR (pbC M D at_.toNat p) C' ∧ C'.length = C.length ∧ At w' g (.cells (bc C') 5 (0, 0)) ∧ ∃ x, w' = gx w x) := by
  obtain ⟨a0, p0, p1, hl⟩ := pbE_ok hE
  intro g C W hR hW hg hA
  have hlen := hR.len
  refine (PutBytes_ok C D hD g 3 M.length (C.length - 3) A2 c2 at_ p hE (by omega) (by omega) (by omega) _ hA (HeldB.of_gx hH2 hW) hN2).mono ?_
  rintro e w' ⟨rfl, x, rfl⟩
  refine ⟨rfl, pbC C D (3 + at_.toNat) p, ⟨?_, ?_, ?_, ?_, ?_⟩, pbC_len _ _ _ _, At.gx (At.row ⟨_, hA⟩), Gx.gx (Gx.setRow hW hg)⟩
  · rw [pbC_len]; exact hR.max
  · rw [pbC_len, pbC_len]; exact hR.len
  · intro j hj
    rw [pbC_out _ _ p0 (by omega) _ (by omega)]
    exact hR.pre j hj
  · intro j hj
    rw [pbC_len] at hj
    exact pbC_shift (o := 3) hR.mid at_.toNat p p0 (by omega) (by omega) rfl j hj
  · intro j hj
    rw [pbC_len, pbC_out _ _ p0 (by omega) _ (by omega)]
    exact hR.post j hj
theorem gPut_err (M : List Int) (D : List Int) (A2 : Option Addr) (c2 : Nat) (at_ : Int) (p : Int) (hat : at_ ≤ 9223372036854775807) (w : World) (hm0 : 8 + M.length ≤ 140737488355328) (hm2 : D.length ≤ 140737488355328) (hE : pbE at_ p M.length D.length ≠ 0) : (∀ (g : Nat) (C : List Int) (W : World), AR M C → (∃ x, W = gx w x) → w.heap.size ≤ g → At W g (.cells (bc C) 5 (0, 0)) → Calls Tryz.prog 27 #[.slice (some ⟨g, 3, none⟩) M.length (C.length - 3), .int .i64 at_, .slice A2 D.length c2, .int .i64 p] W fun e w' => e = .returned (.tuple #[.int .i64 0, .bool false, .int .i64 (pbE at_ p M.length D.length)]) ∧ ∃ C', AR M C' ∧ C'.length = C.length ∧ At w' g (.cells (bc C') 5 (0, 0)) ∧ ∃ x, w' = gx w x) := by
  intro g C W hR hW hg hA
  refine (PutBytes_err at_ p (some ⟨g, 3, none⟩) A2 M.length (C.length - 3) D.length c2 (by omega) hm2 hat hE W).mono ?_
  rintro e w' ⟨rfl, x, rfl⟩
  exact ⟨rfl, C, hR, rfl, At.gx hA, Gx.gx hW⟩
theorem rPut_ok (M : List Int) (D : List Int) (hM : Bs M) (A : Option Addr) (A2 : Option Addr) (c : Nat) (c2 : Nat) (at_ : Int) (p : Int) (w : World) (hH : HeldB M A M.length w) (hm0 : 8 + M.length ≤ 140737488355328) (hH2 : HeldB D A2 D.length w) (hE : pbE at_ p M.length D.length = 0) : (∀ (W : World), (∃ x, W = gx w x) → Calls Tryz.prog 28 #[.slice A M.length c, .int .i64 at_, .slice A2 D.length c2, .int .i64 p] W fun e w' => ∃ A' c', e = .returned (.tuple #[.slice A' M.length c', .int .i64 (pbV D p), .bool (decide ((D.length : Int) ≤ p)), .int .i64 0]) ∧ HeldB (pbC M D at_.toNat p) A' M.length w' ∧ (A' = none → M.length = 0) ∧ ∃ x, w' = gx W x) := by
  obtain ⟨a0, p0, p1, hl⟩ := pbE_ok hE
  intro W hW
  refine (RPutBytes_ok M D hM A A2 c c2 at_ p hE (by omega) W (HeldB.of_gx hH hW) (HeldB.of_gx hH2 hW)).mono ?_
  rintro e w' ⟨g3, C3, x3, rfl, rfl, hg3, hA3, hl3, hb3, hv3⟩
  have hql : at_.toNat + D.length ≤ M.length := by omega
  refine ⟨_, _, rfl, ?_, (fun h => by cases h), _, rfl⟩
  refine HeldB.part (C := pbC C3 D at_.toNat p) (o := 0) hA3 (by rw [pbC_len]; omega) (fun j hj => ?_)
  have h := pbC_shift (C := C3) (M := M) (o := 0) (fun j hj => by rw [Nat.zero_add]; exact hv3 j hj) at_.toNat p p0 hql (by omega) rfl j hj
  rw [Nat.zero_add] at h
  exact h
theorem rPut_err (M : List Int) (D : List Int) (A : Option Addr) (A2 : Option Addr) (c : Nat) (c2 : Nat) (at_ : Int) (p : Int) (hat : at_ ≤ 9223372036854775807) (w : World) (hH : HeldB M A M.length w) (hc : M.length ≤ c) (hN : A = none → c = 0) (hm0 : 8 + M.length ≤ 140737488355328) (hm2 : D.length ≤ 140737488355328) (hE : pbE at_ p M.length D.length ≠ 0) : (∀ (W : World), (∃ x, W = gx w x) → Calls Tryz.prog 28 #[.slice A M.length c, .int .i64 at_, .slice A2 D.length c2, .int .i64 p] W fun e w' => ∃ A' c', e = .returned (.tuple #[.slice A' M.length c', .int .i64 0, .bool false, .int .i64 (pbE at_ p M.length D.length)]) ∧ HeldB M A' M.length w' ∧ (A' = none → M.length = 0) ∧ ∃ x, w' = gx W x) := by
  intro W hW
  refine (RPutBytes_err at_ p A A2 M.length c D.length c2 (by omega) hm2 hat hE W).mono ?_
  rintro e w' ⟨rfl, x, rfl⟩
  exact ⟨_, _, rfl, HeldB.of_gx (HeldB.of_gx hH hW) ⟨_, rfl⟩, (fun h => by have := hN h; omega), _, rfl⟩
theorem gClr_ok (M : List Int) (p : Int) (w : World) (p0 : 0 ≤ p) (p1 : p ≤ 1000000000) : (∀ (g : Nat) (C : List Int) (W : World), AR M C → (∃ x, W = gx w x) → w.heap.size ≤ g → At W g (.cells (bc C) 5 (0, 0)) → Calls Tryz.prog 31 #[.slice (some ⟨g, 3, none⟩) M.length (C.length - 3), .int .i64 p] W fun e w' => e = .returned (.tuple #[.int .i64 (csV p), .bool (!decide (p = 0)), .int .i64 0]) ∧ ∃ C', AR (clB M (csK M.length p)) C' ∧ C'.length = C.length ∧ At w' g (.cells (bc C') 5 (0, 0)) ∧ ∃ x, w' = gx w x) := by
  have hck : csK M.length p ≤ M.length := by unfold csK; split <;> omega
  have hCl := clB_len (M := M) hck
  intro g C W hR hW hg hA
  have hlen := hR.len
  refine (Clear_ok C g 3 M.length (C.length - 3) p p0 p1 (by omega) (by omega) (by omega) (by have := hR.max; simp only [maxLen] at this; omega) _ hA).mono ?_
  rintro e w' ⟨rfl, x, rfl⟩
  refine ⟨rfl, fillTo C 3 (csK M.length p), ⟨?_, ?_, ?_, ?_, ?_⟩, fillTo_len _ _ _, At.gx (At.row ⟨_, hA⟩), Gx.gx (Gx.setRow hW hg)⟩
  · rw [fillTo_len]; exact hR.max
  · rw [fillTo_len, hCl]; exact hR.len
  · intro j hj
    rw [gw_fillTo _ _ _ (by omega), if_neg (by omega)]
    exact hR.pre j hj
  · intro j hj
    rw [hCl] at hj
    exact fillR_mid hR.len hR.mid _ hck j hj
  · intro j hj
    rw [hCl, gw_fillTo _ _ _ (by omega), if_neg (by omega)]
    exact hR.post j hj
theorem gClr_err (M : List Int) (p : Int) (w : World) (hpb : p < 0 ∨ 1000000000 < p) : (∀ (g : Nat) (C : List Int) (W : World), AR M C → (∃ x, W = gx w x) → w.heap.size ≤ g → At W g (.cells (bc C) 5 (0, 0)) → Calls Tryz.prog 31 #[.slice (some ⟨g, 3, none⟩) M.length (C.length - 3), .int .i64 p] W fun e w' => e = .returned (.tuple #[.int .i64 0, .bool false, .int .i64 9]) ∧ ∃ C', AR M C' ∧ C'.length = C.length ∧ At w' g (.cells (bc C') 5 (0, 0)) ∧ ∃ x, w' = gx w x) := by
  intro g C W hR hW hg hA
  refine (Clear_err (some ⟨g, 3, none⟩) M.length (C.length - 3) p hpb W).mono ?_
  rintro e w' ⟨rfl, x, rfl⟩
  exact ⟨rfl, C, hR, rfl, At.gx hA, Gx.gx hW⟩
theorem rClr_ok (M : List Int) (A : Option Addr) (c : Nat) (p : Int) (w : World) (hH : HeldB M A M.length w) (hc : M.length ≤ c) (hN : A = none → c = 0) (hm0 : 8 + M.length ≤ 140737488355328) (p0 : 0 ≤ p) (p1 : p ≤ 1000000000) : (∀ (W : World), (∃ x, W = gx w x) → Calls Tryz.prog 32 #[.slice A M.length c, .int .i64 p] W fun e w' => ∃ A' c', e = .returned (.tuple #[.slice A' M.length c', .int .i64 (csV p), .bool (!decide (p = 0)), .int .i64 0]) ∧ HeldB (clB M (csK M.length p)) A' M.length w' ∧ (A' = none → M.length = 0) ∧ ∃ x, w' = gx W x) := by
  intro W hW
  refine (RClear_ok M A c p p0 p1 (by omega) hc hN W (HeldB.of_gx hH hW)).mono ?_
  rintro e w' ⟨A8, c8, x8, rfl, rfl, hH8⟩
  exact ⟨_, _, rfl, hH8, (fun h => by subst h; exact held_none hH8), _, rfl⟩
theorem rClr_err (M : List Int) (A : Option Addr) (c : Nat) (p : Int) (w : World) (hH : HeldB M A M.length w) (hc : M.length ≤ c) (hN : A = none → c = 0) (hpb : p < 0 ∨ 1000000000 < p) : (∀ (W : World), (∃ x, W = gx w x) → Calls Tryz.prog 32 #[.slice A M.length c, .int .i64 p] W fun e w' => ∃ A' c', e = .returned (.tuple #[.slice A' M.length c', .int .i64 0, .bool false, .int .i64 9]) ∧ HeldB M A' M.length w' ∧ (A' = none → M.length = 0) ∧ ∃ x, w' = gx W x) := by
  intro W hW
  refine (RClear_err A M.length c p hpb W).mono ?_
  rintro e w' ⟨rfl, x, rfl⟩
  exact ⟨_, _, rfl, HeldB.of_gx (HeldB.of_gx hH hW) ⟨_, rfl⟩, (fun h => by have := hN h; omega), _, rfl⟩
theorem putLaw (M D : List Int) (hM : Bs M) (hD : Bs D) (A A2 : Option Addr) (c c2 : Nat) (at_ p : Int) (hat : at_ ≤ 9223372036854775807) (w : World) (hT : Tab w) (hH : HeldB M A M.length w) (hc : M.length ≤ c) (hN : A = none → c = 0) (hm0 : 8 + M.length ≤ 140737488355328) (hH2 : HeldB D A2 D.length w) (hN2 : A2 = none → c2 = 0) (hm2 : D.length ≤ 140737488355328) :
    Calls Tryz.prog 5 #[.slice A M.length c, .int .i64 at_, .slice A2 D.length c2, .int .i64 p] w fun e w' => e = .returned (.bool true) ∧ ∃ x, w' = gx w x := by
  have hck : csK M.length p ≤ M.length := by unfold csK; split <;> omega
  have hCl := clB_len (M := M) hck
  by_cases hE : pbE at_ p M.length D.length = 0
  · obtain ⟨a0, p0, p1, hl⟩ := pbE_ok hE
    exact putCore M D _ _ hM (pbC_len _ _ _ _) hCl A A2 c c2 at_ p _ _ _ _ _ _ w hT (Lib.hid hH) hm0 (Lib.hid (gPut_ok M D hD A2 c2 at_ p w hm0 hH2 hN2 hE)) (Lib.hid (rPut_ok M D hM A A2 c c2 at_ p w hH hm0 hH2 hE)) (Lib.hid (gClr_ok M p w p0 p1)) (Lib.hid (rClr_ok M A c p w hH hc hN hm0 p0 p1))
  · by_cases hp : 0 ≤ p ∧ p ≤ 1000000000
    · exact putCore M D M _ hM rfl hCl A A2 c c2 at_ p _ _ _ _ _ _ w hT (Lib.hid hH) hm0 (Lib.hid (gPut_err M D A2 c2 at_ p hat w hm0 hm2 hE)) (Lib.hid (rPut_err M D A A2 c c2 at_ p hat w hH hc hN hm0 hm2 hE)) (Lib.hid (gClr_ok M p w hp.1 hp.2)) (Lib.hid (rClr_ok M A c p w hH hc hN hm0 hp.1 hp.2))
    · have hpb : p < 0 ∨ 1000000000 < p := by omega
      exact putCore M D M M hM rfl rfl A A2 c c2 at_ p _ _ _ _ _ _ w hT (Lib.hid hH) hm0 (Lib.hid (gPut_err M D A2 c2 at_ p hat w hm0 hm2 hE)) (Lib.hid (rPut_err M D A A2 c c2 at_ p hat w hH hc hN hm0 hm2 hE)) (Lib.hid (gClr_err M p w hpb)) (Lib.hid (rClr_err M A c p w hH hc hN hpb))
end Go.Proofs.YthkccbeffonaaaaGreatDoor
