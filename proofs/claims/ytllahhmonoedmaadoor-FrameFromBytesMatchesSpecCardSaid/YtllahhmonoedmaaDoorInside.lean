/-
  The laws' own helpers: a slice inside a longer one, and whether the bytes around it are kept.
-/
import Derived.Test.YtllahhmonoedmaaDoorOwn
namespace Go.Proofs.YtllahhmonoedmaaDoor
open Go.RowKit
-- AT2

@[go_sem high] theorem fold_pre : (#[Value.int .u8 1, Value.int .u8 2, Value.int .u8 3, Value.int .u8 4, Value.int .u8 5] : Array Value) = bc [1, 2, 3, 4, 5] := rfl
@[go_sem high] theorem fold_post : (#[Value.int .u8 9, Value.int .u8 8, Value.int .u8 7, Value.int .u8 6, Value.int .u8 5, Value.int .u8 4, Value.int .u8 3] : Array Value) = bc [9, 8, 7, 6, 5, 4, 3] := rfl
theorem lit_bs (l : List Int) (h : ∀ x ∈ l, 0 ≤ x ∧ x ≤ 255) : Bs l := fun k => by
  unfold gw
  rcases Nat.lt_or_ge k l.length with hk | hk
  · have := h l[k] (List.getElem_mem hk)
    simpa [List.getD, List.getElem?_eq_getElem hk] using this
  · simp [List.getD, List.getElem?_eq_none hk]
theorem pre_bs : Bs [1, 2, 3, 4, 5] := lit_bs _ (by decide)
theorem post_bs : Bs [9, 8, 7, 6, 5, 4, 3] := lit_bs _ (by decide)
theorem sizeByte (w : World) : (Go.sizeOf 5).run Tryd.prog w = .ok 1 w := by
  obtain ⟨i, h1, h2, _⟩ := infoByte0
  simp [sizeOf, typeInfo, h1, h2]
theorem slice_part (g o n cap l h : Nat) (hlh : l ≤ h) (hh : h ≤ cap) (hl : l < cap) (W : World) :
    (Instr.slice 61 (.slice (some ⟨g, o, none⟩) n cap) (some (.int .i64 (l : Int))) (some (.int .i64 (h : Int))) none).run Tryd.prog W = .ok (.slice (some ⟨g, o + l, none⟩) (h - l) (cap - l)) W := by
  have ht' : Tryd.prog.underlying 61 = some (.slice (Tryd.prog.elem 61)) := by simp [Program.elem, Tryd.underlying61]
  have he : Tryd.prog.elem 61 = 5 := by simp [Program.elem, Tryd.underlying61]
  rw [run_slice_lh W 61 _ _ _ ht' .i64 .i64 _ _ (by omega) (by omega) (by omega), he, sizeByte]
  have hne : ¬ cap = l := by omega
  by_cases h0 : l = 0
  · subst h0; simp [Result.andThen, sliced, Addr.add, hne]
  · simp [Result.andThen, sliced, Addr.add, hne, h0]

/-- A slice inside a longer one: five bytes ahead of it, seven behind it. -/
structure Around (M C : List Int) : Prop where
  bs : Bs C
  max : C.length ≤ maxLen
  len : 5 + M.length + 7 ≤ C.length
  pre : ∀ j, j < 5 → gw C j = gw [1, 2, 3, 4, 5] j
  mid : ∀ j, j < M.length → gw C (5 + j) = gw M j
  post : ∀ j, j < 7 → gw C (5 + M.length + j) = gw [9, 8, 7, 6, 5, 4, 3] j

set_option maxHeartbeats 1000000 in
set_option maxRecDepth 100000 in
theorem inside_any (M : List Int) (hM : Bs M) (A : Option Addr) (c : Nat) (w : World) (hH : HeldB M A M.length w) (hm : 12 + M.length ≤ 140737488355328) :
    Calls Tryd.prog 61 #[.slice A M.length c] w fun e w' => ∃ g C x, e = .returned (.tuple #[.slice (some ⟨g, 0, none⟩) (5 + M.length + 7) C.length, .slice (some ⟨g, 5, none⟩) M.length (C.length - 5)]) ∧
      w' = gx w x ∧ w.heap.size ≤ g ∧ At (gx w x) g (.cells (bc C) 5 (0, 0)) ∧ Around M C := by
  have Hm := Lib.hid hm
  clear hm
  go_enter Tryd.func61, Tryd.ntmps61
  go_wp2_with (first | (refine append_own w [1, 2, 3, 4, 5] M _ 5 A c rfl _ _ rfl rfl rfl rfl ?_ ?_ ?_ (by decide) (by decide) pre_bs hM ?_ (by have := Hm.out; omega) ?_; (focus (repeat (first | (with_reducible assumption) | (with_reducible exact At.new _ _) | (with_reducible refine At.row ?_) | (with_reducible refine At.app ?_) | (with_reducible refine At.tick ?_) | (with_reducible refine At.gx ?_) | ((with_reducible refine At.new' ?_); focus (simp; done)) | (with_reducible refine At.alloc ?_) | (with_reducible refine At.drew ?_) | (with_reducible exact Is.new _ _ _) | (with_reducible refine Is.row ?_) | (with_reducible refine Is.gx ?_) | ((with_reducible refine Is.new' ?_); focus (simp; done)) | (with_reducible refine Is.alloc ?_) | (with_reducible refine Is.drew ?_)))); exact (by repeat (first | (with_reducible exact Gx.refl _) | (with_reducible assumption) | (with_reducible refine Gx.gx ?_) | (with_reducible refine Gx.alloc ?_) | (with_reducible refine Gx.drew ?_) | (with_reducible refine Gx.drewN ?_) | (with_reducible refine Gx.setRow ?_ (by simp)) | (with_reducible refine Gx.setCell ?_ (by simp)))); (focus (simp)); (focus (repeat (first | (with_reducible assumption) | (with_reducible refine HeldB.gx ?_) | (with_reducible refine HeldB.alloc ?_) | (with_reducible refine HeldB.drew ?_)))); rintro g1 C1 W1 ⟨x1, rfl⟩ hg1 hA1 hl1 hm1 hb1 hp1 hq1) | (refine append_own w C1 [9, 8, 7, 6, 5, 4, 3] g1 (5 + M.length) (some ⟨w.heap.size + x1.n, 0, none⟩) 7 rfl _ _ rfl rfl rfl rfl ?_ ?_ hg1 hl1 hm1 hb1 post_bs (HeldB.of_at (B := [9, 8, 7, 6, 5, 4, 3]) ?_ (by decide)) (by have := Hm.out; show _ + 7 ≤ _; omega) ?_; (focus (repeat (first | (with_reducible assumption) | (with_reducible exact At.new _ _) | (with_reducible refine At.row ?_) | (with_reducible refine At.app ?_) | (with_reducible refine At.tick ?_) | (with_reducible refine At.gx ?_) | ((with_reducible refine At.new' ?_); focus (simp; done)) | (with_reducible refine At.alloc ?_) | (with_reducible refine At.drew ?_) | (with_reducible exact Is.new _ _ _) | (with_reducible refine Is.row ?_) | (with_reducible refine Is.gx ?_) | ((with_reducible refine Is.new' ?_); focus (simp; done)) | (with_reducible refine Is.alloc ?_) | (with_reducible refine Is.drew ?_)))); exact (by repeat (first | (with_reducible exact Gx.refl _) | (with_reducible assumption) | (with_reducible refine Gx.gx ?_) | (with_reducible refine Gx.alloc ?_) | (with_reducible refine Gx.drew ?_) | (with_reducible refine Gx.drewN ?_) | (with_reducible refine Gx.setRow ?_ (by simp)) | (with_reducible refine Gx.setCell ?_ (by simp)))); (focus (repeat (first | (with_reducible assumption) | (with_reducible exact At.new _ _) | (with_reducible refine At.row ?_) | (with_reducible refine At.app ?_) | (with_reducible refine At.tick ?_) | (with_reducible refine At.gx ?_) | ((with_reducible refine At.new' ?_); focus (simp; done)) | (with_reducible refine At.alloc ?_) | (with_reducible refine At.drew ?_) | (with_reducible exact Is.new _ _ _) | (with_reducible refine Is.row ?_) | (with_reducible refine Is.gx ?_) | ((with_reducible refine Is.new' ?_); focus (simp; done)) | (with_reducible refine Is.alloc ?_) | (with_reducible refine Is.drew ?_)))); rintro g2 C2 W2 ⟨x2, rfl⟩ hg2 hA2 hl2 hm2 hb2 hp2 hq2))
  have hl2' : 5 + M.length + 7 ≤ C2.length := hl2
  have hs : ∀ W, (Instr.slice 61 (.slice (some ⟨g2, 0, none⟩) (5 + M.length + 7) C2.length) (some (.int .i64 5)) (some (.int .i64 (5 + (M.length : Int)))) none).run Tryd.prog W = .ok (.slice (some ⟨g2, 5, none⟩) M.length (C2.length - 5)) W := fun W => by
    have := slice_part g2 0 (5 + M.length + 7) C2.length 5 (5 + M.length) (by omega) (by omega) (by omega) W
    rw [Nat.zero_add, Nat.add_sub_cancel_left] at this
    exact this
  have hr : Around M C2 := ⟨hb2, hm2, hl2', fun j hj => by rw [hp2 j (by omega), hp1 j hj], fun j hj => by rw [hp2 _ (by omega), hq1 j hj], fun j hj => hq2 j hj⟩
  have Hr := Lib.hid hr
  clear hr hp1 hq1 hp2 hq2 hb1 hb2
  have hml : M.length ≤ 140737488355328 := by have := Hm.out; omega
  go_wp2
  refine region_gx (by kernel_rfl) (by kernel_rfl) ?_
  repeat (any_goals (first | (refine quiet_fr rfl _ rfl _ rfl ?_ ?_ ?_ ?_; rotate_left; (focus (rintro _ ⟨x, rfl⟩; (focus (repeat (first | (with_reducible assumption) | (with_reducible exact At.new _ _) | (with_reducible refine At.row ?_) | (with_reducible refine At.app ?_) | (with_reducible refine At.tick ?_) | (with_reducible refine At.gx ?_) | ((with_reducible refine At.new' ?_); focus (simp; done)) | (with_reducible refine At.alloc ?_) | (with_reducible refine At.drew ?_) | (with_reducible exact Is.new _ _ _) | (with_reducible refine Is.row ?_) | (with_reducible refine Is.gx ?_) | ((with_reducible refine Is.new' ?_); focus (simp; done)) | (with_reducible refine Is.alloc ?_) | (with_reducible refine Is.drew ?_)))))); (focus (with_reducible (first | exact hl | exact hl1 | exact hl2 | exact hl3 | exact hl4 | exact zeroF_len)))) | go_big_quiet_step ((first | fail)) | quiet_step ((first | fail))))
  refine wpQuiet_nil ?_
  rintro _ ⟨x, rfl⟩
  go_wp2
  go_ret2
  exact ⟨g2, C2, _, rfl, gx_gx _ _ _, hg2, by rw [← gx_gx]; exact hA2.gx, Hr.out⟩

theorem HeldB.part {B C : List Int} {g o n : Nat} {w : World} (hA : At w g (.cells (bc C) 5 (0, 0))) (h : o + n ≤ C.length) (hB : ∀ j, j < n → gw C (o + j) = gw B j) : HeldB B (some ⟨g, o, none⟩) n w := by
  unfold HeldB
  intro _
  refine ⟨g, o, rfl, fun j hj => ?_⟩
  rw [cell_of_row w g _ _ _ _ hA, bc_get C _ (by omega), hB j hj]
theorem slice_head (g o n cap h : Nat) (hh : h ≤ cap) (hc : 0 < cap) (W : World) :
    (Instr.slice 61 (.slice (some ⟨g, o, none⟩) n cap) none (some (.int .i64 (h : Int))) none).run Tryd.prog W = .ok (.slice (some ⟨g, o, none⟩) h cap) W := by
  have ht' : Tryd.prog.underlying 61 = some (.slice (Tryd.prog.elem 61)) := by simp [Program.elem, Tryd.underlying61]
  have he : Tryd.prog.elem 61 = 5 := by simp [Program.elem, Tryd.underlying61]
  rw [run_slice_h W 61 _ _ _ ht' .i64 _ (by omega) (by omega), he, sizeByte]
  have hne : ¬ cap = 0 := by omega
  simp [Result.andThen, sliced, Addr.add, hne]
theorem slice_tail (g o n cap l : Nat) (hl : l ≤ n) (hc : l < cap) (W : World) :
    (Instr.slice 61 (.slice (some ⟨g, o, none⟩) n cap) (some (.int .i64 (l : Int))) none none).run Tryd.prog W = .ok (.slice (some ⟨g, o + l, none⟩) (n - l) (cap - l)) W := by
  have ht' : Tryd.prog.underlying 61 = some (.slice (Tryd.prog.elem 61)) := by simp [Program.elem, Tryd.underlying61]
  have he : Tryd.prog.elem 61 = 5 := by simp [Program.elem, Tryd.underlying61]
  rw [run_slice_l W 61 _ _ _ ht' .i64 _ (by omega) (by omega), he, sizeByte]
  have hne : ¬ cap = l := by omega
  by_cases h0 : l = 0
  · subst h0; simp [Result.andThen, sliced, Addr.add, hne]
  · simp [Result.andThen, sliced, Addr.add, hne, h0]

set_option maxHeartbeats 1000000 in
set_option maxRecDepth 100000 in
theorem kept_any (n g : Nat) (C : List Int) (hmax : C.length ≤ maxLen) (hlen : 5 + n + 7 ≤ C.length) (hpre : ∀ j, j < 5 → gw C j = gw [1, 2, 3, 4, 5] j) (hpost : ∀ j, j < 7 → gw C (5 + n + j) = gw [9, 8, 7, 6, 5, 4, 3] j)
    (w : World) (hA : At w g (.cells (bc C) 5 (0, 0))) :
    Calls Tryd.prog 64 #[.slice (some ⟨g, 0, none⟩) (5 + n + 7) C.length] w fun e w' => e = .returned (.bool true) ∧ ∃ x, w' = gx w x := by
  have hb : 5 + n + 7 ≤ 9223372036854775807 := by simp only [maxLen] at hmax; omega
  have s1 : ∀ W, (Instr.slice 61 (.slice (some ⟨g, 0, none⟩) (5 + n + 7) C.length) none (some (.int .i64 5)) none).run Tryd.prog W = .ok (.slice (some ⟨g, 0, none⟩) 5 C.length) W := fun W => slice_head g 0 _ _ 5 (by omega) (by omega) W
  have s2 : ∀ W, (Instr.slice 61 (.slice (some ⟨g, 0, none⟩) (5 + n + 7) C.length) (some (.int .i64 (5 + (n : Int)))) none none).run Tryd.prog W = .ok (.slice (some ⟨g, 5 + n, none⟩) 7 (C.length - (5 + n))) W := fun W => by
    have := slice_tail g 0 (5 + n + 7) C.length (5 + n) (by omega) (by omega) W
    rw [Nat.zero_add, Nat.add_sub_cancel_left] at this
    exact this
  have Hpre := Lib.hid hpre
  have Hpost := Lib.hid hpost
  have Hl := Lib.hid hlen
  clear hpre hpost hmax hlen
  go_enter Tryd.func64, Tryd.ntmps64
  go_wp2_with (first | (go_at_call_of 46 (Value.slice (some ⟨g, 0, none⟩) 5 C.length); refine (EqualB_same [1, 2, 3, 4, 5] 5 _ _ _ _ _ (HeldB.part (C := C) ?_ (by have := Hl.out; omega) (fun j hj => by rw [Nat.zero_add]; exact Hpre.out j hj)) (fun h => by cases h) (HeldB.of_at (B := [1, 2, 3, 4, 5]) ?_ (by decide)) (fun h => by cases h)).mono ?_; (focus (repeat (first | (with_reducible assumption) | (with_reducible exact At.new _ _) | (with_reducible refine At.row ?_) | (with_reducible refine At.app ?_) | (with_reducible refine At.tick ?_) | (with_reducible refine At.gx ?_) | ((with_reducible refine At.new' ?_); focus (simp; done)) | (with_reducible refine At.alloc ?_) | (with_reducible refine At.drew ?_) | (with_reducible exact Is.new _ _ _) | (with_reducible refine Is.row ?_) | (with_reducible refine Is.gx ?_) | ((with_reducible refine Is.new' ?_); focus (simp; done)) | (with_reducible refine Is.alloc ?_) | (with_reducible refine Is.drew ?_)))); (focus (repeat (first | (with_reducible assumption) | (with_reducible exact At.new _ _) | (with_reducible refine At.row ?_) | (with_reducible refine At.app ?_) | (with_reducible refine At.tick ?_) | (with_reducible refine At.gx ?_) | ((with_reducible refine At.new' ?_); focus (simp; done)) | (with_reducible refine At.alloc ?_) | (with_reducible refine At.drew ?_) | (with_reducible exact Is.new _ _ _) | (with_reducible refine Is.row ?_) | (with_reducible refine Is.gx ?_) | ((with_reducible refine Is.new' ?_); focus (simp; done)) | (with_reducible refine Is.alloc ?_) | (with_reducible refine Is.drew ?_)))); rintro e w' ⟨rfl, rfl⟩) | (go_at_call 46; refine (EqualB_same [9, 8, 7, 6, 5, 4, 3] 7 _ _ _ _ _ (HeldB.part (C := C) (o := 5 + n) ?_ (by have := Hl.out; omega) Hpost.out) (fun h => by cases h) (HeldB.of_at (B := [9, 8, 7, 6, 5, 4, 3]) ?_ (by decide)) (fun h => by cases h)).mono ?_; (focus (repeat (first | (with_reducible assumption) | (with_reducible exact At.new _ _) | (with_reducible refine At.row ?_) | (with_reducible refine At.app ?_) | (with_reducible refine At.tick ?_) | (with_reducible refine At.gx ?_) | ((with_reducible refine At.new' ?_); focus (simp; done)) | (with_reducible refine At.alloc ?_) | (with_reducible refine At.drew ?_) | (with_reducible exact Is.new _ _ _) | (with_reducible refine Is.row ?_) | (with_reducible refine Is.gx ?_) | ((with_reducible refine Is.new' ?_); focus (simp; done)) | (with_reducible refine Is.alloc ?_) | (with_reducible refine Is.drew ?_)))); (focus (repeat (first | (with_reducible assumption) | (with_reducible exact At.new _ _) | (with_reducible refine At.row ?_) | (with_reducible refine At.app ?_) | (with_reducible refine At.tick ?_) | (with_reducible refine At.gx ?_) | ((with_reducible refine At.new' ?_); focus (simp; done)) | (with_reducible refine At.alloc ?_) | (with_reducible refine At.drew ?_) | (with_reducible exact Is.new _ _ _) | (with_reducible refine Is.row ?_) | (with_reducible refine Is.gx ?_) | ((with_reducible refine Is.new' ?_); focus (simp; done)) | (with_reducible refine Is.alloc ?_) | (with_reducible refine Is.drew ?_)))); rintro e w' ⟨rfl, rfl⟩))
  go_ret
  exact ⟨rfl, (by repeat (first | (with_reducible exact Gx.refl _) | (with_reducible assumption) | (with_reducible refine Gx.gx ?_) | (with_reducible refine Gx.alloc ?_) | (with_reducible refine Gx.drew ?_) | (with_reducible refine Gx.drewN ?_) | (with_reducible refine Gx.setRow ?_ (by simp)) | (with_reducible refine Gx.setCell ?_ (by simp))))⟩
end Go.Proofs.YtllahhmonoedmaaDoor
