/-
  Texts that this claim leans on, merged: PFst, PLawCk.
-/
import Derived.Deep.RegionHeld3
import Derived.Test.YtocaphcnnmcnjaaGreatDoorM11

/-
  Panels: First of both sides, and the law's comparison of two states.
-/
namespace Go.Proofs.YtocaphcnnmcnjaaGreatDoor
open Go.RowKit
-- AT2
-- AT3

/-- n memos that remember nothing lie at A. -/
@[irreducible] def MzAt (w : World) (n : Nat) (A : Option Addr) : Prop := 0 < n → ∃ b, A = some ⟨b, 0, none⟩ ∧ ∀ k, k < n → w.cell? ⟨b, k * 5, none⟩ = some (.bool false) ∧ w.cell? ⟨b, k * 5 + 1, none⟩ = some (.bool false) ∧ w.cell? ⟨b, k * 5 + 2, none⟩ = some (.int .i64 0) ∧ w.cell? ⟨b, k * 5 + 3, none⟩ = some (.int .i64 0) ∧ w.cell? ⟨b, k * 5 + 4, none⟩ = some (.slice none 0 0)
theorem MzAt.get {w : World} {n : Nat} {A : Option Addr} (h : MzAt w n A) (h0 : 0 < n) : ∃ b, A = some ⟨b, 0, none⟩ ∧ b < w.heap.size ∧ Hid (∀ k, k < n → w.cell? ⟨b, k * 5, none⟩ = some (.bool false) ∧ w.cell? ⟨b, k * 5 + 1, none⟩ = some (.bool false) ∧ w.cell? ⟨b, k * 5 + 2, none⟩ = some (.int .i64 0) ∧ w.cell? ⟨b, k * 5 + 3, none⟩ = some (.int .i64 0) ∧ w.cell? ⟨b, k * 5 + 4, none⟩ = some (.slice none 0 0)) := by
  unfold MzAt at h
  obtain ⟨b, e, hc⟩ := h h0
  exact ⟨b, e, World.block_lt_of_cell? w _ (hc 0 h0).1, Lib.hid hc⟩
theorem MzAt.gx {w : World} {n : Nat} {A : Option Addr} {x : Ext} (h : MzAt w n A) : MzAt (gx w x) n A := by
  unfold MzAt at *
  intro h0
  obtain ⟨b, e, hc⟩ := h h0
  refine ⟨b, e, fun k hk => ?_⟩
  obtain ⟨c0, c1, c2, c3, c4⟩ := hc k hk
  exact ⟨cell_keep_gx c0, cell_keep_gx c1, cell_keep_gx c2, cell_keep_gx c3, cell_keep_gx c4⟩
theorem mzAt_of {w W : World} {n : Nat} {A : Option Addr} (h : MzAt w n A) (hW : ∃ x, W = Go.Proofs.YtocaphcnnmcnjaaGreatDoor.gx w x) : MzAt W n A := by
  obtain ⟨x, rfl⟩ := hW; exact h.gx
theorem mzAt_0 (w : World) (A : Option Addr) : MzAt w 0 A := by unfold MzAt; intro h; omega
theorem make_memos (n : Nat) (hn : n ≤ 1000000) : ∃ C : Array Value, (∀ k, k < n → C[k * 5]? = some (.bool false) ∧ C[k * 5 + 1]? = some (.bool false) ∧ C[k * 5 + 2]? = some (.int .i64 0) ∧ C[k * 5 + 3]? = some (.int .i64 0) ∧ C[k * 5 + 4]? = some (.slice none 0 0)) ∧ ∀ w : World, (Instr.makeSlice 30 (.int .i64 (n : Int)) (.int .i64 (n : Int))).run Tryz.prog w = .ok (.slice (some ⟨w.heap.size, 0, none⟩) n n) (w.alloc (.cells C 68)) := by
  have hE : Elem 30 68 5 48 := elem_of Tryz.underlying30 (by decide) (z := .agg #[.bool false, .bool false, .int .i64 0, .int .i64 0, .slice none 0 0]) (by kernel_rfl) rfl
  obtain ⟨ht, hp, i, z, hi, hz, hsize, hby, hzs⟩ := hE
  have hz0 : z = .agg #[.bool false, .bool false, .int .i64 0, .int .i64 0, .slice none 0 0] := by
    have h1 : (Tryz.prog.info? 68).bind (·.zero) = some (.agg #[.bool false, .bool false, .int .i64 0, .int .i64 0, .slice none 0 0] : Value) := by kernel_rfl
    rw [hi] at h1
    have h2 : i.zero = some (.agg #[.bool false, .bool false, .int .i64 0, .int .i64 0, .slice none 0 0] : Value) := h1
    rw [hz] at h2
    simpa using h2
  subst hz0
  refine ⟨madeCells (Value.cells (.agg #[.bool false, .bool false, .int .i64 0, .int .i64 0, .slice none 0 0])) (n * 5), ?_, fun w => ?_⟩
  · intro k hk
    have m0 : k * 5 < n * 5 := by omega
    have m1 : k * 5 + 1 < n * 5 := by omega
    have m2 : k * 5 + 2 < n * 5 := by omega
    have m3 : k * 5 + 3 < n * 5 := by omega
    have m4 : k * 5 + 4 < n * 5 := by omega
    simp [madeCells, Value.cells, m0, m1, m2, m3, m4, Nat.add_mod]
  · have := run_make (P := Tryz.prog) w 30 68 i (.agg #[.bool false, .bool false, .int .i64 0, .int .i64 0, .slice none 0 0]) ht hi hz .i64 .i64 n n (by omega) (Int.le_refl _) (by rw [hby]; omega) (by omega)
    rw [hsize, Int.toNat_natCast] at this
    exact this
theorem mzAt_new {w : World} {n : Nat} {C : Array Value} {g : Nat} {t : TypeId} (h : At w g (.cells C t (0, 0))) (hC : ∀ k, k < n → C[k * 5]? = some (.bool false) ∧ C[k * 5 + 1]? = some (.bool false) ∧ C[k * 5 + 2]? = some (.int .i64 0) ∧ C[k * 5 + 3]? = some (.int .i64 0) ∧ C[k * 5 + 4]? = some (.slice none 0 0)) : MzAt w n (some ⟨g, 0, none⟩) := by
  unfold MzAt
  intro _
  refine ⟨g, rfl, fun k hk => ?_⟩
  obtain ⟨c0, c1, c2, c3, c4⟩ := hC k hk
  exact ⟨by rw [cell_of_row w _ _ _ _ _ h]; exact c0, by rw [cell_of_row w _ _ _ _ _ h]; exact c1, by rw [cell_of_row w _ _ _ _ _ h]; exact c2, by rw [cell_of_row w _ _ _ _ _ h]; exact c3, by rw [cell_of_row w _ _ _ _ _ h]; exact c4⟩
set_option maxHeartbeats 4000000 in
set_option maxRecDepth 100000 in
theorem First_a (A : Option Addr) (n c : Nat) (w : World) (E : Int) (h0 : E ≠ 0) (H : Hid (∀ W, (∃ x, W = gx w x) → Calls Tryz.prog 11 #[.agg #[.slice A n c]] W fun e W' => e = .returned (.int .i64 E) ∧ ∃ x, W' = gx W x)) :
    Calls Tryz.prog 9 #[.agg #[.slice A n c]] w fun e w' => e = .returned (.tuple #[.agg #[.int .i64 0, .slice none 0 0], .int .i64 E]) ∧ ∃ x, w' = gx w x := by
  have k0 := beq0 h0
  have k1 := bne0 h0
  have k2 := ne0t h0
  clear h0
  go_enter Tryz.func9, Tryz.ntmps9
  go_wp2_with (first | go_skip | (go_at_call 11; refine (H.out _ (by repeat (first | (with_reducible exact Gx.refl _) | (with_reducible assumption) | (with_reducible refine Gx.gx ?_) | (with_reducible refine Gx.alloc ?_) | (with_reducible refine Gx.drew ?_) | (with_reducible refine Gx.drewN ?_) | (with_reducible refine Gx.setRow ?_ (by first | omega | (simp; done) | (simp <;> omega))) | (with_reducible refine Gx.setCell ?_ (by first | omega | (simp; done) | (simp <;> omega)))))).mono ?_; rintro e w' ⟨rfl, x1, rfl⟩))
  exact bodyPost_ret (v := .tuple #[.agg #[.int .i64 0, .slice none 0 0], .int .i64 E]) (by simp [results, Tryz.results9, go_sem]) rfl ⟨rfl, (by repeat (first | (with_reducible exact Gx.refl _) | (with_reducible assumption) | (with_reducible refine Gx.gx ?_) | (with_reducible refine Gx.alloc ?_) | (with_reducible refine Gx.drew ?_) | (with_reducible refine Gx.drewN ?_) | (with_reducible refine Gx.setRow ?_ (by first | omega | (simp; done) | (simp <;> omega))) | (with_reducible refine Gx.setCell ?_ (by first | omega | (simp; done) | (simp <;> omega)))))⟩
set_option maxHeartbeats 4000000 in
set_option maxRecDepth 100000 in
theorem First_b (A : Option Addr) (n c : Nat) (hn : n ≤ 100) (w : World) (H : Hid (∀ W, (∃ x, W = gx w x) → Calls Tryz.prog 11 #[.agg #[.slice A n c]] W fun e W' => e = .returned (.int .i64 0) ∧ ∃ x, W' = gx W x)) :
    Calls Tryz.prog 9 #[.agg #[.slice A n c]] w fun e w' => ∃ A', e = .returned (.tuple #[.agg #[.int .i64 (-1), .slice A' n n], .int .i64 0]) ∧ (∃ x, w' = gx w x) ∧ MzAt w' n A' := by
  obtain ⟨C, hC, hmk⟩ := make_memos n (by omega)
  have HC := Lib.hid hC
  clear hC
  go_enter Tryz.func9, Tryz.ntmps9
  go_wp2_with (first | go_skip | (go_at_call 11; refine (H.out _ (by repeat (first | (with_reducible exact Gx.refl _) | (with_reducible assumption) | (with_reducible refine Gx.gx ?_) | (with_reducible refine Gx.alloc ?_) | (with_reducible refine Gx.drew ?_) | (with_reducible refine Gx.drewN ?_) | (with_reducible refine Gx.setRow ?_ (by first | omega | (simp; done) | (simp <;> omega))) | (with_reducible refine Gx.setCell ?_ (by first | omega | (simp; done) | (simp <;> omega)))))).mono ?_; rintro e w' ⟨rfl, x1, rfl⟩))
  refine bodyPost_ret (v := .tuple #[.agg #[.int .i64 (-1), .slice (some ⟨w.heap.size + 1 + 1 + x1.n, 0, none⟩) n n], .int .i64 0]) (by simp [results, Tryz.results9, go_sem]) rfl ?_
  refine ⟨_, rfl, (by repeat (first | (with_reducible exact Gx.refl _) | (with_reducible assumption) | (with_reducible refine Gx.gx ?_) | (with_reducible refine Gx.alloc ?_) | (with_reducible refine Gx.drew ?_) | (with_reducible refine Gx.drewN ?_) | (with_reducible refine Gx.setRow ?_ (by first | omega | (simp; done) | (simp <;> omega))) | (with_reducible refine Gx.setCell ?_ (by first | omega | (simp; done) | (simp <;> omega))))), mzAt_new (t := 68) ?_ HC.out⟩
  (focus (repeat (first | (with_reducible assumption) | (with_reducible exact At.new _ _) | (with_reducible refine At.row ?_) | ((with_reducible refine At.row_other ?_ ?_); rotate_left; (focus (simp <;> omega))) | (with_reducible refine At.app ?_) | (with_reducible refine At.tick ?_) | (with_reducible refine At.gx ?_) | ((with_reducible refine At.new' ?_); focus (simp; done)) | (with_reducible refine At.alloc ?_) | (with_reducible refine At.drew ?_) | (with_reducible exact Is.new _ _ _) | (with_reducible refine Is.row ?_) | ((with_reducible refine Is.row_other ?_ ?_); rotate_left; (focus (simp <;> omega))) | (with_reducible refine Is.gx ?_) | ((with_reducible refine Is.new' ?_); focus (simp; done)) | (with_reducible refine Is.alloc ?_) | (with_reducible refine Is.drew ?_))))
set_option maxHeartbeats 4000000 in
set_option maxRecDepth 100000 in
theorem RFirst_a (A : Option Addr) (n c : Nat) (w : World) (E : Int) (h0 : E ≠ 0) (H : Hid (∀ W, (∃ x, W = gx w x) → Calls Tryz.prog 12 #[.agg #[.slice A n c]] W fun e W' => e = .returned (.int .i64 E) ∧ ∃ x, W' = gx W x)) :
    Calls Tryz.prog 10 #[.agg #[.slice A n c]] w fun e w' => e = .returned (.tuple #[.agg #[.int .i64 0, .slice none 0 0], .int .i64 E]) ∧ ∃ x, w' = gx w x := by
  have k0 := beq0 h0
  have k1 := bne0 h0
  have k2 := ne0t h0
  clear h0
  go_enter Tryz.func10, Tryz.ntmps10
  go_wp2_with (first | go_skip | (go_at_call 12; refine (H.out _ (by repeat (first | (with_reducible exact Gx.refl _) | (with_reducible assumption) | (with_reducible refine Gx.gx ?_) | (with_reducible refine Gx.alloc ?_) | (with_reducible refine Gx.drew ?_) | (with_reducible refine Gx.drewN ?_) | (with_reducible refine Gx.setRow ?_ (by first | omega | (simp; done) | (simp <;> omega))) | (with_reducible refine Gx.setCell ?_ (by first | omega | (simp; done) | (simp <;> omega)))))).mono ?_; rintro e w' ⟨rfl, x1, rfl⟩))
  exact bodyPost_ret (v := .tuple #[.agg #[.int .i64 0, .slice none 0 0], .int .i64 E]) (by simp [results, Tryz.results10, go_sem]) rfl ⟨rfl, (by repeat (first | (with_reducible exact Gx.refl _) | (with_reducible assumption) | (with_reducible refine Gx.gx ?_) | (with_reducible refine Gx.alloc ?_) | (with_reducible refine Gx.drew ?_) | (with_reducible refine Gx.drewN ?_) | (with_reducible refine Gx.setRow ?_ (by first | omega | (simp; done) | (simp <;> omega))) | (with_reducible refine Gx.setCell ?_ (by first | omega | (simp; done) | (simp <;> omega)))))⟩
set_option maxHeartbeats 4000000 in
set_option maxRecDepth 100000 in
theorem RFirst_b (A : Option Addr) (n c : Nat) (hn : n ≤ 100) (w : World) (H : Hid (∀ W, (∃ x, W = gx w x) → Calls Tryz.prog 12 #[.agg #[.slice A n c]] W fun e W' => e = .returned (.int .i64 0) ∧ ∃ x, W' = gx W x)) :
    Calls Tryz.prog 10 #[.agg #[.slice A n c]] w fun e w' => ∃ A', e = .returned (.tuple #[.agg #[.int .i64 (-1), .slice A' n n], .int .i64 0]) ∧ (∃ x, w' = gx w x) ∧ MzAt w' n A' := by
  obtain ⟨C, hC, hmk⟩ := make_memos n (by omega)
  have HC := Lib.hid hC
  clear hC
  go_enter Tryz.func10, Tryz.ntmps10
  go_wp2_with (first | go_skip | (go_at_call 12; refine (H.out _ (by repeat (first | (with_reducible exact Gx.refl _) | (with_reducible assumption) | (with_reducible refine Gx.gx ?_) | (with_reducible refine Gx.alloc ?_) | (with_reducible refine Gx.drew ?_) | (with_reducible refine Gx.drewN ?_) | (with_reducible refine Gx.setRow ?_ (by first | omega | (simp; done) | (simp <;> omega))) | (with_reducible refine Gx.setCell ?_ (by first | omega | (simp; done) | (simp <;> omega)))))).mono ?_; rintro e w' ⟨rfl, x1, rfl⟩))
  refine bodyPost_ret (v := .tuple #[.agg #[.int .i64 (-1), .slice (some ⟨w.heap.size + 1 + 1 + x1.n, 0, none⟩) n n], .int .i64 0]) (by simp [results, Tryz.results10, go_sem]) rfl ?_
  refine ⟨_, rfl, (by repeat (first | (with_reducible exact Gx.refl _) | (with_reducible assumption) | (with_reducible refine Gx.gx ?_) | (with_reducible refine Gx.alloc ?_) | (with_reducible refine Gx.drew ?_) | (with_reducible refine Gx.drewN ?_) | (with_reducible refine Gx.setRow ?_ (by first | omega | (simp; done) | (simp <;> omega))) | (with_reducible refine Gx.setCell ?_ (by first | omega | (simp; done) | (simp <;> omega))))), mzAt_new (t := 68) ?_ HC.out⟩
  (focus (repeat (first | (with_reducible assumption) | (with_reducible exact At.new _ _) | (with_reducible refine At.row ?_) | ((with_reducible refine At.row_other ?_ ?_); rotate_left; (focus (simp <;> omega))) | (with_reducible refine At.app ?_) | (with_reducible refine At.tick ?_) | (with_reducible refine At.gx ?_) | ((with_reducible refine At.new' ?_); focus (simp; done)) | (with_reducible refine At.alloc ?_) | (with_reducible refine At.drew ?_) | (with_reducible exact Is.new _ _ _) | (with_reducible refine Is.row ?_) | ((with_reducible refine Is.row_other ?_ ?_); rotate_left; (focus (simp <;> omega))) | (with_reducible refine Is.gx ?_) | ((with_reducible refine Is.new' ?_); focus (simp; done)) | (with_reducible refine Is.alloc ?_) | (with_reducible refine Is.drew ?_))))
set_option maxHeartbeats 4000000 in
set_option maxRecDepth 100000 in
theorem eqI0 (w : World) : Calls Tryz.prog 63 #[.slice none 0 0, .slice none 0 0] w fun e w' => e = .returned (.bool true) ∧ ∃ x, w' = gx w x := by
  go_enter Tryz.func63, Tryz.ntmps63
  go_wp2
  go_loopw [13] (fun i wr => i = .int .i64 0 ∧ ∃ x, wr = gx w x) (fun _ _ => 0)
  case atStart => exact ⟨rfl, (by repeat (first | (with_reducible exact Gx.refl _) | (with_reducible assumption) | (with_reducible refine Gx.gx ?_) | (with_reducible refine Gx.alloc ?_) | (with_reducible refine Gx.drew ?_) | (with_reducible refine Gx.drewN ?_) | (with_reducible refine Gx.setRow ?_ (by first | omega | (simp; done) | (simp <;> omega))) | (with_reducible refine Gx.setCell ?_ (by first | omega | (simp; done) | (simp <;> omega)))))⟩
  case round =>
    obtain ⟨rfl, y, rfl⟩ := hrel
    go_wp2
    go_ret
    exact ⟨rfl, (by repeat (first | (with_reducible exact Gx.refl _) | (with_reducible assumption) | (with_reducible refine Gx.gx ?_) | (with_reducible refine Gx.alloc ?_) | (with_reducible refine Gx.drew ?_) | (with_reducible refine Gx.drewN ?_) | (with_reducible refine Gx.setRow ?_ (by first | omega | (simp; done) | (simp <;> omega))) | (with_reducible refine Gx.setCell ?_ (by first | omega | (simp; done) | (simp <;> omega)))))⟩
set_option maxHeartbeats 4000000 in
set_option maxRecDepth 100000 in
theorem sameMemo_z (w : World) : Calls Tryz.prog 37 #[.agg #[.bool false, .bool false, .int .i64 0, .int .i64 0, .slice none 0 0], .agg #[.bool false, .bool false, .int .i64 0, .int .i64 0, .slice none 0 0]] w fun e w' => e = .returned (.bool true) ∧ ∃ x, w' = gx w x := by
  go_enter Tryz.func37, Tryz.ntmps37
  go_wp2_with (first | go_skip | (go_at_call 63; refine (eqI0 _).mono ?_; rintro e w' ⟨rfl, x1, rfl⟩))
  go_ret
  exact ⟨rfl, (by repeat (first | (with_reducible exact Gx.refl _) | (with_reducible assumption) | (with_reducible refine Gx.gx ?_) | (with_reducible refine Gx.alloc ?_) | (with_reducible refine Gx.drew ?_) | (with_reducible refine Gx.drewN ?_) | (with_reducible refine Gx.setRow ?_ (by first | omega | (simp; done) | (simp <;> omega))) | (with_reducible refine Gx.setCell ?_ (by first | omega | (simp; done) | (simp <;> omega)))))⟩
set_option maxHeartbeats 4000000 in
set_option maxRecDepth 100000 in
theorem EqualM_z (n : Nat) (hn : n ≤ 100) (A B : Option Addr) (w : World) (hA : MzAt w n A) (hB : MzAt w n B) : Calls Tryz.prog 36 #[.slice A n n, .slice B n n, .func (.func 37) #[] #[]] w fun e w' => e = .returned (.bool true) ∧ ∃ x, w' = gx w x := by
  have HM := Lib.hid sameMemo_z
  go_enter Tryz.func36, Tryz.ntmps36
  go_wp2
  go_loopw [17] (fun i wr => ∃ k : Nat, k ≤ n ∧ i = .int .i64 k ∧ ∃ x, wr = gx w x) (fun i _ => n - (intOf i).toNat)
  case atStart => exact ⟨0, Nat.zero_le _, rfl, (by repeat (first | (with_reducible exact Gx.refl _) | (with_reducible assumption) | (with_reducible refine Gx.gx ?_) | (with_reducible refine Gx.alloc ?_) | (with_reducible refine Gx.drew ?_) | (with_reducible refine Gx.drewN ?_) | (with_reducible refine Gx.setRow ?_ (by first | omega | (simp; done) | (simp <;> omega))) | (with_reducible refine Gx.setCell ?_ (by first | omega | (simp; done) | (simp <;> omega)))))⟩
  case round =>
    obtain ⟨k, hk, rfl, y, rfl⟩ := hrel
    by_cases hlt : k < n
    · obtain ⟨b, rfl, hbw, HCb⟩ := hA.get (by omega)
      obtain ⟨d, rfl, hdw, HCd⟩ := hB.get (by omega)
      obtain ⟨c0, c1, c2, c3, c4⟩ := HCb.out k hlt
      obtain ⟨d0, d1, d2, d3, d4⟩ := HCd.out k hlt
      go_wp2_with (first | (go_at_call 37; refine (HM.out _).mono ?_; rintro e w' ⟨rfl, x1, rfl⟩))
      go_roundw
      case rel => exact ⟨k + 1, by omega, by go_num, (by repeat (first | (with_reducible exact Gx.refl _) | (with_reducible assumption) | (with_reducible refine Gx.gx ?_) | (with_reducible refine Gx.alloc ?_) | (with_reducible refine Gx.drew ?_) | (with_reducible refine Gx.drewN ?_) | (with_reducible refine Gx.setRow ?_ (by first | omega | (simp; done) | (simp <;> omega))) | (with_reducible refine Gx.setCell ?_ (by first | omega | (simp; done) | (simp <;> omega)))))⟩
      case measure => simp [intOf]; omega
    · obtain rfl : k = n := by omega
      go_wp2
      go_ret
      exact ⟨rfl, (by repeat (first | (with_reducible exact Gx.refl _) | (with_reducible assumption) | (with_reducible refine Gx.gx ?_) | (with_reducible refine Gx.alloc ?_) | (with_reducible refine Gx.drew ?_) | (with_reducible refine Gx.drewN ?_) | (with_reducible refine Gx.setRow ?_ (by first | omega | (simp; done) | (simp <;> omega))) | (with_reducible refine Gx.setCell ?_ (by first | omega | (simp; done) | (simp <;> omega)))))⟩
set_option maxHeartbeats 4000000 in
set_option maxRecDepth 100000 in
theorem sameState_z (fr : Int) (n : Nat) (hn : n ≤ 100) (A B : Option Addr) (w : World) (hA : MzAt w n A) (hB : MzAt w n B) : Calls Tryz.prog 13 #[.agg #[.int .i64 fr, .slice A n n], .agg #[.int .i64 fr, .slice B n n]] w fun e w' => e = .returned (.bool true) ∧ ∃ x, w' = gx w x := by
  have HE := Lib.hid (fun W (hW : ∃ x, W = gx w x) => EqualM_z n hn A B W (mzAt_of hA hW) (mzAt_of hB hW))
  clear hA hB
  go_enter Tryz.func13, Tryz.ntmps13
  go_wp2_with (first | go_skip | (go_at_call 36; refine (HE.out _ (by repeat (first | (with_reducible exact Gx.refl _) | (with_reducible assumption) | (with_reducible refine Gx.gx ?_) | (with_reducible refine Gx.alloc ?_) | (with_reducible refine Gx.drew ?_) | (with_reducible refine Gx.drewN ?_) | (with_reducible refine Gx.setRow ?_ (by first | omega | (simp; done) | (simp <;> omega))) | (with_reducible refine Gx.setCell ?_ (by first | omega | (simp; done) | (simp <;> omega)))))).mono ?_; rintro e w' ⟨rfl, x1, rfl⟩))
  go_ret
  exact ⟨rfl, (by repeat (first | (with_reducible exact Gx.refl _) | (with_reducible assumption) | (with_reducible refine Gx.gx ?_) | (with_reducible refine Gx.alloc ?_) | (with_reducible refine Gx.drew ?_) | (with_reducible refine Gx.drewN ?_) | (with_reducible refine Gx.setRow ?_ (by first | omega | (simp; done) | (simp <;> omega))) | (with_reducible refine Gx.setCell ?_ (by first | omega | (simp; done) | (simp <;> omega)))))⟩
end Go.Proofs.YtocaphcnnmcnjaaGreatDoor

/-
  PanelCheckMatchesSpec: the law's walk.
-/
namespace Go.Proofs.YtocaphcnnmcnjaaGreatDoor
open Go.RowKit
-- AT2
-- AT3

set_option maxHeartbeats 4000000 in
set_option maxRecDepth 100000 in
theorem ck_core (J : Nat → InR) (A : Option Addr) (n c m : Nat) (hnc : n ≤ c ∧ c ≤ 9223372036854775807) (E : Nat → Int) (e0 fr : Int) (w : World) (hL : InsAt w J n A)
    (H1 : Hid (∀ k, k < n → ∀ W, (∃ x, W = gx w x) → Calls Tryz.prog 7 #[(J k).v] W fun e W' => e = .returned (.int .i64 (E k)) ∧ ∃ x, W' = gx W x))
    (H2 : Hid (∀ k, k < n → ∀ W, (∃ x, W = gx w x) → Calls Tryz.prog 8 #[(J k).v] W fun e W' => e = .returned (.int .i64 (E k)) ∧ ∃ x, W' = gx W x))
    (H3 : Hid (∀ W, (∃ x, W = gx w x) → Calls Tryz.prog 9 #[.agg #[.slice A n c]] W fun e W' => ∃ A', e = .returned (.tuple #[.agg #[.int .i64 fr, .slice A' m m], .int .i64 e0]) ∧ (∃ x, W' = gx W x) ∧ MzAt W' m A'))
    (H4 : Hid (∀ W, (∃ x, W = gx w x) → Calls Tryz.prog 10 #[.agg #[.slice A n c]] W fun e W' => ∃ A', e = .returned (.tuple #[.agg #[.int .i64 fr, .slice A' m m], .int .i64 e0]) ∧ (∃ x, W' = gx W x) ∧ MzAt W' m A'))
    (H5 : Hid (∀ W, (∃ x, W = gx w x) → Calls Tryz.prog 11 #[.agg #[.slice A n c]] W fun e W' => e = .returned (.int .i64 e0) ∧ ∃ x, W' = gx W x))
    (H6 : Hid (∀ W, (∃ x, W = gx w x) → Calls Tryz.prog 12 #[.agg #[.slice A n c]] W fun e W' => e = .returned (.int .i64 e0) ∧ ∃ x, W' = gx W x))
    (HS : Hid (∀ W A' B', MzAt W m A' → MzAt W m B' → Calls Tryz.prog 13 #[.agg #[.int .i64 fr, .slice A' m m], .agg #[.int .i64 fr, .slice B' m m]] W fun e W' => e = .returned (.bool true) ∧ ∃ x, W' = gx W x)) :
    Calls Tryz.prog 3 #[.agg #[.slice A n c]] w fun e w' => e = .returned (.bool true) ∧ ∃ x, w' = gx w x := by
  go_enter Tryz.func3, Tryz.ntmps3
  go_wp2
  go_loopw [12] (fun i wr => ∃ k : Nat, k ≤ n ∧ i = .int .i64 k ∧ ∃ x, wr = gx (w.alloc (.cells #[.slice A n c] 24)) x) (fun i _ => n - (intOf i).toNat)
  case atStart => exact ⟨0, Nat.zero_le _, rfl, Gx.refl _⟩
  case round =>
    obtain ⟨k, hk, rfl, y, rfl⟩ := hrel
    by_cases hlt : k < n
    · obtain ⟨b0, o0, rfl, hbw, HK, HZ⟩ := hL.get (by omega)
      obtain ⟨c0, c1, c2, c3, c4, c5, c6, c7, c8, c9, c10, c11⟩ := HK.out k hlt
      have HI1 := Lib.hid (H1.out k hlt)
      have HI2 := Lib.hid (H2.out k hlt)
      clear H1 H2 H3 H4 H5 H6 HS HK HZ hL
      generalize J k = I at *
      obtain ⟨kd, nm, tr, pl, lo, hi, st, Z, zn, zc, op, nn, lt, sz, z⟩ := I
      dsimp only at *
      generalize E k = ek at *
      go_wp2
      have hA : At (((gx (w.alloc (.cells #[.slice (some ⟨b0, o0, none⟩) n c] 24)) y).alloc (.cells #[.int .i64 kd, .string nm, .string tr, .int .i64 pl, .int .i64 lo, .int .i64 hi, .int .i64 st, .slice Z zn zc, .int .i64 op, .int .i64 nn, .bool lt, .int .i64 sz] 27))) (w.heap.size + 1 + y.n) (.cells #[.int .i64 kd, .string nm, .string tr, .int .i64 pl, .int .i64 lo, .int .i64 hi, .int .i64 st, .slice Z zn zc, .int .i64 op, .int .i64 nn, .bool lt, .int .i64 sz] 27 (0, 0)) := by (focus (repeat (first | (with_reducible assumption) | (with_reducible exact At.new _ _) | (with_reducible refine At.row ?_) | ((with_reducible refine At.row_other ?_ ?_); rotate_left; (focus (simp <;> omega))) | (with_reducible refine At.app ?_) | (with_reducible refine At.tick ?_) | (with_reducible refine At.gx ?_) | ((with_reducible refine At.new' ?_); focus (simp; done)) | (with_reducible refine At.alloc ?_) | (with_reducible refine At.drew ?_) | (with_reducible exact Is.new _ _ _) | (with_reducible refine Is.row ?_) | ((with_reducible refine Is.row_other ?_ ?_); rotate_left; (focus (simp <;> omega))) | (with_reducible refine Is.gx ?_) | ((with_reducible refine Is.new' ?_); focus (simp; done)) | (with_reducible refine Is.alloc ?_) | (with_reducible refine Is.drew ?_))))
      have G4 : ∃ x, ((gx (w.alloc (.cells #[.slice (some ⟨b0, o0, none⟩) n c] 24)) y).alloc (.cells #[.int .i64 kd, .string nm, .string tr, .int .i64 pl, .int .i64 lo, .int .i64 hi, .int .i64 st, .slice Z zn zc, .int .i64 op, .int .i64 nn, .bool lt, .int .i64 sz] 27)) = gx w x := (by repeat (first | (with_reducible exact Gx.refl _) | (with_reducible assumption) | (with_reducible refine Gx.gx ?_) | (with_reducible refine Gx.alloc ?_) | (with_reducible refine Gx.drew ?_) | (with_reducible refine Gx.drewN ?_) | (with_reducible refine Gx.setRow ?_ (by first | omega | (simp; done) | (simp <;> omega))) | (with_reducible refine Gx.setCell ?_ (by first | omega | (simp; done) | (simp <;> omega)))))
      have G5 : ∃ x, ((gx (w.alloc (.cells #[.slice (some ⟨b0, o0, none⟩) n c] 24)) y).alloc (.cells #[.int .i64 kd, .string nm, .string tr, .int .i64 pl, .int .i64 lo, .int .i64 hi, .int .i64 st, .slice Z zn zc, .int .i64 op, .int .i64 nn, .bool lt, .int .i64 sz] 27)) = gx (w.alloc (.cells #[.slice (some ⟨b0, o0, none⟩) n c] 24)) x := (by repeat (first | (with_reducible exact Gx.refl _) | (with_reducible assumption) | (with_reducible refine Gx.gx ?_) | (with_reducible refine Gx.alloc ?_) | (with_reducible refine Gx.drew ?_) | (with_reducible refine Gx.drewN ?_) | (with_reducible refine Gx.setRow ?_ (by first | omega | (simp; done) | (simp <;> omega))) | (with_reducible refine Gx.setCell ?_ (by first | omega | (simp; done) | (simp <;> omega)))))
      have q0 : World.cell? (((gx (w.alloc (.cells #[.slice (some ⟨b0, o0, none⟩) n c] 24)) y).alloc (.cells #[.int .i64 kd, .string nm, .string tr, .int .i64 pl, .int .i64 lo, .int .i64 hi, .int .i64 st, .slice Z zn zc, .int .i64 op, .int .i64 nn, .bool lt, .int .i64 sz] 27))) ⟨w.heap.size + 1 + y.n, 0, none⟩ = some (.int .i64 kd) := by rw [cell_of_row _ _ _ _ _ _ hA]; rfl
      have q1 : World.cell? (((gx (w.alloc (.cells #[.slice (some ⟨b0, o0, none⟩) n c] 24)) y).alloc (.cells #[.int .i64 kd, .string nm, .string tr, .int .i64 pl, .int .i64 lo, .int .i64 hi, .int .i64 st, .slice Z zn zc, .int .i64 op, .int .i64 nn, .bool lt, .int .i64 sz] 27))) ⟨w.heap.size + 1 + y.n, 1, none⟩ = some (.string nm) := by rw [cell_of_row _ _ _ _ _ _ hA]; rfl
      have q2 : World.cell? (((gx (w.alloc (.cells #[.slice (some ⟨b0, o0, none⟩) n c] 24)) y).alloc (.cells #[.int .i64 kd, .string nm, .string tr, .int .i64 pl, .int .i64 lo, .int .i64 hi, .int .i64 st, .slice Z zn zc, .int .i64 op, .int .i64 nn, .bool lt, .int .i64 sz] 27))) ⟨w.heap.size + 1 + y.n, 2, none⟩ = some (.string tr) := by rw [cell_of_row _ _ _ _ _ _ hA]; rfl
      have q3 : World.cell? (((gx (w.alloc (.cells #[.slice (some ⟨b0, o0, none⟩) n c] 24)) y).alloc (.cells #[.int .i64 kd, .string nm, .string tr, .int .i64 pl, .int .i64 lo, .int .i64 hi, .int .i64 st, .slice Z zn zc, .int .i64 op, .int .i64 nn, .bool lt, .int .i64 sz] 27))) ⟨w.heap.size + 1 + y.n, 3, none⟩ = some (.int .i64 pl) := by rw [cell_of_row _ _ _ _ _ _ hA]; rfl
      have q4 : World.cell? (((gx (w.alloc (.cells #[.slice (some ⟨b0, o0, none⟩) n c] 24)) y).alloc (.cells #[.int .i64 kd, .string nm, .string tr, .int .i64 pl, .int .i64 lo, .int .i64 hi, .int .i64 st, .slice Z zn zc, .int .i64 op, .int .i64 nn, .bool lt, .int .i64 sz] 27))) ⟨w.heap.size + 1 + y.n, 4, none⟩ = some (.int .i64 lo) := by rw [cell_of_row _ _ _ _ _ _ hA]; rfl
      have q5 : World.cell? (((gx (w.alloc (.cells #[.slice (some ⟨b0, o0, none⟩) n c] 24)) y).alloc (.cells #[.int .i64 kd, .string nm, .string tr, .int .i64 pl, .int .i64 lo, .int .i64 hi, .int .i64 st, .slice Z zn zc, .int .i64 op, .int .i64 nn, .bool lt, .int .i64 sz] 27))) ⟨w.heap.size + 1 + y.n, 5, none⟩ = some (.int .i64 hi) := by rw [cell_of_row _ _ _ _ _ _ hA]; rfl
      have q6 : World.cell? (((gx (w.alloc (.cells #[.slice (some ⟨b0, o0, none⟩) n c] 24)) y).alloc (.cells #[.int .i64 kd, .string nm, .string tr, .int .i64 pl, .int .i64 lo, .int .i64 hi, .int .i64 st, .slice Z zn zc, .int .i64 op, .int .i64 nn, .bool lt, .int .i64 sz] 27))) ⟨w.heap.size + 1 + y.n, 6, none⟩ = some (.int .i64 st) := by rw [cell_of_row _ _ _ _ _ _ hA]; rfl
      have q7 : World.cell? (((gx (w.alloc (.cells #[.slice (some ⟨b0, o0, none⟩) n c] 24)) y).alloc (.cells #[.int .i64 kd, .string nm, .string tr, .int .i64 pl, .int .i64 lo, .int .i64 hi, .int .i64 st, .slice Z zn zc, .int .i64 op, .int .i64 nn, .bool lt, .int .i64 sz] 27))) ⟨w.heap.size + 1 + y.n, 7, none⟩ = some (.slice Z zn zc) := by rw [cell_of_row _ _ _ _ _ _ hA]; rfl
      have q8 : World.cell? (((gx (w.alloc (.cells #[.slice (some ⟨b0, o0, none⟩) n c] 24)) y).alloc (.cells #[.int .i64 kd, .string nm, .string tr, .int .i64 pl, .int .i64 lo, .int .i64 hi, .int .i64 st, .slice Z zn zc, .int .i64 op, .int .i64 nn, .bool lt, .int .i64 sz] 27))) ⟨w.heap.size + 1 + y.n, 8, none⟩ = some (.int .i64 op) := by rw [cell_of_row _ _ _ _ _ _ hA]; rfl
      have q9 : World.cell? (((gx (w.alloc (.cells #[.slice (some ⟨b0, o0, none⟩) n c] 24)) y).alloc (.cells #[.int .i64 kd, .string nm, .string tr, .int .i64 pl, .int .i64 lo, .int .i64 hi, .int .i64 st, .slice Z zn zc, .int .i64 op, .int .i64 nn, .bool lt, .int .i64 sz] 27))) ⟨w.heap.size + 1 + y.n, 9, none⟩ = some (.int .i64 nn) := by rw [cell_of_row _ _ _ _ _ _ hA]; rfl
      have q10 : World.cell? (((gx (w.alloc (.cells #[.slice (some ⟨b0, o0, none⟩) n c] 24)) y).alloc (.cells #[.int .i64 kd, .string nm, .string tr, .int .i64 pl, .int .i64 lo, .int .i64 hi, .int .i64 st, .slice Z zn zc, .int .i64 op, .int .i64 nn, .bool lt, .int .i64 sz] 27))) ⟨w.heap.size + 1 + y.n, 10, none⟩ = some (.bool lt) := by rw [cell_of_row _ _ _ _ _ _ hA]; rfl
      have q11 : World.cell? (((gx (w.alloc (.cells #[.slice (some ⟨b0, o0, none⟩) n c] 24)) y).alloc (.cells #[.int .i64 kd, .string nm, .string tr, .int .i64 pl, .int .i64 lo, .int .i64 hi, .int .i64 st, .slice Z zn zc, .int .i64 op, .int .i64 nn, .bool lt, .int .i64 sz] 27))) ⟨w.heap.size + 1 + y.n, 11, none⟩ = some (.int .i64 sz) := by rw [cell_of_row _ _ _ _ _ _ hA]; rfl
      clear hA c0 c1 c2 c3 c4 c5 c6 c7 c8 c9 c10 c11
      generalize ((gx (w.alloc (.cells #[.slice (some ⟨b0, o0, none⟩) n c] 24)) y).alloc (.cells #[.int .i64 kd, .string nm, .string tr, .int .i64 pl, .int .i64 lo, .int .i64 hi, .int .i64 st, .slice Z zn zc, .int .i64 op, .int .i64 nn, .bool lt, .int .i64 sz] 27)) = Wc at *
      generalize w.heap.size + 1 + y.n = gi at *
      go_region_held3 (fun W => (∃ x, W = gx Wc x) ∧ W.cell? ⟨gi, 0, none⟩ = some (.int .i64 kd) ∧ W.cell? ⟨gi, 1, none⟩ = some (.string nm) ∧ W.cell? ⟨gi, 2, none⟩ = some (.string tr) ∧ W.cell? ⟨gi, 3, none⟩ = some (.int .i64 pl) ∧ W.cell? ⟨gi, 4, none⟩ = some (.int .i64 lo) ∧ W.cell? ⟨gi, 5, none⟩ = some (.int .i64 hi) ∧ W.cell? ⟨gi, 6, none⟩ = some (.int .i64 st) ∧ W.cell? ⟨gi, 7, none⟩ = some (.slice Z zn zc) ∧ W.cell? ⟨gi, 8, none⟩ = some (.int .i64 op) ∧ W.cell? ⟨gi, 9, none⟩ = some (.int .i64 nn) ∧ W.cell? ⟨gi, 10, none⟩ = some (.bool lt) ∧ W.cell? ⟨gi, 11, none⟩ = some (.int .i64 sz))
        (refine ⟨(by repeat (first | (with_reducible exact Gx.refl _) | (with_reducible assumption) | (with_reducible refine Gx.gx ?_) | (with_reducible refine Gx.alloc ?_) | (with_reducible refine Gx.drew ?_) | (with_reducible refine Gx.drewN ?_) | (with_reducible refine Gx.setRow ?_ (by first | omega | (simp; done) | (simp <;> omega))) | (with_reducible refine Gx.setCell ?_ (by first | omega | (simp; done) | (simp <;> omega))))), ?_, ?_, ?_, ?_, ?_, ?_, ?_, ?_, ?_, ?_, ?_, ?_⟩ <;> first | assumption | exact cell_keep_gx ‹_› | go_keep | (simp [go_sem]; done))
        (first
        | (go_at_call 7; refine (HI1.out _ (gxT G4 (by repeat (first | (with_reducible exact Gx.refl _) | (with_reducible assumption) | (with_reducible refine Gx.gx ?_) | (with_reducible refine Gx.alloc ?_) | (with_reducible refine Gx.drew ?_) | (with_reducible refine Gx.drewN ?_) | (with_reducible refine Gx.setRow ?_ (by first | omega | (simp; done) | (simp <;> omega))) | (with_reducible refine Gx.setCell ?_ (by first | omega | (simp; done) | (simp <;> omega))))))).mono ?_; rintro e w' ⟨rfl, x1, rfl⟩)
        | (go_at_call 8; refine (HI2.out _ (gxT G4 (by repeat (first | (with_reducible exact Gx.refl _) | (with_reducible assumption) | (with_reducible refine Gx.gx ?_) | (with_reducible refine Gx.alloc ?_) | (with_reducible refine Gx.drew ?_) | (with_reducible refine Gx.drewN ?_) | (with_reducible refine Gx.setRow ?_ (by first | omega | (simp; done) | (simp <;> omega))) | (with_reducible refine Gx.setCell ?_ (by first | omega | (simp; done) | (simp <;> omega))))))).mono ?_; rintro e w' ⟨rfl, x2, rfl⟩))
      all_goals go_wp2
      all_goals go_roundw
      all_goals first
        | (simp [intOf]; omega)
        | exact ⟨k + 1, by omega, by go_num, gxT G5 (by repeat (first | (with_reducible exact Gx.refl _) | (with_reducible assumption) | (with_reducible refine Gx.gx ?_) | (with_reducible refine Gx.alloc ?_) | (with_reducible refine Gx.drew ?_) | (with_reducible refine Gx.drewN ?_) | (with_reducible refine Gx.setRow ?_ (by first | omega | (simp; done) | (simp <;> omega))) | (with_reducible refine Gx.setCell ?_ (by first | omega | (simp; done) | (simp <;> omega)))))⟩
    · obtain rfl : k = n := by omega
      clear H1 H2 hL
      go_wp2_with (first
        | go_skip
        | (go_at_call 9; refine (H3.out _ (by repeat (first | (with_reducible exact Gx.refl _) | (with_reducible assumption) | (with_reducible refine Gx.gx ?_) | (with_reducible refine Gx.alloc ?_) | (with_reducible refine Gx.drew ?_) | (with_reducible refine Gx.drewN ?_) | (with_reducible refine Gx.setRow ?_ (by first | omega | (simp; done) | (simp <;> omega))) | (with_reducible refine Gx.setCell ?_ (by first | omega | (simp; done) | (simp <;> omega)))))).mono ?_; rintro e W1 ⟨A1, rfl, ⟨x1, rfl⟩, hm1⟩)
        | (go_at_call 10; refine (H4.out _ (by repeat (first | (with_reducible exact Gx.refl _) | (with_reducible assumption) | (with_reducible refine Gx.gx ?_) | (with_reducible refine Gx.alloc ?_) | (with_reducible refine Gx.drew ?_) | (with_reducible refine Gx.drewN ?_) | (with_reducible refine Gx.setRow ?_ (by first | omega | (simp; done) | (simp <;> omega))) | (with_reducible refine Gx.setCell ?_ (by first | omega | (simp; done) | (simp <;> omega)))))).mono ?_; rintro e W1 ⟨A2, rfl, ⟨x2, rfl⟩, hm2⟩))
      rw [gx_gx] at hm1
      have G9 : ∃ x, ((gx ((gx (w.alloc (.cells #[.slice A k c] 24)) (y.app x1)).alloc (.cells #[.int .i64 fr, .slice A1 m m] 32)) x2).alloc (.cells #[.int .i64 fr, .slice A2 m m] 32)) = gx w x := (by repeat (first | (with_reducible exact Gx.refl _) | (with_reducible assumption) | (with_reducible refine Gx.gx ?_) | (with_reducible refine Gx.alloc ?_) | (with_reducible refine Gx.drew ?_) | (with_reducible refine Gx.drewN ?_) | (with_reducible refine Gx.setRow ?_ (by first | omega | (simp; done) | (simp <;> omega))) | (with_reducible refine Gx.setCell ?_ (by first | omega | (simp; done) | (simp <;> omega)))))
      have m1 : MzAt (((gx ((gx (w.alloc (.cells #[.slice A k c] 24)) (y.app x1)).alloc (.cells #[.int .i64 fr, .slice A1 m m] 32)) x2).alloc (.cells #[.int .i64 fr, .slice A2 m m] 32))) m A1 := mzAt_of hm1 (by repeat (first | (with_reducible exact Gx.refl _) | (with_reducible assumption) | (with_reducible refine Gx.gx ?_) | (with_reducible refine Gx.alloc ?_) | (with_reducible refine Gx.drew ?_) | (with_reducible refine Gx.drewN ?_) | (with_reducible refine Gx.setRow ?_ (by first | omega | (simp; done) | (simp <;> omega))) | (with_reducible refine Gx.setCell ?_ (by first | omega | (simp; done) | (simp <;> omega)))))
      have m2 : MzAt (((gx ((gx (w.alloc (.cells #[.slice A k c] 24)) (y.app x1)).alloc (.cells #[.int .i64 fr, .slice A1 m m] 32)) x2).alloc (.cells #[.int .i64 fr, .slice A2 m m] 32))) m A2 := mzAt_of hm2 (by repeat (first | (with_reducible exact Gx.refl _) | (with_reducible assumption) | (with_reducible refine Gx.gx ?_) | (with_reducible refine Gx.alloc ?_) | (with_reducible refine Gx.drew ?_) | (with_reducible refine Gx.drewN ?_) | (with_reducible refine Gx.setRow ?_ (by first | omega | (simp; done) | (simp <;> omega))) | (with_reducible refine Gx.setCell ?_ (by first | omega | (simp; done) | (simp <;> omega)))))
      have hA0 : At (((gx ((gx (w.alloc (.cells #[.slice A k c] 24)) (y.app x1)).alloc (.cells #[.int .i64 fr, .slice A1 m m] 32)) x2).alloc (.cells #[.int .i64 fr, .slice A2 m m] 32))) (w.heap.size) (.cells #[.slice A k c] 24 (0, 0)) := by (focus (repeat (first | (with_reducible assumption) | (with_reducible exact At.new _ _) | (with_reducible refine At.row ?_) | ((with_reducible refine At.row_other ?_ ?_); rotate_left; (focus (simp <;> omega))) | (with_reducible refine At.app ?_) | (with_reducible refine At.tick ?_) | (with_reducible refine At.gx ?_) | ((with_reducible refine At.new' ?_); focus (simp; done)) | (with_reducible refine At.alloc ?_) | (with_reducible refine At.drew ?_) | (with_reducible exact Is.new _ _ _) | (with_reducible refine Is.row ?_) | ((with_reducible refine Is.row_other ?_ ?_); rotate_left; (focus (simp <;> omega))) | (with_reducible refine Is.gx ?_) | ((with_reducible refine Is.new' ?_); focus (simp; done)) | (with_reducible refine Is.alloc ?_) | (with_reducible refine Is.drew ?_))))
      have p0 : World.cell? (((gx ((gx (w.alloc (.cells #[.slice A k c] 24)) (y.app x1)).alloc (.cells #[.int .i64 fr, .slice A1 m m] 32)) x2).alloc (.cells #[.int .i64 fr, .slice A2 m m] 32))) ⟨w.heap.size, 0, none⟩ = some (.slice A k c) := by rw [cell_of_row _ _ _ _ _ _ hA0]; rfl
      have hA1 : At (((gx ((gx (w.alloc (.cells #[.slice A k c] 24)) (y.app x1)).alloc (.cells #[.int .i64 fr, .slice A1 m m] 32)) x2).alloc (.cells #[.int .i64 fr, .slice A2 m m] 32))) (w.heap.size + 1 + (y.app x1).n) (.cells #[.int .i64 fr, .slice A1 m m] 32 (0, 0)) := by (focus (repeat (first | (with_reducible assumption) | (with_reducible exact At.new _ _) | (with_reducible refine At.row ?_) | ((with_reducible refine At.row_other ?_ ?_); rotate_left; (focus (simp <;> omega))) | (with_reducible refine At.app ?_) | (with_reducible refine At.tick ?_) | (with_reducible refine At.gx ?_) | ((with_reducible refine At.new' ?_); focus (simp; done)) | (with_reducible refine At.alloc ?_) | (with_reducible refine At.drew ?_) | (with_reducible exact Is.new _ _ _) | (with_reducible refine Is.row ?_) | ((with_reducible refine Is.row_other ?_ ?_); rotate_left; (focus (simp <;> omega))) | (with_reducible refine Is.gx ?_) | ((with_reducible refine Is.new' ?_); focus (simp; done)) | (with_reducible refine Is.alloc ?_) | (with_reducible refine Is.drew ?_))))
      have p1 : World.cell? (((gx ((gx (w.alloc (.cells #[.slice A k c] 24)) (y.app x1)).alloc (.cells #[.int .i64 fr, .slice A1 m m] 32)) x2).alloc (.cells #[.int .i64 fr, .slice A2 m m] 32))) ⟨w.heap.size + 1 + (y.app x1).n, 0, none⟩ = some (.int .i64 fr) := by rw [cell_of_row _ _ _ _ _ _ hA1]; rfl
      have p2 : World.cell? (((gx ((gx (w.alloc (.cells #[.slice A k c] 24)) (y.app x1)).alloc (.cells #[.int .i64 fr, .slice A1 m m] 32)) x2).alloc (.cells #[.int .i64 fr, .slice A2 m m] 32))) ⟨w.heap.size + 1 + (y.app x1).n, 1, none⟩ = some (.slice A1 m m) := by rw [cell_of_row _ _ _ _ _ _ hA1]; rfl
      have hA3 : At (((gx ((gx (w.alloc (.cells #[.slice A k c] 24)) (y.app x1)).alloc (.cells #[.int .i64 fr, .slice A1 m m] 32)) x2).alloc (.cells #[.int .i64 fr, .slice A2 m m] 32))) (w.heap.size + 1 + (y.app x1).n + 1 + x2.n) (.cells #[.int .i64 fr, .slice A2 m m] 32 (0, 0)) := by (focus (repeat (first | (with_reducible assumption) | (with_reducible exact At.new _ _) | (with_reducible refine At.row ?_) | ((with_reducible refine At.row_other ?_ ?_); rotate_left; (focus (simp <;> omega))) | (with_reducible refine At.app ?_) | (with_reducible refine At.tick ?_) | (with_reducible refine At.gx ?_) | ((with_reducible refine At.new' ?_); focus (simp; done)) | (with_reducible refine At.alloc ?_) | (with_reducible refine At.drew ?_) | (with_reducible exact Is.new _ _ _) | (with_reducible refine Is.row ?_) | ((with_reducible refine Is.row_other ?_ ?_); rotate_left; (focus (simp <;> omega))) | (with_reducible refine Is.gx ?_) | ((with_reducible refine Is.new' ?_); focus (simp; done)) | (with_reducible refine Is.alloc ?_) | (with_reducible refine Is.drew ?_))))
      have p3 : World.cell? (((gx ((gx (w.alloc (.cells #[.slice A k c] 24)) (y.app x1)).alloc (.cells #[.int .i64 fr, .slice A1 m m] 32)) x2).alloc (.cells #[.int .i64 fr, .slice A2 m m] 32))) ⟨w.heap.size + 1 + (y.app x1).n + 1 + x2.n, 0, none⟩ = some (.int .i64 fr) := by rw [cell_of_row _ _ _ _ _ _ hA3]; rfl
      have p4 : World.cell? (((gx ((gx (w.alloc (.cells #[.slice A k c] 24)) (y.app x1)).alloc (.cells #[.int .i64 fr, .slice A1 m m] 32)) x2).alloc (.cells #[.int .i64 fr, .slice A2 m m] 32))) ⟨w.heap.size + 1 + (y.app x1).n + 1 + x2.n, 1, none⟩ = some (.slice A2 m m) := by rw [cell_of_row _ _ _ _ _ _ hA3]; rfl
      generalize ((gx ((gx (w.alloc (.cells #[.slice A k c] 24)) (y.app x1)).alloc (.cells #[.int .i64 fr, .slice A1 m m] 32)) x2).alloc (.cells #[.int .i64 fr, .slice A2 m m] 32)) = Wc at *
      generalize w.heap.size + 1 + (y.app x1).n + 1 + x2.n = g7 at *
      generalize w.heap.size + 1 + (y.app x1).n = g5 at *
      generalize w.heap.size = g1 at *
      clear hm1 hm2 hA0 hA1 hA3
      go_region_held3 (fun W => (∃ x, W = gx Wc x) ∧ W.cell? ⟨g1, 0, none⟩ = some (.slice A k c) ∧ W.cell? ⟨g5, 0, none⟩ = some (.int .i64 fr) ∧ W.cell? ⟨g5, 1, none⟩ = some (.slice A1 m m) ∧ W.cell? ⟨g7, 0, none⟩ = some (.int .i64 fr) ∧ W.cell? ⟨g7, 1, none⟩ = some (.slice A2 m m) ∧ MzAt W m A1 ∧ MzAt W m A2)
        (refine ⟨(by repeat (first | (with_reducible exact Gx.refl _) | (with_reducible assumption) | (with_reducible refine Gx.gx ?_) | (with_reducible refine Gx.alloc ?_) | (with_reducible refine Gx.drew ?_) | (with_reducible refine Gx.drewN ?_) | (with_reducible refine Gx.setRow ?_ (by first | omega | (simp; done) | (simp <;> omega))) | (with_reducible refine Gx.setCell ?_ (by first | omega | (simp; done) | (simp <;> omega))))), ?_, ?_, ?_, ?_, ?_, ?_, ?_⟩ <;> first | assumption | exact cell_keep_gx ‹_› | exact MzAt.gx ‹_› | exact mzAt_of m1 (by repeat (first | (with_reducible exact Gx.refl _) | (with_reducible assumption) | (with_reducible refine Gx.gx ?_) | (with_reducible refine Gx.alloc ?_) | (with_reducible refine Gx.drew ?_) | (with_reducible refine Gx.drewN ?_) | (with_reducible refine Gx.setRow ?_ (by first | omega | (simp; done) | (simp <;> omega))) | (with_reducible refine Gx.setCell ?_ (by first | omega | (simp; done) | (simp <;> omega))))) | exact mzAt_of m2 (by repeat (first | (with_reducible exact Gx.refl _) | (with_reducible assumption) | (with_reducible refine Gx.gx ?_) | (with_reducible refine Gx.alloc ?_) | (with_reducible refine Gx.drew ?_) | (with_reducible refine Gx.drewN ?_) | (with_reducible refine Gx.setRow ?_ (by first | omega | (simp; done) | (simp <;> omega))) | (with_reducible refine Gx.setCell ?_ (by first | omega | (simp; done) | (simp <;> omega))))) | go_keep | (simp [go_sem]; done))
        (first
        | (go_at_call 11; refine (H5.out _ (gxT G9 (by repeat (first | (with_reducible exact Gx.refl _) | (with_reducible assumption) | (with_reducible refine Gx.gx ?_) | (with_reducible refine Gx.alloc ?_) | (with_reducible refine Gx.drew ?_) | (with_reducible refine Gx.drewN ?_) | (with_reducible refine Gx.setRow ?_ (by first | omega | (simp; done) | (simp <;> omega))) | (with_reducible refine Gx.setCell ?_ (by first | omega | (simp; done) | (simp <;> omega))))))).mono ?_; rintro e w' ⟨rfl, x3, rfl⟩)
        | (go_at_call 12; refine (H6.out _ (gxT G9 (by repeat (first | (with_reducible exact Gx.refl _) | (with_reducible assumption) | (with_reducible refine Gx.gx ?_) | (with_reducible refine Gx.alloc ?_) | (with_reducible refine Gx.drew ?_) | (with_reducible refine Gx.drewN ?_) | (with_reducible refine Gx.setRow ?_ (by first | omega | (simp; done) | (simp <;> omega))) | (with_reducible refine Gx.setCell ?_ (by first | omega | (simp; done) | (simp <;> omega))))))).mono ?_; rintro e w' ⟨rfl, x4, rfl⟩)
        | (go_at_call 13; refine (HS.out _ _ _ (mzAt_of m1 (by repeat (first | (with_reducible exact Gx.refl _) | (with_reducible assumption) | (with_reducible refine Gx.gx ?_) | (with_reducible refine Gx.alloc ?_) | (with_reducible refine Gx.drew ?_) | (with_reducible refine Gx.drewN ?_) | (with_reducible refine Gx.setRow ?_ (by first | omega | (simp; done) | (simp <;> omega))) | (with_reducible refine Gx.setCell ?_ (by first | omega | (simp; done) | (simp <;> omega)))))) (mzAt_of m2 (by repeat (first | (with_reducible exact Gx.refl _) | (with_reducible assumption) | (with_reducible refine Gx.gx ?_) | (with_reducible refine Gx.alloc ?_) | (with_reducible refine Gx.drew ?_) | (with_reducible refine Gx.drewN ?_) | (with_reducible refine Gx.setRow ?_ (by first | omega | (simp; done) | (simp <;> omega))) | (with_reducible refine Gx.setCell ?_ (by first | omega | (simp; done) | (simp <;> omega))))))).mono ?_; rintro e w' ⟨rfl, x5, rfl⟩)
        | (go_at_call 14; refine (shown_any _).mono ?_; rintro e w' ⟨rfl, x6, rfl⟩))
      all_goals go_wp2
      all_goals go_ret
      all_goals exact ⟨rfl, gxT G9 (by repeat (first | (with_reducible exact Gx.refl _) | (with_reducible assumption) | (with_reducible refine Gx.gx ?_) | (with_reducible refine Gx.alloc ?_) | (with_reducible refine Gx.drew ?_) | (with_reducible refine Gx.drewN ?_) | (with_reducible refine Gx.setRow ?_ (by first | omega | (simp; done) | (simp <;> omega))) | (with_reducible refine Gx.setCell ?_ (by first | omega | (simp; done) | (simp <;> omega)))))⟩
theorem checkLaw (J : Nat → InR) (A : Option Addr) (n c : Nat) (hnc : n ≤ c ∧ c ≤ 9223372036854775807) (hJ : ∀ k, k < n → (J k).fits) (w : World) (hL : InsAt w J n A) :
    Calls Tryz.prog 3 #[.agg #[.slice A n c]] w fun e w' => e = .returned (.bool true) ∧ ∃ x, w' = gx w x := by
  have key : ∀ k : Nat, ∃ E : Int, k < n → (∀ W, ZnAt W (J k).z (J k).zn (J k).Z → Calls Tryz.prog 7 #[(J k).v] W fun e W' => e = .returned (.int .i64 E) ∧ ∃ x, W' = gx W x) ∧ (∀ W, ZnAt W (J k).z (J k).zn (J k).Z → Calls Tryz.prog 8 #[(J k).v] W fun e W' => e = .returned (.int .i64 E) ∧ ∃ x, W' = gx W x) := fun k => by
    by_cases hk : k < n
    · obtain ⟨E, h1, h2, -⟩ := Ins_both (J k) (hJ k hk)
      exact ⟨E, fun _ => ⟨h1, h2⟩⟩
    · exact ⟨0, fun h => absurd h hk⟩
  obtain ⟨E, hE⟩ := Classical.axiomOfChoice key
  obtain ⟨D, hD⟩ := dup_is J
  have hz : ∀ k, k < n → ∀ W, (∃ x, W = gx w x) → ZnAt W (J k).z (J k).zn (J k).Z := fun k hk W hW => by
    obtain ⟨x, rfl⟩ := hW
    obtain ⟨b0, o0, -, -, -, HZ⟩ := hL.get (by omega)
    exact (HZ.out k hk).gx
  have H1 := Lib.hid (fun k (hk : k < n) W (hW : ∃ x, W = gx w x) => (hE k hk).1 W (hz k hk W hW))
  have H2 := Lib.hid (fun k (hk : k < n) W (hW : ∃ x, W = gx w x) => (hE k hk).2 W (hz k hk W hW))
  have hL' : ∀ W, (∃ x, W = gx w x) → InsAt W J n A := fun W hW => by obtain ⟨x, rfl⟩ := hW; exact hL.gx
  by_cases hn : n ≤ 100
  · have HC := Lib.hid (fun k (hk : k < n) W gi (hW : ∃ x, W = gx w x) (hv : W.cell? ⟨gi, 1, none⟩ = some (.string (J k).nm)) => ContainsN_any J A k c gi (J k).nm (D k) W ((hL' W hW).less (by omega)) (by omega) hv (hD k))
    have K1 : ∀ W, (∃ x, W = gx w x) → Calls Tryz.prog 11 #[.agg #[.slice A n c]] W fun e W' => e = .returned (.int .i64 (firstOf (badI E D) n)) ∧ ∃ x, W' = gx W x := fun W hW => Check_loop J A n c hnc.1 E D W (hL' W hW) hn (Lib.hid fun k hk W' hW' => H1.out k hk W' (gxT hW hW')) (Lib.hid fun k hk W' gi hW' hv => HC.out k hk W' gi (gxT hW hW') hv)
    have K2 : ∀ W, (∃ x, W = gx w x) → Calls Tryz.prog 12 #[.agg #[.slice A n c]] W fun e W' => e = .returned (.int .i64 (firstOf (badI E D) n)) ∧ ∃ x, W' = gx W x := fun W hW => RCheck_loop J A n c hnc.1 E D W (hL' W hW) hn (Lib.hid fun k hk W' hW' => H2.out k hk W' (gxT hW hW')) (Lib.hid fun k _ => hD k)
    generalize firstOf (badI E D) n = e0 at *
    by_cases h0 : e0 = 0
    · subst h0
      exact ck_core J A n c n hnc E 0 (-1) w hL H1 H2 (Lib.hid fun W hW => First_b A n c hn W (Lib.hid fun W' hW' => K1 W' (gxT hW hW'))) (Lib.hid fun W hW => RFirst_b A n c hn W (Lib.hid fun W' hW' => K2 W' (gxT hW hW'))) (Lib.hid K1) (Lib.hid K2) (Lib.hid fun W A' B' hA hB => sameState_z (-1) n hn A' B' W hA hB)
    · exact ck_core J A n c 0 hnc E e0 0 w hL H1 H2 (Lib.hid fun W hW => (First_a A n c W e0 h0 (Lib.hid fun W' hW' => K1 W' (gxT hW hW'))).mono fun e W' h => ⟨none, h.1, h.2, mzAt_0 _ _⟩) (Lib.hid fun W hW => (RFirst_a A n c W e0 h0 (Lib.hid fun W' hW' => K2 W' (gxT hW hW'))).mono fun e W' h => ⟨none, h.1, h.2, mzAt_0 _ _⟩) (Lib.hid K1) (Lib.hid K2) (Lib.hid fun W A' B' hA hB => sameState_z 0 0 (by omega) A' B' W hA hB)
  · have K1 : ∀ W, (∃ x, W = gx w x) → Calls Tryz.prog 11 #[.agg #[.slice A n c]] W fun e W' => e = .returned (.int .i64 3) ∧ ∃ x, W' = gx W x := fun W _ => Check_big A n c W (by omega)
    have K2 : ∀ W, (∃ x, W = gx w x) → Calls Tryz.prog 12 #[.agg #[.slice A n c]] W fun e W' => e = .returned (.int .i64 3) ∧ ∃ x, W' = gx W x := fun W _ => RCheck_big A n c W (by omega)
    exact ck_core J A n c 0 hnc E 3 0 w hL H1 H2 (Lib.hid fun W hW => (First_a A n c W 3 (by decide) (Lib.hid fun W' hW' => K1 W' (gxT hW hW'))).mono fun e W' h => ⟨none, h.1, h.2, mzAt_0 _ _⟩) (Lib.hid fun W hW => (RFirst_a A n c W 3 (by decide) (Lib.hid fun W' hW' => K2 W' (gxT hW hW'))).mono fun e W' h => ⟨none, h.1, h.2, mzAt_0 _ _⟩) (Lib.hid K1) (Lib.hid K2) (Lib.hid fun W A' B' hA hB => sameState_z 0 0 (by omega) A' B' W hA hB)
end Go.Proofs.YtocaphcnnmcnjaaGreatDoor
