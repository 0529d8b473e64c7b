/-
  One grain: what is coarse, and what is wrong with a mask that has this grain alone.
-/
import Derived.Test.YtfbhjgaiejjfaaaSFlo
import Derived.Test.YtfbhjgaiejjfaaaFPk2
namespace Go.Proofs.Ytfbhjgaiejjfaaa
open Go.RowKit
-- AT2
-- AT3

/-- The greatest multiple of n that is not above N. -/
theorem crs_in {N n : Int} (h : 1 ≤ n) : N - n < fl N n * n ∧ fl N n * n ≤ N := by
  have := fl_pos (a := N) (b := n) (by omega)
  rw [Int.mul_comm]
  omega
theorem fl_one (N : Int) : fl N 1 * 1 = N := by
  have := crs_in (N := N) (n := 1) (by omega)
  omega
set_option maxHeartbeats 4000000 in
set_option maxRecDepth 100000 in
theorem coarse_any (N n : Int) (h1 : 1 ≤ n) (h2 : n ≤ 1125899906842624) (h3 : -1125899906842624 ≤ N) (h4 : N ≤ 1125899906842624) (w : World) :
    Calls Try.prog 32 #[.int .i64 N, .int .i64 n] w fun e w' => e = .returned (.int .i64 (fl N n * n)) ∧ w = w' := by
  have HF := Lib.hid (fun W => floor_any N n W (by omega) (by omega) (by omega))
  have hb := crs_in (N := N) h1
  have e1 : IntKind.i64.wrap (fl N n * n) = fl N n * n := IntWalk.i64_in _ (by omega)
  generalize fl N n = q at *
  clear hb h1 h2 h3 h4
  go_enter Try.func32, Try.ntmps32
  go_wp2_with (first | go_skip | (go_at_call 47; refine (HF.out _).mono ?_; rintro e w' ⟨rfl, rfl⟩))
  go_ret
  exact ⟨rfl, rfl⟩
/-- A grain lies in a block of its own. -/
structure GrAt (w : World) (gg : Nat) (b : ByteArray) (n : Int) : Prop where
  c0 : w.cell? ⟨gg, 0, none⟩ = some (.string b)
  c1 : w.cell? ⟨gg, 1, none⟩ = some (.int .i64 n)
theorem GrAt.on {w W : World} {gg : Nat} {b : ByteArray} {n : Int} (h : GrAt w gg b n) (hW : ∃ x, W = Go.Proofs.Ytfbhjgaiejjfaaa.gx w x) : GrAt W gg b n := by
  obtain ⟨x, rfl⟩ := hW; exact ⟨cell_keep_gx h.c0, cell_keep_gx h.c1⟩
set_option maxHeartbeats 4000000 in
set_option maxRecDepth 100000 in
theorem isG_any (b : ByteArray) (n : Int) (gi : Nat) (s : ByteArray) (B : Bool) (w : World) (hv : w.cell? ⟨gi, 0, none⟩ = some (.string s)) (h1 : (b.toList == s.toList) = B) :
    Calls Try.prog 57 #[.agg #[.string b, .int .i64 n], .pointer (some ⟨gi, 0, none⟩)] w fun e w' => e = .returned (.bool B) ∧ ∃ x, w' = gx w x := by
  have hg : gi < w.heap.size := World.block_lt_of_cell? w _ hv
  go_enter Try.func57, Try.ntmps57
  go_wp2
  go_ret
  exact ⟨by first | rfl | (rw [h1]; done) | simp [h1], (by repeat (first | (with_reducible exact Gx.refl _) | (with_reducible assumption) | (with_reducible refine Gx.gx ?_) | (with_reducible refine Gx.alloc ?_) | (with_reducible refine Gx.drew ?_) | (with_reducible refine Gx.drewN ?_) | (with_reducible refine Gx.setRow ?_ (by first | omega | (simp; done) | (simp <;> omega))) | (with_reducible refine Gx.setCell ?_ (by first | omega | (simp; done) | (simp <;> omega)))))⟩
set_option maxHeartbeats 4000000 in
set_option maxRecDepth 100000 in
theorem IndexG_0 (A : Option Addr) (c : Nat) (f : Value) (w : World) :
    Calls Try.prog 56 #[.slice A 0 c, f] w fun e w' => e = .returned (.int .i64 (-1)) ∧ ∃ x, w' = gx w x := by
  go_enter Try.func56, Try.ntmps56
  go_wp2
  refine wp_loop_rounds 1 ?_
  rw [rounds_succ]
  go_wp2
  go_ret
  exact ⟨rfl, (by repeat (first | (with_reducible exact Gx.refl _) | (with_reducible assumption) | (with_reducible refine Gx.gx ?_) | (with_reducible refine Gx.alloc ?_) | (with_reducible refine Gx.drew ?_) | (with_reducible refine Gx.drewN ?_) | (with_reducible refine Gx.setRow ?_ (by first | omega | (simp; done) | (simp <;> omega))) | (with_reducible refine Gx.setCell ?_ (by first | omega | (simp; done) | (simp <;> omega)))))⟩
set_option maxHeartbeats 4000000 in
set_option maxRecDepth 100000 in
theorem IndexG_1 (gg : Nat) (b : ByteArray) (n : Int) (gi : Nat) (s : ByteArray) (w : World) (h : GrAt w gg b n) (hv : w.cell? ⟨gi, 0, none⟩ = some (.string s)) (r : Int) (hr : (b = s ∧ r = 0) ∨ (b ≠ s ∧ r = -1)) :
    Calls Try.prog 56 #[.slice (some ⟨gg, 0, none⟩) 1 1, .func (.func 57) #[] #[.pointer (some ⟨gi, 0, none⟩)]] w fun e w' => e = .returned (.int .i64 r) ∧ ∃ x, w' = gx w x := by
  have hb : gg < w.heap.size := World.block_lt_of_cell? w _ h.c0
  obtain ⟨c0, c1⟩ := h
  rcases hr with ⟨he, rfl⟩ | ⟨he, rfl⟩
  · have HM := Lib.hid (fun W (hW : ∃ x, W = gx w x) => isG_any b n gi s true W (by obtain ⟨x, rfl⟩ := hW; exact cell_keep_gx hv) (eqS he))
    clear hv he
    go_enter Try.func56, Try.ntmps56
    go_wp2
    refine wp_loop_rounds 2 ?_
    rw [rounds_succ]
    go_wp2_with (first | (go_at_call 57; refine (HM.out _ (by repeat (first | (with_reducible exact Gx.refl _) | (with_reducible assumption) | (with_reducible refine Gx.gx ?_) | (with_reducible refine Gx.alloc ?_) | (with_reducible refine Gx.drew ?_) | (with_reducible refine Gx.drewN ?_) | (with_reducible refine Gx.setRow ?_ (by first | omega | (simp; done) | (simp <;> omega))) | (with_reducible refine Gx.setCell ?_ (by first | omega | (simp; done) | (simp <;> omega)))))).mono ?_; rintro e w' ⟨rfl, x1, rfl⟩))
    go_ret
    exact ⟨rfl, (by repeat (first | (with_reducible exact Gx.refl _) | (with_reducible assumption) | (with_reducible refine Gx.gx ?_) | (with_reducible refine Gx.alloc ?_) | (with_reducible refine Gx.drew ?_) | (with_reducible refine Gx.drewN ?_) | (with_reducible refine Gx.setRow ?_ (by first | omega | (simp; done) | (simp <;> omega))) | (with_reducible refine Gx.setCell ?_ (by first | omega | (simp; done) | (simp <;> omega)))))⟩
  · have HM := Lib.hid (fun W (hW : ∃ x, W = gx w x) => isG_any b n gi s false W (by obtain ⟨x, rfl⟩ := hW; exact cell_keep_gx hv) (neS he))
    clear hv he
    go_enter Try.func56, Try.ntmps56
    go_wp2
    refine wp_loop_rounds 2 ?_
    rw [rounds_succ]
    go_wp2_with (first | (go_at_call 57; refine (HM.out _ (by repeat (first | (with_reducible exact Gx.refl _) | (with_reducible assumption) | (with_reducible refine Gx.gx ?_) | (with_reducible refine Gx.alloc ?_) | (with_reducible refine Gx.drew ?_) | (with_reducible refine Gx.drewN ?_) | (with_reducible refine Gx.setRow ?_ (by first | omega | (simp; done) | (simp <;> omega))) | (with_reducible refine Gx.setCell ?_ (by first | omega | (simp; done) | (simp <;> omega)))))).mono ?_; rintro e w' ⟨rfl, x1, rfl⟩))
    rw [rounds_succ]
    go_wp2
    go_ret
    exact ⟨rfl, (by repeat (first | (with_reducible exact Gx.refl _) | (with_reducible assumption) | (with_reducible refine Gx.gx ?_) | (with_reducible refine Gx.alloc ?_) | (with_reducible refine Gx.drew ?_) | (with_reducible refine Gx.drewN ?_) | (with_reducible refine Gx.setRow ?_ (by first | omega | (simp; done) | (simp <;> omega))) | (with_reducible refine Gx.setCell ?_ (by first | omega | (simp; done) | (simp <;> omega)))))⟩
set_option maxHeartbeats 4000000 in
set_option maxRecDepth 100000 in
theorem grainNumber_0 (A : Option Addr) (c : Nat) (s : ByteArray) (w : World) :
    Calls Try.prog 46 #[.slice A 0 c, .string s] w fun e w' => e = .returned (.int .i64 (-1)) ∧ ∃ x, w' = gx w x := by
  go_enter Try.func46, Try.ntmps46
  go_wp2_with (first | (go_at_call 56; refine (IndexG_0 _ _ _ _).mono ?_; rintro e w' ⟨rfl, x1, rfl⟩))
  go_ret
  exact ⟨rfl, (by repeat (first | (with_reducible exact Gx.refl _) | (with_reducible assumption) | (with_reducible refine Gx.gx ?_) | (with_reducible refine Gx.alloc ?_) | (with_reducible refine Gx.drew ?_) | (with_reducible refine Gx.drewN ?_) | (with_reducible refine Gx.setRow ?_ (by first | omega | (simp; done) | (simp <;> omega))) | (with_reducible refine Gx.setCell ?_ (by first | omega | (simp; done) | (simp <;> omega)))))⟩
set_option maxHeartbeats 4000000 in
set_option maxRecDepth 100000 in
theorem grainNumber_1 (gg : Nat) (b : ByteArray) (n : Int) (s : ByteArray) (w : World) (h : GrAt w gg b n) (r : Int) (hr : (b = s ∧ r = 0) ∨ (b ≠ s ∧ r = -1)) :
    Calls Try.prog 46 #[.slice (some ⟨gg, 0, none⟩) 1 1, .string s] w fun e w' => e = .returned (.int .i64 r) ∧ ∃ x, w' = gx w x := by
  have HI := Lib.hid (fun W gi (hW : ∃ x, W = gx w x) hv => IndexG_1 gg b n gi s W (h.on hW) hv r hr)
  clear hr h
  go_enter Try.func46, Try.ntmps46
  go_wp2_with (first | (go_at_call 56; refine (HI.out _ _ (by repeat (first | (with_reducible exact Gx.refl _) | (with_reducible assumption) | (with_reducible refine Gx.gx ?_) | (with_reducible refine Gx.alloc ?_) | (with_reducible refine Gx.drew ?_) | (with_reducible refine Gx.drewN ?_) | (with_reducible refine Gx.setRow ?_ (by first | omega | (simp; done) | (simp <;> omega))) | (with_reducible refine Gx.setCell ?_ (by first | omega | (simp; done) | (simp <;> omega))))) (by first | assumption | exact cell_keep_gx ‹_› | go_keep | (simp [go_sem]; done))).mono ?_; rintro e w' ⟨rfl, x1, rfl⟩))
  go_ret
  exact ⟨rfl, (by repeat (first | (with_reducible exact Gx.refl _) | (with_reducible assumption) | (with_reducible refine Gx.gx ?_) | (with_reducible refine Gx.alloc ?_) | (with_reducible refine Gx.drew ?_) | (with_reducible refine Gx.drewN ?_) | (with_reducible refine Gx.setRow ?_ (by first | omega | (simp; done) | (simp <;> omega))) | (with_reducible refine Gx.setCell ?_ (by first | omega | (simp; done) | (simp <;> omega)))))⟩
set_option maxHeartbeats 4000000 in
set_option maxRecDepth 100000 in
theorem checkHidden_0 (w : World) : Calls Try.prog 29 #[.slice none 0 0] w fun e w' => e = .returned (.int .i64 0) ∧ ∃ x, w' = gx w x := by
  go_enter Try.func29, Try.ntmps29
  go_wp2
  refine wp_loop_rounds 1 ?_
  rw [rounds_succ]
  go_wp2
  go_ret
  exact ⟨rfl, (by repeat (first | (with_reducible exact Gx.refl _) | (with_reducible assumption) | (with_reducible refine Gx.gx ?_) | (with_reducible refine Gx.alloc ?_) | (with_reducible refine Gx.drew ?_) | (with_reducible refine Gx.drewN ?_) | (with_reducible refine Gx.setRow ?_ (by first | omega | (simp; done) | (simp <;> omega))) | (with_reducible refine Gx.setCell ?_ (by first | omega | (simp; done) | (simp <;> omega)))))⟩
theorem isLeast_1 (w : World) : Calls Try.prog 31 #[.int .i64 1] w fun e w' => e = .returned (.bool true) ∧ ∃ x, w' = gx w x := by
  go_enter Try.func31, Try.ntmps31
  go_wp2
  go_ret
  exact ⟨rfl, (by repeat (first | (with_reducible exact Gx.refl _) | (with_reducible assumption) | (with_reducible refine Gx.gx ?_) | (with_reducible refine Gx.alloc ?_) | (with_reducible refine Gx.drew ?_) | (with_reducible refine Gx.drewN ?_) | (with_reducible refine Gx.setRow ?_ (by first | omega | (simp; done) | (simp <;> omega))) | (with_reducible refine Gx.setCell ?_ (by first | omega | (simp; done) | (simp <;> omega)))))⟩
set_option maxHeartbeats 4000000 in
set_option maxRecDepth 100000 in
theorem checkGrains_n (gg : Nat) (b : ByteArray) (n : Int) (w : World) (h : GrAt w gg b n) (HN : Hid (∀ W, Calls Try.prog 9 #[.string b] W fun e W' => e = .returned (.bool false) ∧ ∃ x, W' = gx W x)) :
    Calls Try.prog 30 #[.slice (some ⟨gg, 0, none⟩) 1 1] w fun e w' => e = .returned (.int .i64 8) ∧ ∃ x, w' = gx w x := by
  have hb : gg < w.heap.size := World.block_lt_of_cell? w _ h.c0
  obtain ⟨c0, c1⟩ := h
  go_enter Try.func30, Try.ntmps30
  go_wp2
  refine wp_loop_rounds 2 ?_
  rw [rounds_succ]
  go_wp2_with (first | go_skip | (go_at_call 9; refine (HN.out _).mono ?_; rintro e w' ⟨rfl, x1, rfl⟩))
  go_ret
  exact ⟨rfl, (by repeat (first | (with_reducible exact Gx.refl _) | (with_reducible assumption) | (with_reducible refine Gx.gx ?_) | (with_reducible refine Gx.alloc ?_) | (with_reducible refine Gx.drew ?_) | (with_reducible refine Gx.drewN ?_) | (with_reducible refine Gx.setRow ?_ (by first | omega | (simp; done) | (simp <;> omega))) | (with_reducible refine Gx.setCell ?_ (by first | omega | (simp; done) | (simp <;> omega)))))⟩
set_option maxHeartbeats 4000000 in
set_option maxRecDepth 100000 in
theorem checkGrains_b (gg : Nat) (b : ByteArray) (n : Int) (w : World) (h : GrAt w gg b n) (HN : Hid (∀ W, Calls Try.prog 9 #[.string b] W fun e W' => e = .returned (.bool true) ∧ ∃ x, W' = gx W x)) (hn : 1 ≤ n ∧ 1125899906842624 < n) :
    Calls Try.prog 30 #[.slice (some ⟨gg, 0, none⟩) 1 1] w fun e w' => e = .returned (.int .i64 9) ∧ ∃ x, w' = gx w x := by
  have hb : gg < w.heap.size := World.block_lt_of_cell? w _ h.c0
  obtain ⟨c0, c1⟩ := h
  have k1 : decide (n < 1) = false := decide_eq_false (by omega)
  have k2 : decide (1125899906842624 < n) = true := decide_eq_true (by omega)
  clear hn
  go_enter Try.func30, Try.ntmps30
  go_wp2
  refine wp_loop_rounds 2 ?_
  rw [rounds_succ]
  go_wp2_with (first | go_skip | (go_at_call 9; refine (HN.out _).mono ?_; rintro e w' ⟨rfl, x1, rfl⟩))
  have hA : At (gx (w.alloc (.cells #[.string b, .int .i64 n] 30)) x1) w.heap.size (.cells #[.string b, .int .i64 n] 30 (0, 0)) := by (focus (repeat (first | (with_reducible assumption) | (with_reducible exact At.new _ _) | (with_reducible refine At.row ?_) | ((with_reducible refine At.row_other ?_ ?_); rotate_left; (focus (simp <;> omega))) | (with_reducible refine At.app ?_) | (with_reducible refine At.tick ?_) | (with_reducible refine At.gx ?_) | ((with_reducible refine At.new' ?_); focus (simp; done)) | (with_reducible refine At.alloc ?_) | (with_reducible refine At.drew ?_) | (with_reducible exact Is.new _ _ _) | (with_reducible refine Is.row ?_) | ((with_reducible refine Is.row_other ?_ ?_); rotate_left; (focus (simp <;> omega))) | (with_reducible refine Is.gx ?_) | ((with_reducible refine Is.new' ?_); focus (simp; done)) | (with_reducible refine Is.alloc ?_) | (with_reducible refine Is.drew ?_))))
  have G8 : ∃ x, (gx (w.alloc (.cells #[.string b, .int .i64 n] 30)) x1) = gx w x := (by repeat (first | (with_reducible exact Gx.refl _) | (with_reducible assumption) | (with_reducible refine Gx.gx ?_) | (with_reducible refine Gx.alloc ?_) | (with_reducible refine Gx.drew ?_) | (with_reducible refine Gx.drewN ?_) | (with_reducible refine Gx.setRow ?_ (by first | omega | (simp; done) | (simp <;> omega))) | (with_reducible refine Gx.setCell ?_ (by first | omega | (simp; done) | (simp <;> omega)))))
  have q0 : World.cell? (gx (w.alloc (.cells #[.string b, .int .i64 n] 30)) x1) ⟨w.heap.size, 0, none⟩ = some (.string b) := by rw [cell_of_row _ _ _ _ _ _ hA]; rfl
  have q1 : World.cell? (gx (w.alloc (.cells #[.string b, .int .i64 n] 30)) x1) ⟨w.heap.size, 1, none⟩ = some (.int .i64 n) := by rw [cell_of_row _ _ _ _ _ _ hA]; rfl
  have l8 := hA.lt
  have hb8 : gg < (gx (w.alloc (.cells #[.string b, .int .i64 n] 30)) x1).heap.size := by simp; omega
  have c08 : World.cell? (gx (w.alloc (.cells #[.string b, .int .i64 n] 30)) x1) ⟨gg, 0, none⟩ = some (.string b) := cell_keep_gx (cell_keep_alloc c0)
  have c18 : World.cell? (gx (w.alloc (.cells #[.string b, .int .i64 n] 30)) x1) ⟨gg, 1, none⟩ = some (.int .i64 n) := cell_keep_gx (cell_keep_alloc c1)
  clear hA c0 c1
  generalize (gx (w.alloc (.cells #[.string b, .int .i64 n] 30)) x1) = Wc at *
  generalize w.heap.size = gi at *
  go_region_held3 (fun W => (∃ x, W = gx Wc x) ∧ W.cell? ⟨gi, 0, none⟩ = some (.string b) ∧ W.cell? ⟨gi, 1, none⟩ = some (.int .i64 n)) (refine ⟨(by repeat (first | (with_reducible exact Gx.refl _) | (with_reducible assumption) | (with_reducible refine Gx.gx ?_) | (with_reducible refine Gx.alloc ?_) | (with_reducible refine Gx.drew ?_) | (with_reducible refine Gx.drewN ?_) | (with_reducible refine Gx.setRow ?_ (by first | omega | (simp; done) | (simp <;> omega))) | (with_reducible refine Gx.setCell ?_ (by first | omega | (simp; done) | (simp <;> omega))))), ?_, ?_⟩ <;> first | assumption | exact cell_keep_gx ‹_› | go_keep | (simp [go_sem]; done)) (first | (go_at_call 46; refine (grainNumber_0 _ _ _ _).mono ?_; rintro e w' ⟨rfl, x2, rfl⟩))
  all_goals go_wp2
  all_goals go_ret
  all_goals exact ⟨rfl, gxT G8 (by repeat (first | (with_reducible exact Gx.refl _) | (with_reducible assumption) | (with_reducible refine Gx.gx ?_) | (with_reducible refine Gx.alloc ?_) | (with_reducible refine Gx.drew ?_) | (with_reducible refine Gx.drewN ?_) | (with_reducible refine Gx.setRow ?_ (by first | omega | (simp; done) | (simp <;> omega))) | (with_reducible refine Gx.setCell ?_ (by first | omega | (simp; done) | (simp <;> omega)))))⟩
set_option maxHeartbeats 4000000 in
set_option maxRecDepth 100000 in
theorem checkGrains_g (gg : Nat) (b : ByteArray) (n : Int) (w : World) (h : GrAt w gg b n) (HN : Hid (∀ W, Calls Try.prog 9 #[.string b] W fun e W' => e = .returned (.bool true) ∧ ∃ x, W' = gx W x)) (hn : 1 ≤ n ∧ n ≤ 1125899906842624) :
    Calls Try.prog 30 #[.slice (some ⟨gg, 0, none⟩) 1 1] w fun e w' => e = .returned (.int .i64 0) ∧ ∃ x, w' = gx w x := by
  have hb : gg < w.heap.size := World.block_lt_of_cell? w _ h.c0
  obtain ⟨c0, c1⟩ := h
  have k1 : decide (n < 1) = false := decide_eq_false (by omega)
  have k2 : decide (1125899906842624 < n) = false := decide_eq_false (by omega)
  clear hn
  go_enter Try.func30, Try.ntmps30
  go_wp2
  refine wp_loop_rounds 2 ?_
  rw [rounds_succ]
  go_wp2_with (first | go_skip | (go_at_call 9; refine (HN.out _).mono ?_; rintro e w' ⟨rfl, x1, rfl⟩))
  have hA : At (gx (w.alloc (.cells #[.string b, .int .i64 n] 30)) x1) w.heap.size (.cells #[.string b, .int .i64 n] 30 (0, 0)) := by (focus (repeat (first | (with_reducible assumption) | (with_reducible exact At.new _ _) | (with_reducible refine At.row ?_) | ((with_reducible refine At.row_other ?_ ?_); rotate_left; (focus (simp <;> omega))) | (with_reducible refine At.app ?_) | (with_reducible refine At.tick ?_) | (with_reducible refine At.gx ?_) | ((with_reducible refine At.new' ?_); focus (simp; done)) | (with_reducible refine At.alloc ?_) | (with_reducible refine At.drew ?_) | (with_reducible exact Is.new _ _ _) | (with_reducible refine Is.row ?_) | ((with_reducible refine Is.row_other ?_ ?_); rotate_left; (focus (simp <;> omega))) | (with_reducible refine Is.gx ?_) | ((with_reducible refine Is.new' ?_); focus (simp; done)) | (with_reducible refine Is.alloc ?_) | (with_reducible refine Is.drew ?_))))
  have G8 : ∃ x, (gx (w.alloc (.cells #[.string b, .int .i64 n] 30)) x1) = gx w x := (by repeat (first | (with_reducible exact Gx.refl _) | (with_reducible assumption) | (with_reducible refine Gx.gx ?_) | (with_reducible refine Gx.alloc ?_) | (with_reducible refine Gx.drew ?_) | (with_reducible refine Gx.drewN ?_) | (with_reducible refine Gx.setRow ?_ (by first | omega | (simp; done) | (simp <;> omega))) | (with_reducible refine Gx.setCell ?_ (by first | omega | (simp; done) | (simp <;> omega)))))
  have q0 : World.cell? (gx (w.alloc (.cells #[.string b, .int .i64 n] 30)) x1) ⟨w.heap.size, 0, none⟩ = some (.string b) := by rw [cell_of_row _ _ _ _ _ _ hA]; rfl
  have q1 : World.cell? (gx (w.alloc (.cells #[.string b, .int .i64 n] 30)) x1) ⟨w.heap.size, 1, none⟩ = some (.int .i64 n) := by rw [cell_of_row _ _ _ _ _ _ hA]; rfl
  have l8 := hA.lt
  have hb8 : gg < (gx (w.alloc (.cells #[.string b, .int .i64 n] 30)) x1).heap.size := by simp; omega
  have c08 : World.cell? (gx (w.alloc (.cells #[.string b, .int .i64 n] 30)) x1) ⟨gg, 0, none⟩ = some (.string b) := cell_keep_gx (cell_keep_alloc c0)
  have c18 : World.cell? (gx (w.alloc (.cells #[.string b, .int .i64 n] 30)) x1) ⟨gg, 1, none⟩ = some (.int .i64 n) := cell_keep_gx (cell_keep_alloc c1)
  clear hA c0 c1
  generalize (gx (w.alloc (.cells #[.string b, .int .i64 n] 30)) x1) = Wc at *
  generalize w.heap.size = gi at *
  go_region_held3 (fun W => (∃ x, W = gx Wc x) ∧ W.cell? ⟨gi, 0, none⟩ = some (.string b) ∧ W.cell? ⟨gi, 1, none⟩ = some (.int .i64 n)) (refine ⟨(by repeat (first | (with_reducible exact Gx.refl _) | (with_reducible assumption) | (with_reducible refine Gx.gx ?_) | (with_reducible refine Gx.alloc ?_) | (with_reducible refine Gx.drew ?_) | (with_reducible refine Gx.drewN ?_) | (with_reducible refine Gx.setRow ?_ (by first | omega | (simp; done) | (simp <;> omega))) | (with_reducible refine Gx.setCell ?_ (by first | omega | (simp; done) | (simp <;> omega))))), ?_, ?_⟩ <;> first | assumption | exact cell_keep_gx ‹_› | go_keep | (simp [go_sem]; done)) (first | (go_at_call 46; refine (grainNumber_0 _ _ _ _).mono ?_; rintro e w' ⟨rfl, x2, rfl⟩))
  all_goals go_wp2
  all_goals rw [rounds_succ]
  all_goals go_wp2
  all_goals go_ret
  all_goals exact ⟨rfl, gxT G8 (by repeat (first | (with_reducible exact Gx.refl _) | (with_reducible assumption) | (with_reducible refine Gx.gx ?_) | (with_reducible refine Gx.alloc ?_) | (with_reducible refine Gx.drew ?_) | (with_reducible refine Gx.drewN ?_) | (with_reducible refine Gx.setRow ?_ (by first | omega | (simp; done) | (simp <;> omega))) | (with_reducible refine Gx.setCell ?_ (by first | omega | (simp; done) | (simp <;> omega)))))⟩
set_option maxHeartbeats 4000000 in
set_option maxRecDepth 100000 in
theorem CheckMask_bad (gg : Nat) (E : Int) (h0 : E ≠ 0) (w : World) (HG : Hid (∀ W, (∃ x, W = gx w x) → Calls Try.prog 30 #[.slice (some ⟨gg, 0, none⟩) 1 1] W fun e W' => e = .returned (.int .i64 E) ∧ ∃ x, W' = gx W x)) :
    Calls Try.prog 15 #[.agg #[.bool false, .int .i64 1, .slice none 0 0, .slice (some ⟨gg, 0, none⟩) 1 1, .int .i64 1]] w fun e w' => e = .returned (.int .i64 E) ∧ ∃ x, w' = gx w x := by
  have k0 := beq0 h0
  have k1 := bne0 h0
  have k2 := ne0t h0
  clear h0
  go_enter Try.func15, Try.ntmps15
  go_wp2_with (first | go_skip | (go_at_call 29; refine (checkHidden_0 _).mono ?_; rintro e w' ⟨rfl, x1, rfl⟩) | (go_at_call 30; refine (HG.out _ (by repeat (first | (with_reducible exact Gx.refl _) | (with_reducible assumption) | (with_reducible refine Gx.gx ?_) | (with_reducible refine Gx.alloc ?_) | (with_reducible refine Gx.drew ?_) | (with_reducible refine Gx.drewN ?_) | (with_reducible refine Gx.setRow ?_ (by first | omega | (simp; done) | (simp <;> omega))) | (with_reducible refine Gx.setCell ?_ (by first | omega | (simp; done) | (simp <;> omega)))))).mono ?_; rintro e w' ⟨rfl, x2, rfl⟩) | (go_at_call 31; refine (isLeast_1 _).mono ?_; rintro e w' ⟨rfl, x3, rfl⟩))
  go_ret
  exact ⟨rfl, (by repeat (first | (with_reducible exact Gx.refl _) | (with_reducible assumption) | (with_reducible refine Gx.gx ?_) | (with_reducible refine Gx.alloc ?_) | (with_reducible refine Gx.drew ?_) | (with_reducible refine Gx.drewN ?_) | (with_reducible refine Gx.setRow ?_ (by first | omega | (simp; done) | (simp <;> omega))) | (with_reducible refine Gx.setCell ?_ (by first | omega | (simp; done) | (simp <;> omega)))))⟩
set_option maxHeartbeats 4000000 in
set_option maxRecDepth 100000 in
theorem CheckMask_ok (gg : Nat) (w : World) (HG : Hid (∀ W, (∃ x, W = gx w x) → Calls Try.prog 30 #[.slice (some ⟨gg, 0, none⟩) 1 1] W fun e W' => e = .returned (.int .i64 0) ∧ ∃ x, W' = gx W x)) :
    Calls Try.prog 15 #[.agg #[.bool false, .int .i64 1, .slice none 0 0, .slice (some ⟨gg, 0, none⟩) 1 1, .int .i64 1]] w fun e w' => e = .returned (.int .i64 0) ∧ ∃ x, w' = gx w x := by
  go_enter Try.func15, Try.ntmps15
  go_wp2_with (first | go_skip | (go_at_call 29; refine (checkHidden_0 _).mono ?_; rintro e w' ⟨rfl, x1, rfl⟩) | (go_at_call 30; refine (HG.out _ (by repeat (first | (with_reducible exact Gx.refl _) | (with_reducible assumption) | (with_reducible refine Gx.gx ?_) | (with_reducible refine Gx.alloc ?_) | (with_reducible refine Gx.drew ?_) | (with_reducible refine Gx.drewN ?_) | (with_reducible refine Gx.setRow ?_ (by first | omega | (simp; done) | (simp <;> omega))) | (with_reducible refine Gx.setCell ?_ (by first | omega | (simp; done) | (simp <;> omega)))))).mono ?_; rintro e w' ⟨rfl, x2, rfl⟩) | (go_at_call 31; refine (isLeast_1 _).mono ?_; rintro e w' ⟨rfl, x3, rfl⟩))
  go_ret
  exact ⟨rfl, (by repeat (first | (with_reducible exact Gx.refl _) | (with_reducible assumption) | (with_reducible refine Gx.gx ?_) | (with_reducible refine Gx.alloc ?_) | (with_reducible refine Gx.drew ?_) | (with_reducible refine Gx.drewN ?_) | (with_reducible refine Gx.setRow ?_ (by first | omega | (simp; done) | (simp <;> omega))) | (with_reducible refine Gx.setCell ?_ (by first | omega | (simp; done) | (simp <;> omega)))))⟩
/-- What is wrong with a mask of one grain. -/
theorem CheckMask_any (b : ByteArray) (hb : b.size ≤ 9223372036854775807) (n : Int) (hn : 1 ≤ n) : ∃ E : Int, (∀ gg W, GrAt W gg b n → Calls Try.prog 15 #[.agg #[.bool false, .int .i64 1, .slice none 0 0, .slice (some ⟨gg, 0, none⟩) 1 1, .int .i64 1]] W fun e W' => e = .returned (.int .i64 E) ∧ ∃ x, W' = gx W x) ∧ (E = 0 ↔ nameT b = true ∧ n ≤ 1125899906842624) := by
  have HN : ∀ W, Calls Try.prog 9 #[.string b] W fun e W' => e = .returned (.bool (nameT b)) ∧ ∃ x, W' = gx W x := fun W => (IsNameE_any b hb W).mono fun e w' h => ⟨h.1, h.2 ▸ Gx.refl _⟩
  cases hnm : nameT b with
  | false =>
    rw [hnm] at HN
    exact ⟨8, fun gg W h => CheckMask_bad gg 8 (by decide) W (Lib.hid fun W' hW' => checkGrains_n gg b n W' (h.on hW') (Lib.hid HN)), fun h => absurd h (by decide), fun h => absurd h.1 (by decide)⟩
  | true =>
    rw [hnm] at HN
    by_cases h2 : n ≤ 1125899906842624
    · exact ⟨0, fun gg W h => CheckMask_ok gg W (Lib.hid fun W' hW' => checkGrains_g gg b n W' (h.on hW') (Lib.hid HN) ⟨hn, h2⟩), fun _ => ⟨rfl, h2⟩, fun _ => rfl⟩
    · exact ⟨9, fun gg W h => CheckMask_bad gg 9 (by decide) W (Lib.hid fun W' hW' => checkGrains_b gg b n W' (h.on hW') (Lib.hid HN) ⟨hn, by omega⟩), fun h => absurd h (by decide), fun h => absurd h.2 h2⟩
end Go.Proofs.Ytfbhjgaiejjfaaa
