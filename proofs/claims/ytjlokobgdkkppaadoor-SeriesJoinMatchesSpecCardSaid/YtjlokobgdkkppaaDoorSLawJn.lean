/-
  The law SeriesJoinMatchesSpec, walked.
-/
import Derived.Test.YtjlokobgdkkppaaDoorSRJoin
namespace Go.Proofs.YtjlokobgdkkppaaDoor
open Go.RowKit
-- AT2
-- AT3

set_option maxHeartbeats 1000000 in
set_option maxRecDepth 100000 in
theorem RJoin_any (den : Int) (g : Nat → Sm) (n c : Nat) (A : Option Addr) (den2 : Int) (h : Nat → Sm) (m cb : Nat) (B : Option Addr) (w : World) (hL : SmAt w g n A) (hM : SmAt w h m B) (f : Nat → Sm) (hf : f = lfun (jnL g n h m)) :
    Calls Tryd.prog 23 #[serV den A n c, serV den2 B m cb] w (SerPost w (if joinE den g n den2 h m = 0 then den else 0) f (if joinE den g n den2 h m = 0 then (jnL g n h m).length else 0) (joinE den g n den2 h m)) := by
  by_cases h1 : pairE den g n den2 h m = 0
  · obtain ⟨e1, e2, rfl⟩ := pairE_0 h1
    refine RJoin_go den g n c A h m cb B w hL hM h1 f hf _ _ _ (Lib.hid fun hb => ?_) (Lib.hid fun hb => ?_)
    · rw [joinE_2 h1 hb]; exact ⟨if_neg (by decide), if_neg (by decide), rfl⟩
    · rw [joinE_3 h1 hb]; exact ⟨if_pos rfl, if_pos rfl, rfl⟩
  · have C1 := fun W (hW : ∃ x, W = gx w x) => pairFault_any den g n c A den2 h m cb B W (smAt_of hL hW) (smAt_of hM hW)
    rw [joinE_1 h1, if_neg h1, if_neg h1]
    have n1 := ne0 h1
    have n2 := ne0' h1
    clear h1
    generalize pairE den g n den2 h m = q at *
    go_enter Tryd.func23, Tryd.ntmps23
    go_wp2_with (go_at_call 53; refine (C1 _ (by repeat (first | (with_reducible exact Gx.refl _) | (with_reducible assumption) | (with_reducible refine Gx.gx ?_) | (with_reducible refine Gx.alloc ?_) | (with_reducible refine Gx.drew ?_) | (with_reducible refine Gx.drewN ?_) | (with_reducible refine Gx.setRow ?_ (by first | omega | (simp; done) | (simp <;> omega))) | (with_reducible refine Gx.setCell ?_ (by first | omega | (simp; done) | (simp <;> omega)))))).mono ?_; rintro e w' ⟨rfl, x1, rfl⟩)
    refine bodyPost_ret (v := .tuple #[serV 0 none 0 0, .int .i64 q]) (by simp [results, Tryd.results23, go_sem]) rfl ?_
    exact SerPost.zero (by repeat (first | (with_reducible exact Gx.refl _) | (with_reducible assumption) | (with_reducible refine Gx.gx ?_) | (with_reducible refine Gx.alloc ?_) | (with_reducible refine Gx.drew ?_) | (with_reducible refine Gx.drewN ?_) | (with_reducible refine Gx.setRow ?_ (by first | omega | (simp; done) | (simp <;> omega))) | (with_reducible refine Gx.setCell ?_ (by first | omega | (simp; done) | (simp <;> omega)))))
theorem joinE_swap {den den2 : Int} {g h : Nat → Sm} {n m : Nat} (e : joinE den g n den2 h m = 0) : joinE den2 h m den g n = 0 ∧ den = den2 := by
  by_cases h1 : pairE den g n den2 h m = 0
  · obtain ⟨e1, e2, rfl⟩ := pairE_0 h1
    by_cases h2 : 20000 < (jnL g n h m).length
    · rw [joinE_2 h1 h2] at e; omega
    · exact ⟨joinE_3 (pairE_4 e2 e1 rfl) (by rw [jnL_swap]; exact h2), rfl⟩
  · rw [joinE_1 h1] at e; exact absurd e h1
theorem pairE_fit (den : Int) (g : Nat → Sm) (n : Nat) (den2 : Int) (h : Nat → Sm) (m : Nat) : Fit (pairE den g n den2 h m) := by
  by_cases h1 : serE den g n = 0
  · by_cases h2 : serE den2 h m = 0
    · by_cases h3 : den = den2
      · rw [pairE_4 h1 h2 h3]; unfold Fit; omega
      · rw [pairE_3 h1 h2 h3]; unfold Fit; omega
    · rw [pairE_2 h1 h2]; exact serE_fit _ _ _
  · rw [pairE_1 h1]; exact serE_fit _ _ _
theorem joinE_fit (den : Int) (g : Nat → Sm) (n : Nat) (den2 : Int) (h : Nat → Sm) (m : Nat) : Fit (joinE den g n den2 h m) := by
  by_cases h1 : pairE den g n den2 h m = 0
  · by_cases h2 : 20000 < (jnL g n h m).length
    · rw [joinE_2 h1 h2]; unfold Fit; omega
    · rw [joinE_3 h1 h2]; unfold Fit; omega
  · rw [joinE_1 h1]; exact pairE_fit _ _ _ _ _ _
set_option maxHeartbeats 4000000 in
set_option maxRecDepth 100000 in
theorem joinLaw_bad (S1 S2 : Value) (den den2 : Int) (A B : Option Addr) (n c m cb : Nat) (h1 : S1 = serV den A n c) (h2 : S2 = serV den2 B m cb) (w : World) (d' er : Int) (n' : Nat) (f : Nat → Sm) (T : ByteArray) (he : er ≠ 0)
    (H1 : Hid (∀ W, (∃ x, W = gx w x) → Calls Tryd.prog 22 #[S1, S2] W (SerPost W d' f n' er)))
    (H2 : Hid (∀ W, (∃ x, W = gx w x) → Calls Tryd.prog 23 #[S1, S2] W (SerPost W d' f n' er)))
    (H3 : Hid (∀ W A' c', SmAt W f n' A' → (∃ x, W = gx w x) → Calls Tryd.prog 16 #[serV d' A' n' c', .int .i64 er] W fun e W' => e = .returned (.string T) ∧ ∃ x, W' = gx W x)) :
    Calls Tryd.prog 5 #[S1, S2] w fun e w' => e = .returned (.bool true) ∧ ∃ x, w' = gx w x := by
  subst h1 h2
  have n1 := ne0 he
  have n2 := ne0' he
  have n3 : (er == 0) = false := by simpa using he
  clear he
  go_enter Tryd.func5, Tryd.ntmps5
  go_wp2_with (go_at_call 22; refine (H1.out _ (by repeat (first | (with_reducible exact Gx.refl _) | (with_reducible assumption) | (with_reducible refine Gx.gx ?_) | (with_reducible refine Gx.alloc ?_) | (with_reducible refine Gx.drew ?_) | (with_reducible refine Gx.drewN ?_) | (with_reducible refine Gx.setRow ?_ (by first | omega | (simp; done) | (simp <;> omega))) | (with_reducible refine Gx.setCell ?_ (by first | omega | (simp; done) | (simp <;> omega)))))).mono ?_; rintro e W1 ⟨A1, c1, x1, rfl, rfl, hs1⟩)
  obtain ⟨W3, hW3⟩ : ∃ W3, W3 = (gx ((w.alloc (.cells #[.int .i64 den, .slice A n c] 24)).alloc (.cells #[.int .i64 den2, .slice B m cb] 24)) x1).alloc (.cells #[.int .i64 d', .slice A1 n' c1] 24) := ⟨_, rfl⟩
  rw [← hW3]
  obtain ⟨g5, hg5⟩ : ∃ g5, g5 = w.heap.size + 1 + 1 + x1.n := ⟨_, rfl⟩
  rw [← hg5]
  have G3 : ∃ x, W3 = gx w x := by rw [hW3]; exact (by repeat (first | (with_reducible exact Gx.refl _) | (with_reducible assumption) | (with_reducible refine Gx.gx ?_) | (with_reducible refine Gx.alloc ?_) | (with_reducible refine Gx.drew ?_) | (with_reducible refine Gx.drewN ?_) | (with_reducible refine Gx.setRow ?_ (by first | omega | (simp; done) | (simp <;> omega))) | (with_reducible refine Gx.setCell ?_ (by first | omega | (simp; done) | (simp <;> omega)))))
  have S3 : At W3 w.heap.size (.cells #[.int .i64 den, .slice A n c] 24 (0, 0)) := by rw [hW3]; (focus (repeat (first | (with_reducible assumption) | (with_reducible exact At.new _ _) | (with_reducible refine At.row ?_) | ((with_reducible refine At.row_other ?_ ?_); rotate_left; (focus (simp <;> omega))) | (with_reducible refine At.app ?_) | (with_reducible refine At.tick ?_) | (with_reducible refine At.gx ?_) | ((with_reducible refine At.new' ?_); focus (simp; done)) | (with_reducible refine At.alloc ?_) | (with_reducible refine At.drew ?_) | (with_reducible exact Is.new _ _ _) | (with_reducible refine Is.row ?_) | ((with_reducible refine Is.row_other ?_ ?_); rotate_left; (focus (simp <;> omega))) | (with_reducible refine Is.gx ?_) | ((with_reducible refine Is.new' ?_); focus (simp; done)) | (with_reducible refine Is.alloc ?_) | (with_reducible refine Is.drew ?_))))
  have S4 : At W3 (w.heap.size + 1) (.cells #[.int .i64 den2, .slice B m cb] 24 (0, 0)) := by rw [hW3]; (focus (repeat (first | (with_reducible assumption) | (with_reducible exact At.new _ _) | (with_reducible refine At.row ?_) | ((with_reducible refine At.row_other ?_ ?_); rotate_left; (focus (simp <;> omega))) | (with_reducible refine At.app ?_) | (with_reducible refine At.tick ?_) | (with_reducible refine At.gx ?_) | ((with_reducible refine At.new' ?_); focus (simp; done)) | (with_reducible refine At.alloc ?_) | (with_reducible refine At.drew ?_) | (with_reducible exact Is.new _ _ _) | (with_reducible refine Is.row ?_) | ((with_reducible refine Is.row_other ?_ ?_); rotate_left; (focus (simp <;> omega))) | (with_reducible refine Is.gx ?_) | ((with_reducible refine Is.new' ?_); focus (simp; done)) | (with_reducible refine Is.alloc ?_) | (with_reducible refine Is.drew ?_))))
  have S5 : At W3 g5 (.cells #[.int .i64 d', .slice A1 n' c1] 24 (0, 0)) := by rw [hW3, hg5]; exact At.new' (by simp)
  have hs3 : SmAt W3 f n' A1 := by rw [hW3]; exact hs1.alloc
  clear hW3 hg5 hs1
  have s0 : W3.cell? ⟨w.heap.size, 0, none⟩ = some (.int .i64 den) := by rw [cell_of_row W3 _ _ _ _ _ S3]; rfl
  have s1 : W3.cell? ⟨w.heap.size, 1, none⟩ = some (.slice A n c) := by rw [cell_of_row W3 _ _ _ _ _ S3]; rfl
  have t0 : W3.cell? ⟨w.heap.size + 1, 0, none⟩ = some (.int .i64 den2) := by rw [cell_of_row W3 _ _ _ _ _ S4]; rfl
  have t1 : W3.cell? ⟨w.heap.size + 1, 1, none⟩ = some (.slice B m cb) := by rw [cell_of_row W3 _ _ _ _ _ S4]; rfl
  have u0 : W3.cell? ⟨g5, 0, none⟩ = some (.int .i64 d') := by rw [cell_of_row W3 _ _ _ _ _ S5]; rfl
  have u1 : W3.cell? ⟨g5, 1, none⟩ = some (.slice A1 n' c1) := by rw [cell_of_row W3 _ _ _ _ _ S5]; rfl
  go_region_held3 (fun W => (∃ x, W = gx w x) ∧ W.cell? ⟨w.heap.size, 0, none⟩ = some (.int .i64 den) ∧ W.cell? ⟨w.heap.size, 1, none⟩ = some (.slice A n c) ∧ W.cell? ⟨w.heap.size + 1, 0, none⟩ = some (.int .i64 den2) ∧ W.cell? ⟨w.heap.size + 1, 1, none⟩ = some (.slice B m cb) ∧ W.cell? ⟨g5, 0, none⟩ = some (.int .i64 d') ∧ W.cell? ⟨g5, 1, none⟩ = some (.slice A1 n' c1))
    (refine ⟨(by repeat (first | (with_reducible exact Gx.refl _) | (with_reducible assumption) | (with_reducible refine Gx.gx ?_) | (with_reducible refine Gx.alloc ?_) | (with_reducible refine Gx.drew ?_) | (with_reducible refine Gx.drewN ?_) | (with_reducible refine Gx.setRow ?_ (by first | omega | (simp; done) | (simp <;> omega))) | (with_reducible refine Gx.setCell ?_ (by first | omega | (simp; done) | (simp <;> omega))))), ?_, ?_, ?_, ?_, ?_, ?_⟩ <;> first | assumption | exact cell_keep_gx ‹_› | go_keep | (simp [go_sem]; done))
    (first
    | (go_at_call 23; refine (H2.out _ (by repeat (first | (with_reducible exact Gx.refl _) | (with_reducible assumption) | (with_reducible refine Gx.gx ?_) | (with_reducible refine Gx.alloc ?_) | (with_reducible refine Gx.drew ?_) | (with_reducible refine Gx.drewN ?_) | (with_reducible refine Gx.setRow ?_ (by first | omega | (simp; done) | (simp <;> omega))) | (with_reducible refine Gx.setCell ?_ (by first | omega | (simp; done) | (simp <;> omega)))))).mono ?_; rintro e W1 ⟨A2, c2, x2, rfl, rfl, hs2⟩)
    | (go_at_call 16; refine (H3.out _ _ _ (by first | assumption | exact smAt_of hs3 (by repeat (first | (with_reducible exact Gx.refl _) | (with_reducible assumption) | (with_reducible refine Gx.gx ?_) | (with_reducible refine Gx.alloc ?_) | (with_reducible refine Gx.drew ?_) | (with_reducible refine Gx.drewN ?_) | (with_reducible refine Gx.setRow ?_ (by first | omega | (simp; done) | (simp <;> omega))) | (with_reducible refine Gx.setCell ?_ (by first | omega | (simp; done) | (simp <;> omega))))) | (rw [← gx_gx]; exact SmAt.gx ‹_›) | (simp only [gx_gx, gx_drew] at *; assumption) | (simp only [gx_gx, drew_gx] at *; assumption)) (by repeat (first | (with_reducible exact Gx.refl _) | (with_reducible assumption) | (with_reducible refine Gx.gx ?_) | (with_reducible refine Gx.alloc ?_) | (with_reducible refine Gx.drew ?_) | (with_reducible refine Gx.drewN ?_) | (with_reducible refine Gx.setRow ?_ (by first | omega | (simp; done) | (simp <;> omega))) | (with_reducible refine Gx.setCell ?_ (by first | omega | (simp; done) | (simp <;> omega)))))).mono ?_; rintro e w' ⟨rfl, x3, rfl⟩))
  all_goals go_wp2_with (go_at_call 19; refine (holds_any _).mono ?_; rintro e w' ⟨rfl, x4, rfl⟩)
  all_goals go_ret
  all_goals exact ⟨rfl, (by repeat (first | (with_reducible exact Gx.refl _) | (with_reducible assumption) | (with_reducible refine Gx.gx ?_) | (with_reducible refine Gx.alloc ?_) | (with_reducible refine Gx.drew ?_) | (with_reducible refine Gx.drewN ?_) | (with_reducible refine Gx.setRow ?_ (by first | omega | (simp; done) | (simp <;> omega))) | (with_reducible refine Gx.setCell ?_ (by first | omega | (simp; done) | (simp <;> omega)))))⟩
set_option maxHeartbeats 4000000 in
set_option maxRecDepth 100000 in
theorem joinLaw_good (S1 S2 : Value) (den den2 : Int) (A B : Option Addr) (n c m cb : Nat) (h1 : S1 = serV den A n c) (h2 : S2 = serV den2 B m cb) (w : World) (d' : Int) (n' : Nat) (f : Nat → Sm) (T : ByteArray)
    (H1 : Hid (∀ W, (∃ x, W = gx w x) → Calls Tryd.prog 22 #[S1, S2] W (SerPost W d' f n' 0)))
    (H2 : Hid (∀ W, (∃ x, W = gx w x) → Calls Tryd.prog 23 #[S1, S2] W (SerPost W d' f n' 0)))
    (H4 : Hid (∀ W, (∃ x, W = gx w x) → Calls Tryd.prog 22 #[S2, S1] W (SerPost W d' f n' 0)))
    (H3 : Hid (∀ W A' c', SmAt W f n' A' → (∃ x, W = gx w x) → Calls Tryd.prog 16 #[serV d' A' n' c', .int .i64 0] W fun e W' => e = .returned (.string T) ∧ ∃ x, W' = gx W x)) :
    Calls Tryd.prog 5 #[S1, S2] w fun e w' => e = .returned (.bool true) ∧ ∃ x, w' = gx w x := by
  subst h1 h2
  go_enter Tryd.func5, Tryd.ntmps5
  go_wp2_with (go_at_call 22; (with_reducible refine (H1.out _ (by repeat (first | (with_reducible exact Gx.refl _) | (with_reducible assumption) | (with_reducible refine Gx.gx ?_) | (with_reducible refine Gx.alloc ?_) | (with_reducible refine Gx.drew ?_) | (with_reducible refine Gx.drewN ?_) | (with_reducible refine Gx.setRow ?_ (by first | omega | (simp; done) | (simp <;> omega))) | (with_reducible refine Gx.setCell ?_ (by first | omega | (simp; done) | (simp <;> omega)))))).mono ?_); rintro e W1 ⟨A1, c1, x1, rfl, rfl, hs1⟩)
  obtain ⟨W3, hW3⟩ : ∃ W3, W3 = (gx ((w.alloc (.cells #[.int .i64 den, .slice A n c] 24)).alloc (.cells #[.int .i64 den2, .slice B m cb] 24)) x1).alloc (.cells #[.int .i64 d', .slice A1 n' c1] 24) := ⟨_, rfl⟩
  rw [← hW3]
  obtain ⟨g5, hg5⟩ : ∃ g5, g5 = w.heap.size + 1 + 1 + x1.n := ⟨_, rfl⟩
  rw [← hg5]
  have G3 : ∃ x, W3 = gx w x := by rw [hW3]; exact (by repeat (first | (with_reducible exact Gx.refl _) | (with_reducible assumption) | (with_reducible refine Gx.gx ?_) | (with_reducible refine Gx.alloc ?_) | (with_reducible refine Gx.drew ?_) | (with_reducible refine Gx.drewN ?_) | (with_reducible refine Gx.setRow ?_ (by first | omega | (simp; done) | (simp <;> omega))) | (with_reducible refine Gx.setCell ?_ (by first | omega | (simp; done) | (simp <;> omega)))))
  have S3 : At W3 w.heap.size (.cells #[.int .i64 den, .slice A n c] 24 (0, 0)) := by rw [hW3]; (focus (repeat (first | (with_reducible assumption) | (with_reducible exact At.new _ _) | (with_reducible refine At.row ?_) | ((with_reducible refine At.row_other ?_ ?_); rotate_left; (focus (simp <;> omega))) | (with_reducible refine At.app ?_) | (with_reducible refine At.tick ?_) | (with_reducible refine At.gx ?_) | ((with_reducible refine At.new' ?_); focus (simp; done)) | (with_reducible refine At.alloc ?_) | (with_reducible refine At.drew ?_) | (with_reducible exact Is.new _ _ _) | (with_reducible refine Is.row ?_) | ((with_reducible refine Is.row_other ?_ ?_); rotate_left; (focus (simp <;> omega))) | (with_reducible refine Is.gx ?_) | ((with_reducible refine Is.new' ?_); focus (simp; done)) | (with_reducible refine Is.alloc ?_) | (with_reducible refine Is.drew ?_))))
  have S4 : At W3 (w.heap.size + 1) (.cells #[.int .i64 den2, .slice B m cb] 24 (0, 0)) := by rw [hW3]; (focus (repeat (first | (with_reducible assumption) | (with_reducible exact At.new _ _) | (with_reducible refine At.row ?_) | ((with_reducible refine At.row_other ?_ ?_); rotate_left; (focus (simp <;> omega))) | (with_reducible refine At.app ?_) | (with_reducible refine At.tick ?_) | (with_reducible refine At.gx ?_) | ((with_reducible refine At.new' ?_); focus (simp; done)) | (with_reducible refine At.alloc ?_) | (with_reducible refine At.drew ?_) | (with_reducible exact Is.new _ _ _) | (with_reducible refine Is.row ?_) | ((with_reducible refine Is.row_other ?_ ?_); rotate_left; (focus (simp <;> omega))) | (with_reducible refine Is.gx ?_) | ((with_reducible refine Is.new' ?_); focus (simp; done)) | (with_reducible refine Is.alloc ?_) | (with_reducible refine Is.drew ?_))))
  have S5 : At W3 g5 (.cells #[.int .i64 d', .slice A1 n' c1] 24 (0, 0)) := by rw [hW3, hg5]; exact At.new' (by simp)
  have hs3 : SmAt W3 f n' A1 := by rw [hW3]; exact hs1.alloc
  clear hW3 hg5 hs1
  have s0 : W3.cell? ⟨w.heap.size, 0, none⟩ = some (.int .i64 den) := by rw [cell_of_row W3 _ _ _ _ _ S3]; rfl
  have s1 : W3.cell? ⟨w.heap.size, 1, none⟩ = some (.slice A n c) := by rw [cell_of_row W3 _ _ _ _ _ S3]; rfl
  have t0 : W3.cell? ⟨w.heap.size + 1, 0, none⟩ = some (.int .i64 den2) := by rw [cell_of_row W3 _ _ _ _ _ S4]; rfl
  have t1 : W3.cell? ⟨w.heap.size + 1, 1, none⟩ = some (.slice B m cb) := by rw [cell_of_row W3 _ _ _ _ _ S4]; rfl
  have u0 : W3.cell? ⟨g5, 0, none⟩ = some (.int .i64 d') := by rw [cell_of_row W3 _ _ _ _ _ S5]; rfl
  have u1 : W3.cell? ⟨g5, 1, none⟩ = some (.slice A1 n' c1) := by rw [cell_of_row W3 _ _ _ _ _ S5]; rfl
  go_region_held3 (fun W => (∃ x, W = gx w x) ∧ W.cell? ⟨w.heap.size, 0, none⟩ = some (.int .i64 den) ∧ W.cell? ⟨w.heap.size, 1, none⟩ = some (.slice A n c) ∧ W.cell? ⟨w.heap.size + 1, 0, none⟩ = some (.int .i64 den2) ∧ W.cell? ⟨w.heap.size + 1, 1, none⟩ = some (.slice B m cb) ∧ W.cell? ⟨g5, 0, none⟩ = some (.int .i64 d') ∧ W.cell? ⟨g5, 1, none⟩ = some (.slice A1 n' c1))
    (refine ⟨(by repeat (first | (with_reducible exact Gx.refl _) | (with_reducible assumption) | (with_reducible refine Gx.gx ?_) | (with_reducible refine Gx.alloc ?_) | (with_reducible refine Gx.drew ?_) | (with_reducible refine Gx.drewN ?_) | (with_reducible refine Gx.setRow ?_ (by first | omega | (simp; done) | (simp <;> omega))) | (with_reducible refine Gx.setCell ?_ (by first | omega | (simp; done) | (simp <;> omega))))), ?_, ?_, ?_, ?_, ?_, ?_⟩ <;> first | assumption | exact cell_keep_gx ‹_› | go_keep | (simp [go_sem]; done))
    (first
    | (go_at_call 23; refine (H2.out _ (by repeat (first | (with_reducible exact Gx.refl _) | (with_reducible assumption) | (with_reducible refine Gx.gx ?_) | (with_reducible refine Gx.alloc ?_) | (with_reducible refine Gx.drew ?_) | (with_reducible refine Gx.drewN ?_) | (with_reducible refine Gx.setRow ?_ (by first | omega | (simp; done) | (simp <;> omega))) | (with_reducible refine Gx.setCell ?_ (by first | omega | (simp; done) | (simp <;> omega)))))).mono ?_; rintro e W1 ⟨A2, c2, x2, rfl, rfl, hs2⟩)
    | (go_at_call 16; refine (H3.out _ _ _ (by first | assumption | exact smAt_of hs3 (by repeat (first | (with_reducible exact Gx.refl _) | (with_reducible assumption) | (with_reducible refine Gx.gx ?_) | (with_reducible refine Gx.alloc ?_) | (with_reducible refine Gx.drew ?_) | (with_reducible refine Gx.drewN ?_) | (with_reducible refine Gx.setRow ?_ (by first | omega | (simp; done) | (simp <;> omega))) | (with_reducible refine Gx.setCell ?_ (by first | omega | (simp; done) | (simp <;> omega))))) | (rw [← gx_gx]; exact SmAt.gx ‹_›) | (simp only [gx_gx, gx_drew] at *; assumption) | (simp only [gx_gx, drew_gx] at *; assumption)) (by repeat (first | (with_reducible exact Gx.refl _) | (with_reducible assumption) | (with_reducible refine Gx.gx ?_) | (with_reducible refine Gx.alloc ?_) | (with_reducible refine Gx.drew ?_) | (with_reducible refine Gx.drewN ?_) | (with_reducible refine Gx.setRow ?_ (by first | omega | (simp; done) | (simp <;> omega))) | (with_reducible refine Gx.setCell ?_ (by first | omega | (simp; done) | (simp <;> omega)))))).mono ?_; rintro e w' ⟨rfl, x3, rfl⟩))
  have l0 := S3.lt
  have l1 := S4.lt
  have l5 := S5.lt
  all_goals go_wp2_with (go_at_call 22; (with_reducible refine (H4.out _ (by repeat (first | (with_reducible exact Gx.refl _) | (with_reducible assumption) | (with_reducible refine Gx.gx ?_) | (with_reducible refine Gx.alloc ?_) | (with_reducible refine Gx.drew ?_) | (with_reducible refine Gx.drewN ?_) | (with_reducible refine Gx.setRow ?_ (by first | omega | (simp; done) | (simp <;> omega))) | (with_reducible refine Gx.setCell ?_ (by first | omega | (simp; done) | (simp <;> omega)))))).mono ?_); rintro e W7 ⟨A7, c7, x7, rfl, hW7, hs7⟩; have G7 : ∃ x, W7 = gx w x := (by rw [hW7]; exact (by repeat (first | (with_reducible exact Gx.refl _) | (with_reducible assumption) | (with_reducible refine Gx.gx ?_) | (with_reducible refine Gx.alloc ?_) | (with_reducible refine Gx.drew ?_) | (with_reducible refine Gx.drewN ?_) | (with_reducible refine Gx.setRow ?_ (by first | omega | (simp; done) | (simp <;> omega))) | (with_reducible refine Gx.setCell ?_ (by first | omega | (simp; done) | (simp <;> omega)))))); have S7 : At W7 g5 (.cells #[.int .i64 d', .slice A1 n' c1] 24 (0, 0)) := (by rw [hW7]; (focus (repeat (first | (with_reducible assumption) | (with_reducible exact At.new _ _) | (with_reducible refine At.row ?_) | ((with_reducible refine At.row_other ?_ ?_); rotate_left; (focus (simp <;> omega))) | (with_reducible refine At.app ?_) | (with_reducible refine At.tick ?_) | (with_reducible refine At.gx ?_) | ((with_reducible refine At.new' ?_); focus (simp; done)) | (with_reducible refine At.alloc ?_) | (with_reducible refine At.drew ?_) | (with_reducible exact Is.new _ _ _) | (with_reducible refine Is.row ?_) | ((with_reducible refine Is.row_other ?_ ?_); rotate_left; (focus (simp <;> omega))) | (with_reducible refine Is.gx ?_) | ((with_reducible refine Is.new' ?_); focus (simp; done)) | (with_reducible refine Is.alloc ?_) | (with_reducible refine Is.drew ?_))))); have K7 : ∃ x, W7 = gx W3 x := (by rw [hW7]; exact (by repeat (first | (with_reducible exact Gx.refl _) | (with_reducible assumption) | (with_reducible refine Gx.gx ?_) | (with_reducible refine Gx.alloc ?_) | (with_reducible refine Gx.drew ?_) | (with_reducible refine Gx.drewN ?_) | (with_reducible refine Gx.setRow ?_ (by first | omega | (simp; done) | (simp <;> omega))) | (with_reducible refine Gx.setCell ?_ (by first | omega | (simp; done) | (simp <;> omega)))))); clear hW7)
  obtain ⟨W8, hW8⟩ : ∃ W8, W8 = W7.alloc (.cells #[.int .i64 d', .slice A7 n' c7] 24) := ⟨_, rfl⟩
  obtain ⟨g7, hg7⟩ : ∃ g7, g7 = W7.heap.size := ⟨_, rfl⟩
  rw [← hW8, ← hg7]
  have G8 : ∃ x, W8 = gx w x := by rw [hW8]; exact (by repeat (first | (with_reducible exact Gx.refl _) | (with_reducible assumption) | (with_reducible refine Gx.gx ?_) | (with_reducible refine Gx.alloc ?_) | (with_reducible refine Gx.drew ?_) | (with_reducible refine Gx.drewN ?_) | (with_reducible refine Gx.setRow ?_ (by first | omega | (simp; done) | (simp <;> omega))) | (with_reducible refine Gx.setCell ?_ (by first | omega | (simp; done) | (simp <;> omega)))))
  have S8 : At W8 g5 (.cells #[.int .i64 d', .slice A1 n' c1] 24 (0, 0)) := by rw [hW8]; exact S7.alloc
  have S9 : At W8 g7 (.cells #[.int .i64 d', .slice A7 n' c7] 24 (0, 0)) := by rw [hW8, hg7]; exact At.new W7 _
  have hs8 : SmAt W8 f n' A1 := by rw [hW8]; exact (smAt_of hs3 K7).alloc
  have hs9 : SmAt W8 f n' A7 := by rw [hW8]; exact hs7.alloc
  clear hW8 hg7 hs7 K7 S7 G7 s0 s1 t0 t1 u0 u1
  have u0 : W8.cell? ⟨g5, 0, none⟩ = some (.int .i64 d') := by rw [cell_of_row W8 _ _ _ _ _ S8]; rfl
  have u1 : W8.cell? ⟨g5, 1, none⟩ = some (.slice A1 n' c1) := by rw [cell_of_row W8 _ _ _ _ _ S8]; rfl
  have v0 : W8.cell? ⟨g7, 0, none⟩ = some (.int .i64 d') := by rw [cell_of_row W8 _ _ _ _ _ S9]; rfl
  have v1 : W8.cell? ⟨g7, 1, none⟩ = some (.slice A7 n' c7) := by rw [cell_of_row W8 _ _ _ _ _ S9]; rfl
  go_region_held3 (fun W => (∃ x, W = gx w x) ∧ W.cell? ⟨g5, 0, none⟩ = some (.int .i64 d') ∧ W.cell? ⟨g5, 1, none⟩ = some (.slice A1 n' c1) ∧ W.cell? ⟨g7, 0, none⟩ = some (.int .i64 d') ∧ W.cell? ⟨g7, 1, none⟩ = some (.slice A7 n' c7))
    (refine ⟨(by repeat (first | (with_reducible exact Gx.refl _) | (with_reducible assumption) | (with_reducible refine Gx.gx ?_) | (with_reducible refine Gx.alloc ?_) | (with_reducible refine Gx.drew ?_) | (with_reducible refine Gx.drewN ?_) | (with_reducible refine Gx.setRow ?_ (by first | omega | (simp; done) | (simp <;> omega))) | (with_reducible refine Gx.setCell ?_ (by first | omega | (simp; done) | (simp <;> omega))))), ?_, ?_, ?_, ?_⟩ <;> first | assumption | exact cell_keep_gx ‹_› | go_keep | (simp [go_sem]; done))
    (first | (go_at_call 16; refine (H3.out _ _ _ (by first | exact smAt_of hs8 (by repeat (first | (with_reducible exact Gx.refl _) | (with_reducible assumption) | (with_reducible refine Gx.gx ?_) | (with_reducible refine Gx.alloc ?_) | (with_reducible refine Gx.drew ?_) | (with_reducible refine Gx.drewN ?_) | (with_reducible refine Gx.setRow ?_ (by first | omega | (simp; done) | (simp <;> omega))) | (with_reducible refine Gx.setCell ?_ (by first | omega | (simp; done) | (simp <;> omega))))) | exact smAt_of hs9 (by repeat (first | (with_reducible exact Gx.refl _) | (with_reducible assumption) | (with_reducible refine Gx.gx ?_) | (with_reducible refine Gx.alloc ?_) | (with_reducible refine Gx.drew ?_) | (with_reducible refine Gx.drewN ?_) | (with_reducible refine Gx.setRow ?_ (by first | omega | (simp; done) | (simp <;> omega))) | (with_reducible refine Gx.setCell ?_ (by first | omega | (simp; done) | (simp <;> omega)))))) (by repeat (first | (with_reducible exact Gx.refl _) | (with_reducible assumption) | (with_reducible refine Gx.gx ?_) | (with_reducible refine Gx.alloc ?_) | (with_reducible refine Gx.drew ?_) | (with_reducible refine Gx.drewN ?_) | (with_reducible refine Gx.setRow ?_ (by first | omega | (simp; done) | (simp <;> omega))) | (with_reducible refine Gx.setCell ?_ (by first | omega | (simp; done) | (simp <;> omega)))))).mono ?_; rintro e w' ⟨rfl, x5, rfl⟩))
  all_goals go_wp2_with (go_at_call 19; refine (holds_any _).mono ?_; rintro e w' ⟨rfl, x6, rfl⟩)
  all_goals go_ret
  all_goals exact ⟨rfl, (by repeat (first | (with_reducible exact Gx.refl _) | (with_reducible assumption) | (with_reducible refine Gx.gx ?_) | (with_reducible refine Gx.alloc ?_) | (with_reducible refine Gx.drew ?_) | (with_reducible refine Gx.drewN ?_) | (with_reducible refine Gx.setRow ?_ (by first | omega | (simp; done) | (simp <;> omega))) | (with_reducible refine Gx.setCell ?_ (by first | omega | (simp; done) | (simp <;> omega)))))⟩
theorem joinLaw (den den2 : Int) (A B : Option Addr) (n c m cb : Nat) (hN : A = none → n = 0 ∧ c = 0) (hnc : n ≤ c) (hNB : B = none → m = 0 ∧ cb = 0) (hmc : m ≤ cb) (g h : Nat → Sm) (w : World) (hp : Pow w) (hL : SmAt w g n A) (hM : SmAt w h m B) :
    Calls Tryd.prog 5 #[serV den A n c, serV den2 B m cb] w fun e w' => e = .returned (.bool true) ∧ ∃ x, w' = gx w x := by
  obtain ⟨f, hf⟩ : ∃ f : Nat → Sm, f = lfun (jnL g n h m) := ⟨_, rfl⟩
  have hfit := joinE_fit den g n den2 h m
  have hd : Fit (if joinE den g n den2 h m = 0 then den else 0) ∧ (if joinE den g n den2 h m = 0 then (jnL g n h m).length else 0) ≤ 1000000 ∧ FitS f (if joinE den g n den2 h m = 0 then (jnL g n h m).length else 0) := by
    by_cases e : joinE den g n den2 h m = 0
    · rw [if_pos e, if_pos e]
      by_cases e1 : pairE den g n den2 h m = 0
      · obtain ⟨e2, e3, rfl⟩ := pairE_0 e1
        obtain ⟨d1, h1, h2⟩ := goodS_of e2
        obtain ⟨_, h3, h4⟩ := goodS_of e3
        have := jnL_len g n h m
        refine ⟨by unfold Fit; omega, by omega, fun i hi => ?_⟩
        have hk := jnL_ok h2 h4 hi
        rw [hf]
        unfold smOk at hk
        unfold Fit
        omega
      · rw [joinE_1 e1] at e; exact absurd e e1
    · rw [if_neg e, if_neg e]; exact ⟨by unfold Fit; omega, by omega, fun i hi => by omega⟩
  have C1 : Hid (∀ W, (∃ x, W = gx w x) → Calls Tryd.prog 22 #[serV den A n c, serV den2 B m cb] W (SerPost W (if joinE den g n den2 h m = 0 then den else 0) f (if joinE den g n den2 h m = 0 then (jnL g n h m).length else 0) (joinE den g n den2 h m))) :=
    fun W hW => Join_any den g n c A den2 h m cb B W (smAt_of hL hW) (smAt_of hM hW) hN hnc hNB hmc f hf
  have C2 : Hid (∀ W, (∃ x, W = gx w x) → Calls Tryd.prog 23 #[serV den A n c, serV den2 B m cb] W (SerPost W (if joinE den g n den2 h m = 0 then den else 0) f (if joinE den g n den2 h m = 0 then (jnL g n h m).length else 0) (joinE den g n den2 h m))) :=
    fun W hW => RJoin_any den g n c A den2 h m cb B W (smAt_of hL hW) (smAt_of hM hW) f hf
  have C4 : Hid (∀ W, (∃ x, W = gx w x) → Calls Tryd.prog 22 #[serV den2 B m cb, serV den A n c] W (SerPost W (if joinE den2 h m den g n = 0 then den2 else 0) f (if joinE den2 h m den g n = 0 then (jnL g n h m).length else 0) (joinE den2 h m den g n))) := by
    intro W hW
    have := Join_any den2 h m cb B den g n c A W (smAt_of hM hW) (smAt_of hL hW) hNB hmc hN hnc f (by rw [hf, jnL_swap])
    rw [jnL_swap g n h m] at this
    exact this
  have C3 : Hid (∀ W A' c', SmAt W f (if joinE den g n den2 h m = 0 then (jnL g n h m).length else 0) A' → (∃ x, W = gx w x) → Calls Tryd.prog 16 #[serV (if joinE den g n den2 h m = 0 then den else 0) A' (if joinE den g n den2 h m = 0 then (jnL g n h m).length else 0) c', .int .i64 (joinE den g n den2 h m)] W fun e W' => e = .returned (.string (toldT (if joinE den g n den2 h m = 0 then den else 0) f (if joinE den g n den2 h m = 0 then (jnL g n h m).length else 0) (joinE den g n den2 h m))) ∧ ∃ x, W' = gx W x) := by
    rintro W A' c' hs ⟨x, rfl⟩
    exact told_any _ _ f _ c' A' _ hd.1 hd.2.2 hd.2.1 hfit hp.gx.here hs
  by_cases e : joinE den g n den2 h m = 0
  · obtain ⟨e2, e3⟩ := joinE_swap e
    rw [e2] at C4
    rw [e] at C1 C2 C3
    rw [if_pos rfl, if_pos rfl] at C4
    simp only [if_true] at C1 C2 C3
    rw [← e3] at C4
    have := joinLaw_good _ _ den den2 A B n c m cb rfl rfl w den (jnL g n h m).length f _ C1 C2 (by rw [← e3]; exact C4) C3
    exact this
  · exact joinLaw_bad _ _ den den2 A B n c m cb rfl rfl w _ _ _ f _ e C1 C2 C3
end Go.Proofs.YtjlokobgdkkppaaDoor
