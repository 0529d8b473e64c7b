/-
  Median, both sides: where something is wrong.
-/
import Derived.Test.YtmpokfbliacmoaaDoorSMdSt
namespace Go.Proofs.YtmpokfbliacmoaaDoor
open Go.RowKit
-- AT2
-- AT3

theorem smAtG {w W : World} {g : Nat → Sm} {n : Nat} {A : Option Addr} (h : SmAt w g n A) (hW : ∃ x, W = gx w x) : SmAt W g n A := by
  obtain ⟨x, rfl⟩ := hW; exact h.gx
set_option maxHeartbeats 4000000 in
set_option maxRecDepth 100000 in
theorem Med_e1 (den : Int) (g : Nat → Sm) (n c : Nat) (A : Option Addr) (wd : Int) (w : World) (hL : SmAt w g n A) (f : Nat → Sm) (q : Int) (hs : serE den g n = q) (hq : q ≠ 0) :
    Calls Tryd.prog 4 #[serV den A n c, .int .i64 wd] w (SerPost w 0 f 0 q) := by
  have n1 : decide (q = 0) = false := decide_eq_false hq
  have n2 : decide (q ≠ 0) = true := decide_eq_true hq
  go_enter Tryd.func4, Tryd.ntmps4
  go_wp2_with (go_at_call 9; refine (Check_any den g n c A _ (smAtG hL (by repeat (first | (with_reducible exact Gx.refl _) | (with_reducible assumption) | (with_reducible refine Gx.gx ?_) | (with_reducible refine Gx.alloc ?_) | (with_reducible refine Gx.drew ?_) | (with_reducible refine Gx.drewN ?_) | (with_reducible refine Gx.setRow ?_ (by first | omega | (simp; done) | (simp <;> omega))) | (with_reducible refine Gx.setCell ?_ (by first | omega | (simp; done) | (simp <;> omega))))))).mono ?_; rw [hs]; rintro e w' ⟨rfl, x1, rfl⟩; have hs1 : w.heap.size + 1 < w.heap.size + 1 + 1 + x1.n := (by omega))
  refine bodyPost_ret (v := .tuple #[serV 0 none 0 0, .int .i64 q]) (by simp [results, Tryd.results4, go_sem]) rfl ?_
  exact SerPost.zero (by repeat (first | (with_reducible exact Gx.refl _) | (with_reducible assumption) | (with_reducible refine Gx.gx ?_) | (with_reducible refine Gx.alloc ?_) | (with_reducible refine Gx.drew ?_) | (with_reducible refine Gx.drewN ?_) | (with_reducible refine Gx.setRow ?_ (by first | omega | (simp; done) | (simp <;> omega))) | (with_reducible refine Gx.setCell ?_ (by first | omega | (simp; done) | (simp <;> omega)))))
set_option maxHeartbeats 4000000 in
set_option maxRecDepth 100000 in
theorem RMed_e1 (den : Int) (g : Nat → Sm) (n c : Nat) (A : Option Addr) (wd : Int) (w : World) (hL : SmAt w g n A) (f : Nat → Sm) (q : Int) (hs : serE den g n = q) (hq : q ≠ 0) :
    Calls Tryd.prog 6 #[serV den A n c, .int .i64 wd] w (SerPost w 0 f 0 q) := by
  have n1 : decide (q = 0) = false := decide_eq_false hq
  have n2 : decide (q ≠ 0) = true := decide_eq_true hq
  go_enter Tryd.func6, Tryd.ntmps6
  go_wp2_with (go_at_call 16; refine (RCheck_any den g n c A _ (smAtG hL (by repeat (first | (with_reducible exact Gx.refl _) | (with_reducible assumption) | (with_reducible refine Gx.gx ?_) | (with_reducible refine Gx.alloc ?_) | (with_reducible refine Gx.drew ?_) | (with_reducible refine Gx.drewN ?_) | (with_reducible refine Gx.setRow ?_ (by first | omega | (simp; done) | (simp <;> omega))) | (with_reducible refine Gx.setCell ?_ (by first | omega | (simp; done) | (simp <;> omega))))))).mono ?_; rw [hs]; rintro e w' ⟨rfl, x1, rfl⟩; have hs1 : w.heap.size + 1 < w.heap.size + 1 + 1 + x1.n := (by omega))
  refine bodyPost_ret (v := .tuple #[serV 0 none 0 0, .int .i64 q]) (by simp [results, Tryd.results6, go_sem]) rfl ?_
  exact SerPost.zero (by repeat (first | (with_reducible exact Gx.refl _) | (with_reducible assumption) | (with_reducible refine Gx.gx ?_) | (with_reducible refine Gx.alloc ?_) | (with_reducible refine Gx.drew ?_) | (with_reducible refine Gx.drewN ?_) | (with_reducible refine Gx.setRow ?_ (by first | omega | (simp; done) | (simp <;> omega))) | (with_reducible refine Gx.setCell ?_ (by first | omega | (simp; done) | (simp <;> omega)))))
set_option maxHeartbeats 4000000 in
set_option maxRecDepth 100000 in
theorem Med_e2 (den : Int) (g : Nat → Sm) (n c : Nat) (A : Option Addr) (wd : Int) (w : World) (hL : SmAt w g n A) (f : Nat → Sm) (hs : serE den g n = 0) (ho : ¬ (1 ≤ wd ∧ wd ≤ 101 ∧ wd.tmod 2 ≠ 0)) (h64 : -9223372036854775808 ≤ wd ∧ wd ≤ 9223372036854775807) :
    Calls Tryd.prog 4 #[serV den A n c, .int .i64 wd] w (SerPost w 0 f 0 1) := by
  have hd : decide (wd < 1) = true ∨ (decide (wd < 1) = false ∧ decide (101 < wd) = true) ∨ (decide (wd < 1) = false ∧ decide (101 < wd) = false ∧ wd.tmod 2 = 0) := by
    simp only [decide_eq_true_eq, decide_eq_false_iff_not]
    by_cases h1 : wd < 1
    · exact .inl h1
    · by_cases h2 : 101 < wd
      · exact .inr (.inl ⟨h1, h2⟩)
      · refine .inr (.inr ⟨h1, h2, ?_⟩)
        by_cases h3 : wd.tmod 2 = 0
        · exact h3
        · exact absurd ⟨by omega, by omega, h3⟩ ho
  clear ho
  rcases hd with d1 | ⟨d1, d2⟩ | ⟨d1, d2, d3⟩
  all_goals
    go_enter Tryd.func4, Tryd.ntmps4
    go_wp2_with (go_at_call 9; refine (Check_any den g n c A _ (smAtG hL (by repeat (first | (with_reducible exact Gx.refl _) | (with_reducible assumption) | (with_reducible refine Gx.gx ?_) | (with_reducible refine Gx.alloc ?_) | (with_reducible refine Gx.drew ?_) | (with_reducible refine Gx.drewN ?_) | (with_reducible refine Gx.setRow ?_ (by first | omega | (simp; done) | (simp <;> omega))) | (with_reducible refine Gx.setCell ?_ (by first | omega | (simp; done) | (simp <;> omega))))))).mono ?_; rw [hs]; rintro e w' ⟨rfl, x1, rfl⟩; have hs1 : w.heap.size + 1 < w.heap.size + 1 + 1 + x1.n := (by omega))
    refine bodyPost_ret (v := .tuple #[serV 0 none 0 0, .int .i64 1]) (by simp [results, Tryd.results4, go_sem]) rfl ?_
    exact SerPost.zero (by repeat (first | (with_reducible exact Gx.refl _) | (with_reducible assumption) | (with_reducible refine Gx.gx ?_) | (with_reducible refine Gx.alloc ?_) | (with_reducible refine Gx.drew ?_) | (with_reducible refine Gx.drewN ?_) | (with_reducible refine Gx.setRow ?_ (by first | omega | (simp; done) | (simp <;> omega))) | (with_reducible refine Gx.setCell ?_ (by first | omega | (simp; done) | (simp <;> omega)))))
set_option maxHeartbeats 4000000 in
set_option maxRecDepth 100000 in
theorem RMed_e2 (den : Int) (g : Nat → Sm) (n c : Nat) (A : Option Addr) (wd : Int) (w : World) (hL : SmAt w g n A) (f : Nat → Sm) (hs : serE den g n = 0) (ho : ¬ (1 ≤ wd ∧ wd ≤ 101 ∧ wd.tmod 2 ≠ 0)) (_h64 : -9223372036854775808 ≤ wd ∧ wd ≤ 9223372036854775807) :
    Calls Tryd.prog 6 #[serV den A n c, .int .i64 wd] w (SerPost w 0 f 0 1) := by
  have hd : inB 1 101 wd = false ∨ (inB 1 101 wd = true ∧ wd.tmod 2 = 0) := by
    by_cases h1 : 1 ≤ wd ∧ wd ≤ 101
    · refine .inr ⟨inB_iff.2 h1, ?_⟩
      by_cases h3 : wd.tmod 2 = 0
      · exact h3
      · exact absurd ⟨h1.1, h1.2, h3⟩ ho
    · exact .inl (inB_no.2 (by omega))
  clear ho
  rcases hd with d1 | ⟨d1, d2⟩
  all_goals
    go_enter Tryd.func6, Tryd.ntmps6
    go_wp2_with first
      | (go_at_call 16; refine (RCheck_any den g n c A _ (smAtG hL (by repeat (first | (with_reducible exact Gx.refl _) | (with_reducible assumption) | (with_reducible refine Gx.gx ?_) | (with_reducible refine Gx.alloc ?_) | (with_reducible refine Gx.drew ?_) | (with_reducible refine Gx.drewN ?_) | (with_reducible refine Gx.setRow ?_ (by first | omega | (simp; done) | (simp <;> omega))) | (with_reducible refine Gx.setCell ?_ (by first | omega | (simp; done) | (simp <;> omega))))))).mono ?_; rw [hs]; rintro e w' ⟨rfl, x1, rfl⟩; have hs1 : w.heap.size + 1 < w.heap.size + 1 + 1 + x1.n := (by omega))
      | (go_at_call 17; refine (outside_any _ _ _ _).mono ?_; rw [d1]; rintro e w' ⟨rfl, rfl⟩)
    refine bodyPost_ret (v := .tuple #[serV 0 none 0 0, .int .i64 1]) (by simp [results, Tryd.results6, go_sem]) rfl ?_
    exact SerPost.zero (by repeat (first | (with_reducible exact Gx.refl _) | (with_reducible assumption) | (with_reducible refine Gx.gx ?_) | (with_reducible refine Gx.alloc ?_) | (with_reducible refine Gx.drew ?_) | (with_reducible refine Gx.drewN ?_) | (with_reducible refine Gx.setRow ?_ (by first | omega | (simp; done) | (simp <;> omega))) | (with_reducible refine Gx.setCell ?_ (by first | omega | (simp; done) | (simp <;> omega)))))
end Go.Proofs.YtmpokfbliacmoaaDoor
