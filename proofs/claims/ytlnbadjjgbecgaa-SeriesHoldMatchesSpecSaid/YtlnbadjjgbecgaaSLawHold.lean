/-
  SeriesHoldMatchesSpec: the law's walk.
-/
import Derived.Test.YtlnbadjjgbecgaaSBtw3
import Derived.Test.YtlnbadjjgbecgaaSHolds
namespace Go.Proofs.Ytlnbadjjgbecgaa
open Go.RowKit
-- AT2
-- AT3

set_option maxHeartbeats 4000000 in
set_option maxRecDepth 100000 in
theorem RHold_e1 (den : Int) (g : Nat → Sm) (n c : Nat) (A : Option Addr) (a l : Int) (w : World) (hL : SmAt w g n A) (q : Int) (hs : serE den g n = q) (hq : q ≠ 0) :
    Calls Try.prog 6 #[serV den A n c, .int .i64 a, .int .i64 l] w fun e w' => e = .returned (.tuple #[smV 0 0 0, .bool false, .int .i64 q]) ∧ ∃ x, w' = gx w x := by
  have n1 := ne0 hq
  have n2 := ne0' hq
  clear hq
  go_enter Try.func6, Try.ntmps6
  go_wp2_with (go_at_call 15; refine (RCheck_any _ g _ _ _ _ (by (repeat (first | (with_reducible exact hL) | (with_reducible refine SmAt.gx ?_) | (with_reducible refine SmAt.alloc ?_))))).mono ?_; rw [hs]; rintro e w' ⟨rfl, x1, rfl⟩; have hs1 : w.heap.size + 1 < w.heap.size + 1 + 1 + x1.n := (by omega))
  exact bodyPost_ret (v := .tuple #[smV 0 0 0, .bool false, .int .i64 q]) (by simp [results, Try.results6, go_sem]) rfl ⟨rfl, (by repeat (first | (with_reducible exact Gx.refl _) | (with_reducible assumption) | (with_reducible refine Gx.gx ?_) | (with_reducible refine Gx.alloc ?_) | (with_reducible refine Gx.drew ?_) | (with_reducible refine Gx.drewN ?_) | (with_reducible refine Gx.setRow ?_ (by first | omega | (simp; done) | (simp <;> omega))) | (with_reducible refine Gx.setCell ?_ (by first | omega | (simp; done) | (simp <;> omega)))))⟩
set_option maxHeartbeats 4000000 in
set_option maxRecDepth 100000 in
theorem RHold_e2 (den : Int) (g : Nat → Sm) (n c : Nat) (A : Option Addr) (a l : Int) (w : World) (hL : SmAt w g n A) (hs : serE den g n = 0) (ha : inB 0 1099511627776 a = false) :
    Calls Try.prog 6 #[serV den A n c, .int .i64 a, .int .i64 l] w fun e w' => e = .returned (.tuple #[smV 0 0 0, .bool false, .int .i64 9]) ∧ ∃ x, w' = gx w x := by
  go_enter Try.func6, Try.ntmps6
  go_wp2_with first
    | (go_at_call 15; refine (RCheck_any _ g _ _ _ _ (by (repeat (first | (with_reducible exact hL) | (with_reducible refine SmAt.gx ?_) | (with_reducible refine SmAt.alloc ?_))))).mono ?_; rw [hs]; rintro e w' ⟨rfl, x1, rfl⟩; have hs1 : w.heap.size + 1 < w.heap.size + 1 + 1 + x1.n := (by omega))
    | (go_at_call 16; refine (outside_any _ _ _ _).mono ?_; rw [ha]; rintro e w' ⟨rfl, rfl⟩)
  exact bodyPost_ret (v := .tuple #[smV 0 0 0, .bool false, .int .i64 9]) (by simp [results, Try.results6, go_sem]) rfl ⟨rfl, (by repeat (first | (with_reducible exact Gx.refl _) | (with_reducible assumption) | (with_reducible refine Gx.gx ?_) | (with_reducible refine Gx.alloc ?_) | (with_reducible refine Gx.drew ?_) | (with_reducible refine Gx.drewN ?_) | (with_reducible refine Gx.setRow ?_ (by first | omega | (simp; done) | (simp <;> omega))) | (with_reducible refine Gx.setCell ?_ (by first | omega | (simp; done) | (simp <;> omega)))))⟩
set_option maxHeartbeats 4000000 in
set_option maxRecDepth 100000 in
theorem RHold_e3 (den : Int) (g : Nat → Sm) (n c : Nat) (A : Option Addr) (a l : Int) (w : World) (hL : SmAt w g n A) (hs : serE den g n = 0) (ha : inB 0 1099511627776 a = true) (hl : inB 0 1099511627776 l = false) :
    Calls Try.prog 6 #[serV den A n c, .int .i64 a, .int .i64 l] w fun e w' => e = .returned (.tuple #[smV 0 0 0, .bool false, .int .i64 9]) ∧ ∃ x, w' = gx w x := by
  go_enter Try.func6, Try.ntmps6
  go_wp2_with first
    | (go_at_call 15; refine (RCheck_any _ g _ _ _ _ (by (repeat (first | (with_reducible exact hL) | (with_reducible refine SmAt.gx ?_) | (with_reducible refine SmAt.alloc ?_))))).mono ?_; rw [hs]; rintro e w' ⟨rfl, x1, rfl⟩; have hs1 : w.heap.size + 1 < w.heap.size + 1 + 1 + x1.n := (by omega))
    | (go_at_call 16; refine (outside_any _ _ _ _).mono ?_; rw [ha]; rintro e w' ⟨rfl, rfl⟩)
    | (go_at_call 16; refine (outside_any _ _ _ _).mono ?_; rw [hl]; rintro e w' ⟨rfl, rfl⟩)
  exact bodyPost_ret (v := .tuple #[smV 0 0 0, .bool false, .int .i64 9]) (by simp [results, Try.results6, go_sem]) rfl ⟨rfl, (by repeat (first | (with_reducible exact Gx.refl _) | (with_reducible assumption) | (with_reducible refine Gx.gx ?_) | (with_reducible refine Gx.alloc ?_) | (with_reducible refine Gx.drew ?_) | (with_reducible refine Gx.drewN ?_) | (with_reducible refine Gx.setRow ?_ (by first | omega | (simp; done) | (simp <;> omega))) | (with_reducible refine Gx.setCell ?_ (by first | omega | (simp; done) | (simp <;> omega)))))⟩
theorem RHold_bad (den : Int) (g : Nat → Sm) (n c : Nat) (A : Option Addr) (a l : Int) (w : World) (hL : SmAt w g n A) (h : holdE den g n a l ≠ 0) :
    Calls Try.prog 6 #[serV den A n c, .int .i64 a, .int .i64 l] w fun e w' => e = .returned (.tuple #[smV 0 0 0, .bool false, .int .i64 (holdE den g n a l)]) ∧ ∃ x, w' = gx w x := by
  by_cases hs : serE den g n = 0
  · rw [holdE_is hs] at h ⊢
    cases ha : inB 0 1099511627776 a
    · rw [Bool.false_and, if_neg (by decide)]; exact RHold_e2 den g n c A a l w hL hs ha
    · cases hl : inB 0 1099511627776 l
      · rw [if_neg (by decide)]; exact RHold_e3 den g n c A a l w hL hs ha hl
      · rw [ha, hl] at h; exact absurd rfl h
  · rw [holdE_no hs]; exact RHold_e1 den g n c A a l w hL _ rfl hs
set_option maxHeartbeats 4000000 in
set_option maxRecDepth 100000 in
theorem RBetween_e1 (den : Int) (g : Nat → Sm) (n c : Nat) (A : Option Addr) (a l : Int) (w : World) (hL : SmAt w g n A) (q : Int) (hs : serE den g n = q) (hq : q ≠ 0) :
    Calls Try.prog 8 #[serV den A n c, .int .i64 a, .int .i64 l] w fun e w' => e = .returned (.tuple #[ratV 0 0, .bool false, .int .i64 q]) ∧ ∃ x, w' = gx w x := by
  have n1 := ne0 hq
  have n2 := ne0' hq
  clear hq
  go_enter Try.func8, Try.ntmps8
  go_wp2_with (go_at_call 15; refine (RCheck_any _ g _ _ _ _ (by (repeat (first | (with_reducible exact hL) | (with_reducible refine SmAt.gx ?_) | (with_reducible refine SmAt.alloc ?_))))).mono ?_; rw [hs]; rintro e w' ⟨rfl, x1, rfl⟩; have hs1 : w.heap.size + 1 < w.heap.size + 1 + 1 + x1.n := (by omega))
  exact bodyPost_ret (v := .tuple #[ratV 0 0, .bool false, .int .i64 q]) (by simp [results, Try.results8, go_sem]) rfl ⟨rfl, (by repeat (first | (with_reducible exact Gx.refl _) | (with_reducible assumption) | (with_reducible refine Gx.gx ?_) | (with_reducible refine Gx.alloc ?_) | (with_reducible refine Gx.drew ?_) | (with_reducible refine Gx.drewN ?_) | (with_reducible refine Gx.setRow ?_ (by first | omega | (simp; done) | (simp <;> omega))) | (with_reducible refine Gx.setCell ?_ (by first | omega | (simp; done) | (simp <;> omega)))))⟩
set_option maxHeartbeats 4000000 in
set_option maxRecDepth 100000 in
theorem RBetween_e2 (den : Int) (g : Nat → Sm) (n c : Nat) (A : Option Addr) (a l : Int) (w : World) (hL : SmAt w g n A) (hs : serE den g n = 0) (ha : inB 0 1099511627776 a = false) :
    Calls Try.prog 8 #[serV den A n c, .int .i64 a, .int .i64 l] w fun e w' => e = .returned (.tuple #[ratV 0 0, .bool false, .int .i64 9]) ∧ ∃ x, w' = gx w x := by
  go_enter Try.func8, Try.ntmps8
  go_wp2_with first
    | (go_at_call 15; refine (RCheck_any _ g _ _ _ _ (by (repeat (first | (with_reducible exact hL) | (with_reducible refine SmAt.gx ?_) | (with_reducible refine SmAt.alloc ?_))))).mono ?_; rw [hs]; rintro e w' ⟨rfl, x1, rfl⟩; have hs1 : w.heap.size + 1 < w.heap.size + 1 + 1 + x1.n := (by omega))
    | (go_at_call 16; refine (outside_any _ _ _ _).mono ?_; rw [ha]; rintro e w' ⟨rfl, rfl⟩)
  exact bodyPost_ret (v := .tuple #[ratV 0 0, .bool false, .int .i64 9]) (by simp [results, Try.results8, go_sem]) rfl ⟨rfl, (by repeat (first | (with_reducible exact Gx.refl _) | (with_reducible assumption) | (with_reducible refine Gx.gx ?_) | (with_reducible refine Gx.alloc ?_) | (with_reducible refine Gx.drew ?_) | (with_reducible refine Gx.drewN ?_) | (with_reducible refine Gx.setRow ?_ (by first | omega | (simp; done) | (simp <;> omega))) | (with_reducible refine Gx.setCell ?_ (by first | omega | (simp; done) | (simp <;> omega)))))⟩
set_option maxHeartbeats 4000000 in
set_option maxRecDepth 100000 in
theorem RBetween_e3 (den : Int) (g : Nat → Sm) (n c : Nat) (A : Option Addr) (a l : Int) (w : World) (hL : SmAt w g n A) (hs : serE den g n = 0) (ha : inB 0 1099511627776 a = true) (hl : inB 0 1099511627776 l = false) :
    Calls Try.prog 8 #[serV den A n c, .int .i64 a, .int .i64 l] w fun e w' => e = .returned (.tuple #[ratV 0 0, .bool false, .int .i64 9]) ∧ ∃ x, w' = gx w x := by
  go_enter Try.func8, Try.ntmps8
  go_wp2_with first
    | (go_at_call 15; refine (RCheck_any _ g _ _ _ _ (by (repeat (first | (with_reducible exact hL) | (with_reducible refine SmAt.gx ?_) | (with_reducible refine SmAt.alloc ?_))))).mono ?_; rw [hs]; rintro e w' ⟨rfl, x1, rfl⟩; have hs1 : w.heap.size + 1 < w.heap.size + 1 + 1 + x1.n := (by omega))
    | (go_at_call 16; refine (outside_any _ _ _ _).mono ?_; rw [ha]; rintro e w' ⟨rfl, rfl⟩)
    | (go_at_call 16; refine (outside_any _ _ _ _).mono ?_; rw [hl]; rintro e w' ⟨rfl, rfl⟩)
  exact bodyPost_ret (v := .tuple #[ratV 0 0, .bool false, .int .i64 9]) (by simp [results, Try.results8, go_sem]) rfl ⟨rfl, (by repeat (first | (with_reducible exact Gx.refl _) | (with_reducible assumption) | (with_reducible refine Gx.gx ?_) | (with_reducible refine Gx.alloc ?_) | (with_reducible refine Gx.drew ?_) | (with_reducible refine Gx.drewN ?_) | (with_reducible refine Gx.setRow ?_ (by first | omega | (simp; done) | (simp <;> omega))) | (with_reducible refine Gx.setCell ?_ (by first | omega | (simp; done) | (simp <;> omega)))))⟩
theorem RBetween_bad (den : Int) (g : Nat → Sm) (n c : Nat) (A : Option Addr) (a l : Int) (w : World) (hL : SmAt w g n A) (h : holdE den g n a l ≠ 0) :
    Calls Try.prog 8 #[serV den A n c, .int .i64 a, .int .i64 l] w fun e w' => e = .returned (.tuple #[ratV 0 0, .bool false, .int .i64 (holdE den g n a l)]) ∧ ∃ x, w' = gx w x := by
  by_cases hs : serE den g n = 0
  · rw [holdE_is hs] at h ⊢
    cases ha : inB 0 1099511627776 a
    · rw [Bool.false_and, if_neg (by decide)]; exact RBetween_e2 den g n c A a l w hL hs ha
    · cases hl : inB 0 1099511627776 l
      · rw [if_neg (by decide)]; exact RBetween_e3 den g n c A a l w hL hs ha hl
      · rw [ha, hl] at h; exact absurd rfl h
  · rw [holdE_no hs]; exact RBetween_e1 den g n c A a l w hL _ rfl hs
set_option maxHeartbeats 4000000 in
set_option maxRecDepth 100000 in
theorem RPromised_e1 (den : Int) (g : Nat → Sm) (n c : Nat) (A : Option Addr) (a l : Int) (w : World) (hL : SmAt w g n A) (q : Int) (hs : serE den g n = q) (hq : q ≠ 0) :
    Calls Try.prog 9 #[serV den A n c, .int .i64 a, .int .i64 l] w fun e w' => e = .returned (.bool true) ∧ ∃ x, w' = gx w x := by
  have n1 := ne0 hq
  have n2 := ne0' hq
  clear hq
  go_enter Try.func9, Try.ntmps9
  go_wp2_with (go_at_call 15; refine (RCheck_any _ g _ _ _ _ (by (repeat (first | (with_reducible exact hL) | (with_reducible refine SmAt.gx ?_) | (with_reducible refine SmAt.alloc ?_))))).mono ?_; rw [hs]; rintro e w' ⟨rfl, x1, rfl⟩; have hs1 : w.heap.size + 1 < w.heap.size + 1 + 1 + x1.n := (by omega))
  exact bodyPost_ret (v := .bool true) (by simp [results, Try.results9, go_sem]) rfl ⟨rfl, (by repeat (first | (with_reducible exact Gx.refl _) | (with_reducible assumption) | (with_reducible refine Gx.gx ?_) | (with_reducible refine Gx.alloc ?_) | (with_reducible refine Gx.drew ?_) | (with_reducible refine Gx.drewN ?_) | (with_reducible refine Gx.setRow ?_ (by first | omega | (simp; done) | (simp <;> omega))) | (with_reducible refine Gx.setCell ?_ (by first | omega | (simp; done) | (simp <;> omega)))))⟩
set_option maxHeartbeats 4000000 in
set_option maxRecDepth 100000 in
theorem RPromised_e2 (den : Int) (g : Nat → Sm) (n c : Nat) (A : Option Addr) (a l : Int) (w : World) (hL : SmAt w g n A) (hs : serE den g n = 0) (ha : inB 0 1099511627776 a = false) :
    Calls Try.prog 9 #[serV den A n c, .int .i64 a, .int .i64 l] w fun e w' => e = .returned (.bool true) ∧ ∃ x, w' = gx w x := by
  go_enter Try.func9, Try.ntmps9
  go_wp2_with first
    | (go_at_call 15; refine (RCheck_any _ g _ _ _ _ (by (repeat (first | (with_reducible exact hL) | (with_reducible refine SmAt.gx ?_) | (with_reducible refine SmAt.alloc ?_))))).mono ?_; rw [hs]; rintro e w' ⟨rfl, x1, rfl⟩; have hs1 : w.heap.size + 1 < w.heap.size + 1 + 1 + x1.n := (by omega))
    | (go_at_call 16; refine (outside_any _ _ _ _).mono ?_; rw [ha]; rintro e w' ⟨rfl, rfl⟩)
  exact bodyPost_ret (v := .bool true) (by simp [results, Try.results9, go_sem]) rfl ⟨rfl, (by repeat (first | (with_reducible exact Gx.refl _) | (with_reducible assumption) | (with_reducible refine Gx.gx ?_) | (with_reducible refine Gx.alloc ?_) | (with_reducible refine Gx.drew ?_) | (with_reducible refine Gx.drewN ?_) | (with_reducible refine Gx.setRow ?_ (by first | omega | (simp; done) | (simp <;> omega))) | (with_reducible refine Gx.setCell ?_ (by first | omega | (simp; done) | (simp <;> omega)))))⟩
set_option maxHeartbeats 4000000 in
set_option maxRecDepth 100000 in
theorem RPromised_e3 (den : Int) (g : Nat → Sm) (n c : Nat) (A : Option Addr) (a l : Int) (w : World) (hL : SmAt w g n A) (hs : serE den g n = 0) (ha : inB 0 1099511627776 a = true) (hl : inB 0 1099511627776 l = false) :
    Calls Try.prog 9 #[serV den A n c, .int .i64 a, .int .i64 l] w fun e w' => e = .returned (.bool true) ∧ ∃ x, w' = gx w x := by
  go_enter Try.func9, Try.ntmps9
  go_wp2_with first
    | (go_at_call 15; refine (RCheck_any _ g _ _ _ _ (by (repeat (first | (with_reducible exact hL) | (with_reducible refine SmAt.gx ?_) | (with_reducible refine SmAt.alloc ?_))))).mono ?_; rw [hs]; rintro e w' ⟨rfl, x1, rfl⟩; have hs1 : w.heap.size + 1 < w.heap.size + 1 + 1 + x1.n := (by omega))
    | (go_at_call 16; refine (outside_any _ _ _ _).mono ?_; rw [ha]; rintro e w' ⟨rfl, rfl⟩)
    | (go_at_call 16; refine (outside_any _ _ _ _).mono ?_; rw [hl]; rintro e w' ⟨rfl, rfl⟩)
  exact bodyPost_ret (v := .bool true) (by simp [results, Try.results9, go_sem]) rfl ⟨rfl, (by repeat (first | (with_reducible exact Gx.refl _) | (with_reducible assumption) | (with_reducible refine Gx.gx ?_) | (with_reducible refine Gx.alloc ?_) | (with_reducible refine Gx.drew ?_) | (with_reducible refine Gx.drewN ?_) | (with_reducible refine Gx.setRow ?_ (by first | omega | (simp; done) | (simp <;> omega))) | (with_reducible refine Gx.setCell ?_ (by first | omega | (simp; done) | (simp <;> omega)))))⟩
theorem RPromised_bad (den : Int) (g : Nat → Sm) (n c : Nat) (A : Option Addr) (a l : Int) (w : World) (hL : SmAt w g n A) (h : holdE den g n a l ≠ 0) :
    Calls Try.prog 9 #[serV den A n c, .int .i64 a, .int .i64 l] w fun e w' => e = .returned (.bool true) ∧ ∃ x, w' = gx w x := by
  by_cases hs : serE den g n = 0
  · rw [holdE_is hs] at h 
    cases ha : inB 0 1099511627776 a
    · exact RPromised_e2 den g n c A a l w hL hs ha
    · cases hl : inB 0 1099511627776 l
      · exact RPromised_e3 den g n c A a l w hL hs ha hl
      · rw [ha, hl] at h; exact absurd rfl h
  · exact RPromised_e1 den g n c A a l w hL _ rfl hs
set_option maxHeartbeats 4000000 in
set_option maxRecDepth 100000 in
theorem RHold_ok (den : Int) (g : Nat → Sm) (n c : Nat) (A : Option Addr) (a l : Int) (w : World) (hL : SmAt w g n A) (v : Sm) (b : Bool) (hs : serE den g n = 0) (ha : inB 0 1099511627776 a = true) (hl : inB 0 1099511627776 l = true)
    (H : Hid (∀ W, SmAt W g n A → Calls Try.prog 17 #[serV den A n c, .int .i64 a, .int .i64 l] W fun e w' => e = .returned (.tuple #[smV v.t v.n v.m, .bool b]) ∧ ∃ x, w' = gx W x)) :
    Calls Try.prog 6 #[serV den A n c, .int .i64 a, .int .i64 l] w fun e w' => e = .returned (.tuple #[smV v.t v.n v.m, .bool b, .int .i64 0]) ∧ ∃ x, w' = gx w x := by
  obtain ⟨vt, vn, vm⟩ := v
  simp only at H ⊢
  go_enter Try.func6, Try.ntmps6
  go_wp2_with first
    | (go_at_call 15; refine (RCheck_any _ g _ _ _ _ (by (repeat (first | (with_reducible exact hL) | (with_reducible refine SmAt.gx ?_) | (with_reducible refine SmAt.alloc ?_))))).mono ?_; rw [hs]; rintro e w' ⟨rfl, x1, rfl⟩; have hs1 : w.heap.size + 1 < w.heap.size + 1 + 1 + x1.n := (by omega))
    | (go_at_call 16; refine (outside_any _ _ _ _).mono ?_; rw [ha]; rintro e w' ⟨rfl, rfl⟩)
    | (go_at_call 16; refine (outside_any _ _ _ _).mono ?_; rw [hl]; rintro e w' ⟨rfl, rfl⟩)
    | (go_at_call 17; refine (H.out _ (by (repeat (first | (with_reducible exact hL) | (with_reducible refine SmAt.gx ?_) | (with_reducible refine SmAt.alloc ?_))))).mono ?_; rintro e w' ⟨rfl, x2, rfl⟩)
  exact bodyPost_ret (v := .tuple #[smV vt vn vm, .bool b, .int .i64 0]) (by simp [results, Try.results6, go_sem]) rfl ⟨rfl, (by repeat (first | (with_reducible exact Gx.refl _) | (with_reducible assumption) | (with_reducible refine Gx.gx ?_) | (with_reducible refine Gx.alloc ?_) | (with_reducible refine Gx.drew ?_) | (with_reducible refine Gx.drewN ?_) | (with_reducible refine Gx.setRow ?_ (by first | omega | (simp; done) | (simp <;> omega))) | (with_reducible refine Gx.setCell ?_ (by first | omega | (simp; done) | (simp <;> omega)))))⟩
set_option maxHeartbeats 4000000 in
set_option maxRecDepth 100000 in
theorem RBetween_ok (den : Int) (g : Nat → Sm) (n c : Nat) (A : Option Addr) (a l : Int) (w : World) (hL : SmAt w g n A) (rN rD : Int) (rB rF : Bool) (hs : serE den g n = 0) (ha : inB 0 1099511627776 a = true) (hl : inB 0 1099511627776 l = true)
    (H : Hid (∀ W, SmAt W g n A → Calls Try.prog 22 #[serV den A n c, .int .i64 a, .int .i64 l] W fun e w' => e = .returned (.tuple #[ratV rN rD, .bool rB, .bool rF]) ∧ ∃ x, w' = gx W x)) :
    Calls Try.prog 8 #[serV den A n c, .int .i64 a, .int .i64 l] w fun e w' => e = .returned (.tuple #[ratV rN rD, .bool rB, .int .i64 0]) ∧ ∃ x, w' = gx w x := by
  go_enter Try.func8, Try.ntmps8
  go_wp2_with first
    | (go_at_call 15; refine (RCheck_any _ g _ _ _ _ (by (repeat (first | (with_reducible exact hL) | (with_reducible refine SmAt.gx ?_) | (with_reducible refine SmAt.alloc ?_))))).mono ?_; rw [hs]; rintro e w' ⟨rfl, x1, rfl⟩; have hs1 : w.heap.size + 1 < w.heap.size + 1 + 1 + x1.n := (by omega))
    | (go_at_call 16; refine (outside_any _ _ _ _).mono ?_; rw [ha]; rintro e w' ⟨rfl, rfl⟩)
    | (go_at_call 16; refine (outside_any _ _ _ _).mono ?_; rw [hl]; rintro e w' ⟨rfl, rfl⟩)
    | (go_at_call 22; refine (H.out _ (by (repeat (first | (with_reducible exact hL) | (with_reducible refine SmAt.gx ?_) | (with_reducible refine SmAt.alloc ?_))))).mono ?_; rintro e w' ⟨rfl, x2, rfl⟩)
  exact bodyPost_ret (v := .tuple #[ratV rN rD, .bool rB, .int .i64 0]) (by simp [results, Try.results8, go_sem]) rfl ⟨rfl, (by repeat (first | (with_reducible exact Gx.refl _) | (with_reducible assumption) | (with_reducible refine Gx.gx ?_) | (with_reducible refine Gx.alloc ?_) | (with_reducible refine Gx.drew ?_) | (with_reducible refine Gx.drewN ?_) | (with_reducible refine Gx.setRow ?_ (by first | omega | (simp; done) | (simp <;> omega))) | (with_reducible refine Gx.setCell ?_ (by first | omega | (simp; done) | (simp <;> omega)))))⟩
set_option maxHeartbeats 4000000 in
set_option maxRecDepth 100000 in
theorem RPromised_ok (den : Int) (g : Nat → Sm) (n c : Nat) (A : Option Addr) (a l : Int) (w : World) (hL : SmAt w g n A) (rN rD : Int) (rB rF : Bool) (hs : serE den g n = 0) (ha : inB 0 1099511627776 a = true) (hl : inB 0 1099511627776 l = true)
    (H : Hid (∀ W, SmAt W g n A → Calls Try.prog 22 #[serV den A n c, .int .i64 a, .int .i64 l] W fun e w' => e = .returned (.tuple #[ratV rN rD, .bool rB, .bool rF]) ∧ ∃ x, w' = gx W x)) :
    Calls Try.prog 9 #[serV den A n c, .int .i64 a, .int .i64 l] w fun e w' => e = .returned (.bool rF) ∧ ∃ x, w' = gx w x := by
  go_enter Try.func9, Try.ntmps9
  go_wp2_with first
    | (go_at_call 15; refine (RCheck_any _ g _ _ _ _ (by (repeat (first | (with_reducible exact hL) | (with_reducible refine SmAt.gx ?_) | (with_reducible refine SmAt.alloc ?_))))).mono ?_; rw [hs]; rintro e w' ⟨rfl, x1, rfl⟩; have hs1 : w.heap.size + 1 < w.heap.size + 1 + 1 + x1.n := (by omega))
    | (go_at_call 16; refine (outside_any _ _ _ _).mono ?_; rw [ha]; rintro e w' ⟨rfl, rfl⟩)
    | (go_at_call 16; refine (outside_any _ _ _ _).mono ?_; rw [hl]; rintro e w' ⟨rfl, rfl⟩)
    | (go_at_call 22; refine (H.out _ (by (repeat (first | (with_reducible exact hL) | (with_reducible refine SmAt.gx ?_) | (with_reducible refine SmAt.alloc ?_))))).mono ?_; rintro e w' ⟨rfl, x2, rfl⟩)
  go_ret
  exact ⟨rfl, (by repeat (first | (with_reducible exact Gx.refl _) | (with_reducible assumption) | (with_reducible refine Gx.gx ?_) | (with_reducible refine Gx.alloc ?_) | (with_reducible refine Gx.drew ?_) | (with_reducible refine Gx.drewN ?_) | (with_reducible refine Gx.setRow ?_ (by first | omega | (simp; done) | (simp <;> omega))) | (with_reducible refine Gx.setCell ?_ (by first | omega | (simp; done) | (simp <;> omega)))))⟩
set_option maxHeartbeats 4000000 in
set_option maxRecDepth 100000 in
theorem Between_bad (den : Int) (g : Nat → Sm) (n c : Nat) (A : Option Addr) (a l : Int) (w : World) (hL : SmAt w g n A) (q : Int) (hs : holdE den g n a l = q) (hq : q ≠ 0) :
    Calls Try.prog 7 #[serV den A n c, .int .i64 a, .int .i64 l] w fun e w' => e = .returned (.tuple #[ratV 0 0, .bool false, .int .i64 q]) ∧ ∃ x, w' = gx w x := by
  have n1 := ne0 hq
  have n2 := ne0' hq
  clear hq
  go_enter Try.func7, Try.ntmps7
  go_wp2_with (go_at_call 13; refine (checkHold_any _ g _ _ _ _ _ _ (by (repeat (first | (with_reducible exact hL) | (with_reducible refine SmAt.gx ?_) | (with_reducible refine SmAt.alloc ?_))))).mono ?_; rw [hs]; rintro e w' ⟨rfl, x1, rfl⟩; have hs1 : w.heap.size + 1 + 1 < w.heap.size + 1 + 1 + 1 + x1.n := (by omega))
  exact bodyPost_ret (v := .tuple #[ratV 0 0, .bool false, .int .i64 q]) (by simp [results, Try.results7, go_sem]) rfl ⟨rfl, (by repeat (first | (with_reducible exact Gx.refl _) | (with_reducible assumption) | (with_reducible refine Gx.gx ?_) | (with_reducible refine Gx.alloc ?_) | (with_reducible refine Gx.drew ?_) | (with_reducible refine Gx.drewN ?_) | (with_reducible refine Gx.setRow ?_ (by first | omega | (simp; done) | (simp <;> omega))) | (with_reducible refine Gx.setCell ?_ (by first | omega | (simp; done) | (simp <;> omega)))))⟩
set_option maxHeartbeats 4000000 in
set_option maxRecDepth 100000 in
theorem holdLaw_core (den : Int) (A : Option Addr) (n c : Nat) (a l : Int) (w : World) (v : Sm) (b pB rB F : Bool) (E pN pD rN rD : Int)
    (C1 : Hid (∀ W, (∃ x, W = gx w x) → Calls Try.prog 5 #[serV den A n c, .int .i64 a, .int .i64 l] W fun e w' => e = .returned (.tuple #[smV v.t v.n v.m, .bool b, .int .i64 E]) ∧ ∃ x, w' = gx W x))
    (C2 : Hid (∀ W, (∃ x, W = gx w x) → Calls Try.prog 6 #[serV den A n c, .int .i64 a, .int .i64 l] W fun e w' => e = .returned (.tuple #[smV v.t v.n v.m, .bool b, .int .i64 E]) ∧ ∃ x, w' = gx W x))
    (C3 : Hid (∀ W, (∃ x, W = gx w x) → Calls Try.prog 7 #[serV den A n c, .int .i64 a, .int .i64 l] W fun e w' => e = .returned (.tuple #[ratV pN pD, .bool pB, .int .i64 E]) ∧ ∃ x, w' = gx W x))
    (C4 : Hid (∀ W, (∃ x, W = gx w x) → Calls Try.prog 8 #[serV den A n c, .int .i64 a, .int .i64 l] W fun e w' => e = .returned (.tuple #[ratV rN rD, .bool rB, .int .i64 E]) ∧ ∃ x, w' = gx W x))
    (C5 : Hid (∀ W, (∃ x, W = gx w x) → Calls Try.prog 9 #[serV den A n c, .int .i64 a, .int .i64 l] W fun e w' => e = .returned (.bool F) ∧ ∃ x, w' = gx W x))
    (HF : F = true → pN = rN ∧ pD = rD ∧ pB = rB) :
    Calls Try.prog 3 #[serV den A n c, .int .i64 a, .int .i64 l] w fun e w' => e = .returned (.bool true) ∧ ∃ x, w' = gx w x := by
  obtain ⟨vt, vn, vm⟩ := v
  simp only at C1 C2
  cases F
  · clear HF
    go_enter Try.func3, Try.ntmps3
    go_wp2_with first
      | (go_at_call 5; refine (C1.out _ (by repeat (first | (with_reducible exact Gx.refl _) | (with_reducible assumption) | (with_reducible refine Gx.gx ?_) | (with_reducible refine Gx.alloc ?_) | (with_reducible refine Gx.drew ?_) | (with_reducible refine Gx.drewN ?_) | (with_reducible refine Gx.setRow ?_ (by first | omega | (simp; done) | (simp <;> omega))) | (with_reducible refine Gx.setCell ?_ (by first | omega | (simp; done) | (simp <;> omega)))))).mono ?_; rintro e w' ⟨rfl, x0, rfl⟩)
      | (go_at_call 6; refine (C2.out _ (by repeat (first | (with_reducible exact Gx.refl _) | (with_reducible assumption) | (with_reducible refine Gx.gx ?_) | (with_reducible refine Gx.alloc ?_) | (with_reducible refine Gx.drew ?_) | (with_reducible refine Gx.drewN ?_) | (with_reducible refine Gx.setRow ?_ (by first | omega | (simp; done) | (simp <;> omega))) | (with_reducible refine Gx.setCell ?_ (by first | omega | (simp; done) | (simp <;> omega)))))).mono ?_; rintro e w' ⟨rfl, x1, rfl⟩)
      | (go_at_call 7; refine (C3.out _ (by repeat (first | (with_reducible exact Gx.refl _) | (with_reducible assumption) | (with_reducible refine Gx.gx ?_) | (with_reducible refine Gx.alloc ?_) | (with_reducible refine Gx.drew ?_) | (with_reducible refine Gx.drewN ?_) | (with_reducible refine Gx.setRow ?_ (by first | omega | (simp; done) | (simp <;> omega))) | (with_reducible refine Gx.setCell ?_ (by first | omega | (simp; done) | (simp <;> omega)))))).mono ?_; rintro e w' ⟨rfl, x2, rfl⟩)
      | (go_at_call 8; refine (C4.out _ (by repeat (first | (with_reducible exact Gx.refl _) | (with_reducible assumption) | (with_reducible refine Gx.gx ?_) | (with_reducible refine Gx.alloc ?_) | (with_reducible refine Gx.drew ?_) | (with_reducible refine Gx.drewN ?_) | (with_reducible refine Gx.setRow ?_ (by first | omega | (simp; done) | (simp <;> omega))) | (with_reducible refine Gx.setCell ?_ (by first | omega | (simp; done) | (simp <;> omega)))))).mono ?_; rintro e w' ⟨rfl, x3, rfl⟩)
      | (go_at_call 9; refine (C5.out _ (by repeat (first | (with_reducible exact Gx.refl _) | (with_reducible assumption) | (with_reducible refine Gx.gx ?_) | (with_reducible refine Gx.alloc ?_) | (with_reducible refine Gx.drew ?_) | (with_reducible refine Gx.drewN ?_) | (with_reducible refine Gx.setRow ?_ (by first | omega | (simp; done) | (simp <;> omega))) | (with_reducible refine Gx.setCell ?_ (by first | omega | (simp; done) | (simp <;> omega)))))).mono ?_; rintro e w' ⟨rfl, x4, rfl⟩)
      | (go_at_call 10; refine (holds_any _).mono ?_; rintro e w' ⟨rfl, y9, rfl⟩)
    go_ret
    exact ⟨rfl, (by repeat (first | (with_reducible exact Gx.refl _) | (with_reducible assumption) | (with_reducible refine Gx.gx ?_) | (with_reducible refine Gx.alloc ?_) | (with_reducible refine Gx.drew ?_) | (with_reducible refine Gx.drewN ?_) | (with_reducible refine Gx.setRow ?_ (by first | omega | (simp; done) | (simp <;> omega))) | (with_reducible refine Gx.setCell ?_ (by first | omega | (simp; done) | (simp <;> omega)))))⟩
  · obtain ⟨rfl, rfl, rfl⟩ := HF rfl
    clear HF
    go_enter Try.func3, Try.ntmps3
    go_wp2_with first
      | (go_at_call 5; refine (C1.out _ (by repeat (first | (with_reducible exact Gx.refl _) | (with_reducible assumption) | (with_reducible refine Gx.gx ?_) | (with_reducible refine Gx.alloc ?_) | (with_reducible refine Gx.drew ?_) | (with_reducible refine Gx.drewN ?_) | (with_reducible refine Gx.setRow ?_ (by first | omega | (simp; done) | (simp <;> omega))) | (with_reducible refine Gx.setCell ?_ (by first | omega | (simp; done) | (simp <;> omega)))))).mono ?_; rintro e w' ⟨rfl, x0, rfl⟩)
      | (go_at_call 6; refine (C2.out _ (by repeat (first | (with_reducible exact Gx.refl _) | (with_reducible assumption) | (with_reducible refine Gx.gx ?_) | (with_reducible refine Gx.alloc ?_) | (with_reducible refine Gx.drew ?_) | (with_reducible refine Gx.drewN ?_) | (with_reducible refine Gx.setRow ?_ (by first | omega | (simp; done) | (simp <;> omega))) | (with_reducible refine Gx.setCell ?_ (by first | omega | (simp; done) | (simp <;> omega)))))).mono ?_; rintro e w' ⟨rfl, x1, rfl⟩)
      | (go_at_call 7; refine (C3.out _ (by repeat (first | (with_reducible exact Gx.refl _) | (with_reducible assumption) | (with_reducible refine Gx.gx ?_) | (with_reducible refine Gx.alloc ?_) | (with_reducible refine Gx.drew ?_) | (with_reducible refine Gx.drewN ?_) | (with_reducible refine Gx.setRow ?_ (by first | omega | (simp; done) | (simp <;> omega))) | (with_reducible refine Gx.setCell ?_ (by first | omega | (simp; done) | (simp <;> omega)))))).mono ?_; rintro e w' ⟨rfl, x2, rfl⟩)
      | (go_at_call 8; refine (C4.out _ (by repeat (first | (with_reducible exact Gx.refl _) | (with_reducible assumption) | (with_reducible refine Gx.gx ?_) | (with_reducible refine Gx.alloc ?_) | (with_reducible refine Gx.drew ?_) | (with_reducible refine Gx.drewN ?_) | (with_reducible refine Gx.setRow ?_ (by first | omega | (simp; done) | (simp <;> omega))) | (with_reducible refine Gx.setCell ?_ (by first | omega | (simp; done) | (simp <;> omega)))))).mono ?_; rintro e w' ⟨rfl, x3, rfl⟩)
      | (go_at_call 9; refine (C5.out _ (by repeat (first | (with_reducible exact Gx.refl _) | (with_reducible assumption) | (with_reducible refine Gx.gx ?_) | (with_reducible refine Gx.alloc ?_) | (with_reducible refine Gx.drew ?_) | (with_reducible refine Gx.drewN ?_) | (with_reducible refine Gx.setRow ?_ (by first | omega | (simp; done) | (simp <;> omega))) | (with_reducible refine Gx.setCell ?_ (by first | omega | (simp; done) | (simp <;> omega)))))).mono ?_; rintro e w' ⟨rfl, x4, rfl⟩)
      | (go_at_call 10; refine (holds_any _).mono ?_; rintro e w' ⟨rfl, y9, rfl⟩)
    go_ret
    exact ⟨rfl, (by repeat (first | (with_reducible exact Gx.refl _) | (with_reducible assumption) | (with_reducible refine Gx.gx ?_) | (with_reducible refine Gx.alloc ?_) | (with_reducible refine Gx.drew ?_) | (with_reducible refine Gx.drewN ?_) | (with_reducible refine Gx.setRow ?_ (by first | omega | (simp; done) | (simp <;> omega))) | (with_reducible refine Gx.setCell ?_ (by first | omega | (simp; done) | (simp <;> omega)))))⟩
theorem holdLaw (den : Int) (g : Nat → Sm) (n c : Nat) (A : Option Addr) (a l : Int) (w : World) (hL : SmAt w g n A) :
    Calls Try.prog 3 #[serV den A n c, .int .i64 a, .int .i64 l] w fun e w' => e = .returned (.bool true) ∧ ∃ x, w' = gx w x := by
  by_cases h : holdE den g n a l = 0
  · obtain ⟨pN, pD, rN, rD, pB, rB, F, K1, K2, HF⟩ := btw_both den g n c A a l h
    obtain ⟨hs, ⟨a1, a2⟩, l1, l2⟩ := holdE_0 h
    obtain ⟨_, hn, hG⟩ := goodS_of hs
    have ha : inB 0 1099511627776 a = true := inB_iff.2 ⟨a1, a2⟩
    have hl : inB 0 1099511627776 l = true := inB_iff.2 ⟨l1, l2⟩
    obtain ⟨E1, E2⟩ := hold_yes h
    refine holdLaw_core den A n c a l w (holdV den g n a l) (holdB den g n a l) pB rB F 0 pN pD rN rD ?_ ?_ ?_ ?_ ?_ HF
    · rintro W ⟨x, rfl⟩
      have := Hold_any den g n c A a l _ (hL.gx (x := x))
      rw [h] at this
      exact this
    · rintro W ⟨x, rfl⟩
      rw [E1, E2]
      exact RHold_ok den g n c A a l _ (hL.gx (x := x)) _ _ hs ha hl (fun W hW => Held_any den g n c A a l W hW hn hG a1 a2)
    · rintro W ⟨x, rfl⟩
      exact K1 _ hL.gx
    · rintro W ⟨x, rfl⟩
      exact RBetween_ok den g n c A a l _ hL.gx rN rD rB F hs ha hl K2
    · rintro W ⟨x, rfl⟩
      exact RPromised_ok den g n c A a l _ hL.gx rN rD rB F hs ha hl K2
  · obtain ⟨E1, E2⟩ := hold_not h
    refine holdLaw_core den A n c a l w ⟨0, 0, 0⟩ false false false true (holdE den g n a l) 0 0 0 0 ?_ ?_ ?_ ?_ ?_ (fun _ => ⟨rfl, rfl, rfl⟩)
    · rintro W ⟨x, rfl⟩
      have := Hold_any den g n c A a l _ (hL.gx (x := x))
      rw [E1, E2] at this
      exact this
    · rintro W ⟨x, rfl⟩
      exact RHold_bad den g n c A a l _ hL.gx h
    · rintro W ⟨x, rfl⟩
      exact Between_bad den g n c A a l _ hL.gx _ rfl h
    · rintro W ⟨x, rfl⟩
      exact RBetween_bad den g n c A a l _ hL.gx h
    · rintro W ⟨x, rfl⟩
      exact RPromised_bad den g n c A a l _ hL.gx h
end Go.Proofs.Ytlnbadjjgbecgaa
