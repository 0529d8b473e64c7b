/-
  SeriesMeanMatchesSpec: the law's walk.
-/
import Derived.Test.YtlnbadjjgbecgaaSRMean
import Derived.Test.YtlnbadjjgbecgaaSHolds
namespace Go.Proofs.Ytlnbadjjgbecgaa
open Go.RowKit
-- AT2
-- AT3

set_option maxHeartbeats 4000000 in
set_option maxRecDepth 100000 in
theorem Mean_e0 (den : Int) (g : Nat → Sm) (n c : Nat) (A : Option Addr) (fr to lg : Int) (w : World) (hL : SmAt w g n A) (q : Int) (hs : serE den g n = q) (hq : q ≠ 0) :
    Calls Try.prog 11 #[serV den A n c, .int .i64 fr, .int .i64 to, .int .i64 lg] w fun e w' => e = .returned (.tuple #[ratV 0 0, .int .i64 0, .int .i64 q]) ∧ ∃ x, w' = gx w x := by
  have n1 := ne0 hq
  have n2 := ne0' hq
  clear hq
  go_enter Try.func11, Try.ntmps11
  go_wp2_with (go_at_call 23; refine (Check_any _ g _ _ _ _ (by (repeat (first | (with_reducible exact hL) | (with_reducible refine SmAt.gx ?_) | (with_reducible refine SmAt.alloc ?_))))).mono ?_; rw [hs]; rintro e w' ⟨rfl, x1, rfl⟩; have hs1 : w.heap.size + 1 < w.heap.size + 1 + 1 + x1.n := (by omega))
  exact bodyPost_ret (v := .tuple #[ratV 0 0, .int .i64 0, .int .i64 q]) (by simp [results, Try.results11, go_sem]) rfl ⟨rfl, (by repeat (first | (with_reducible exact Gx.refl _) | (with_reducible assumption) | (with_reducible refine Gx.gx ?_) | (with_reducible refine Gx.alloc ?_) | (with_reducible refine Gx.drew ?_) | (with_reducible refine Gx.drewN ?_) | (with_reducible refine Gx.setRow ?_ (by first | omega | (simp; done) | (simp <;> omega))) | (with_reducible refine Gx.setCell ?_ (by first | omega | (simp; done) | (simp <;> omega)))))⟩
set_option maxHeartbeats 4000000 in
set_option maxRecDepth 100000 in
theorem Mean_e1 (den : Int) (g : Nat → Sm) (n c : Nat) (A : Option Addr) (fr to lg : Int) (w : World) (hL : SmAt w g n A) (hs : serE den g n = 0) (r1 : decide (fr < 0) = true) :
    Calls Try.prog 11 #[serV den A n c, .int .i64 fr, .int .i64 to, .int .i64 lg] w fun e w' => e = .returned (.tuple #[ratV 0 0, .int .i64 0, .int .i64 9]) ∧ ∃ x, w' = gx w x := by
  go_enter Try.func11, Try.ntmps11
  go_wp2_with first
    | (go_at_call 23; refine (Check_any _ g _ _ _ _ (by (repeat (first | (with_reducible exact hL) | (with_reducible refine SmAt.gx ?_) | (with_reducible refine SmAt.alloc ?_))))).mono ?_; rw [hs]; rintro e w' ⟨rfl, x1, rfl⟩; have hs1 : w.heap.size + 1 < w.heap.size + 1 + 1 + x1.n := (by omega))
    | (go_at_call 24; refine (isTime_any _ _).mono ?_; rw [r6]; rintro e w' ⟨rfl, rfl⟩)
  exact bodyPost_ret (v := .tuple #[ratV 0 0, .int .i64 0, .int .i64 9]) (by simp [results, Try.results11, go_sem]) rfl ⟨rfl, (by repeat (first | (with_reducible exact Gx.refl _) | (with_reducible assumption) | (with_reducible refine Gx.gx ?_) | (with_reducible refine Gx.alloc ?_) | (with_reducible refine Gx.drew ?_) | (with_reducible refine Gx.drewN ?_) | (with_reducible refine Gx.setRow ?_ (by first | omega | (simp; done) | (simp <;> omega))) | (with_reducible refine Gx.setCell ?_ (by first | omega | (simp; done) | (simp <;> omega)))))⟩
set_option maxHeartbeats 4000000 in
set_option maxRecDepth 100000 in
theorem Mean_e2 (den : Int) (g : Nat → Sm) (n c : Nat) (A : Option Addr) (fr to lg : Int) (w : World) (hL : SmAt w g n A) (hs : serE den g n = 0) (r1 : decide (fr < 0) = false) (r2 : decide (to < fr) = true) :
    Calls Try.prog 11 #[serV den A n c, .int .i64 fr, .int .i64 to, .int .i64 lg] w fun e w' => e = .returned (.tuple #[ratV 0 0, .int .i64 0, .int .i64 9]) ∧ ∃ x, w' = gx w x := by
  go_enter Try.func11, Try.ntmps11
  go_wp2_with first
    | (go_at_call 23; refine (Check_any _ g _ _ _ _ (by (repeat (first | (with_reducible exact hL) | (with_reducible refine SmAt.gx ?_) | (with_reducible refine SmAt.alloc ?_))))).mono ?_; rw [hs]; rintro e w' ⟨rfl, x1, rfl⟩; have hs1 : w.heap.size + 1 < w.heap.size + 1 + 1 + x1.n := (by omega))
    | (go_at_call 24; refine (isTime_any _ _).mono ?_; rw [r6]; rintro e w' ⟨rfl, rfl⟩)
  exact bodyPost_ret (v := .tuple #[ratV 0 0, .int .i64 0, .int .i64 9]) (by simp [results, Try.results11, go_sem]) rfl ⟨rfl, (by repeat (first | (with_reducible exact Gx.refl _) | (with_reducible assumption) | (with_reducible refine Gx.gx ?_) | (with_reducible refine Gx.alloc ?_) | (with_reducible refine Gx.drew ?_) | (with_reducible refine Gx.drewN ?_) | (with_reducible refine Gx.setRow ?_ (by first | omega | (simp; done) | (simp <;> omega))) | (with_reducible refine Gx.setCell ?_ (by first | omega | (simp; done) | (simp <;> omega)))))⟩
set_option maxHeartbeats 4000000 in
set_option maxRecDepth 100000 in
theorem Mean_e3 (den : Int) (g : Nat → Sm) (n c : Nat) (A : Option Addr) (fr to lg : Int) (w : World) (hL : SmAt w g n A) (hs : serE den g n = 0) (r1 : decide (fr < 0) = false) (r2 : decide (to < fr) = false) (r3 : decide (1099511627776 < to) = true) :
    Calls Try.prog 11 #[serV den A n c, .int .i64 fr, .int .i64 to, .int .i64 lg] w fun e w' => e = .returned (.tuple #[ratV 0 0, .int .i64 0, .int .i64 9]) ∧ ∃ x, w' = gx w x := by
  go_enter Try.func11, Try.ntmps11
  go_wp2_with first
    | (go_at_call 23; refine (Check_any _ g _ _ _ _ (by (repeat (first | (with_reducible exact hL) | (with_reducible refine SmAt.gx ?_) | (with_reducible refine SmAt.alloc ?_))))).mono ?_; rw [hs]; rintro e w' ⟨rfl, x1, rfl⟩; have hs1 : w.heap.size + 1 < w.heap.size + 1 + 1 + x1.n := (by omega))
    | (go_at_call 24; refine (isTime_any _ _).mono ?_; rw [r6]; rintro e w' ⟨rfl, rfl⟩)
  exact bodyPost_ret (v := .tuple #[ratV 0 0, .int .i64 0, .int .i64 9]) (by simp [results, Try.results11, go_sem]) rfl ⟨rfl, (by repeat (first | (with_reducible exact Gx.refl _) | (with_reducible assumption) | (with_reducible refine Gx.gx ?_) | (with_reducible refine Gx.alloc ?_) | (with_reducible refine Gx.drew ?_) | (with_reducible refine Gx.drewN ?_) | (with_reducible refine Gx.setRow ?_ (by first | omega | (simp; done) | (simp <;> omega))) | (with_reducible refine Gx.setCell ?_ (by first | omega | (simp; done) | (simp <;> omega)))))⟩
set_option maxHeartbeats 4000000 in
set_option maxRecDepth 100000 in
theorem Mean_e4 (den : Int) (g : Nat → Sm) (n c : Nat) (A : Option Addr) (fr to lg : Int) (w : World) (hL : SmAt w g n A) (hs : serE den g n = 0) (r1 : decide (fr < 0) = false) (r2 : decide (to < fr) = false) (r3 : decide (1099511627776 < to) = false) (r4 : IntKind.i64.wrap (to - fr) = to - fr) (r5 : decide (1073741824 < to - fr) = true) :
    Calls Try.prog 11 #[serV den A n c, .int .i64 fr, .int .i64 to, .int .i64 lg] w fun e w' => e = .returned (.tuple #[ratV 0 0, .int .i64 0, .int .i64 9]) ∧ ∃ x, w' = gx w x := by
  go_enter Try.func11, Try.ntmps11
  go_wp2_with first
    | (go_at_call 23; refine (Check_any _ g _ _ _ _ (by (repeat (first | (with_reducible exact hL) | (with_reducible refine SmAt.gx ?_) | (with_reducible refine SmAt.alloc ?_))))).mono ?_; rw [hs]; rintro e w' ⟨rfl, x1, rfl⟩; have hs1 : w.heap.size + 1 < w.heap.size + 1 + 1 + x1.n := (by omega))
    | (go_at_call 24; refine (isTime_any _ _).mono ?_; rw [r6]; rintro e w' ⟨rfl, rfl⟩)
  exact bodyPost_ret (v := .tuple #[ratV 0 0, .int .i64 0, .int .i64 9]) (by simp [results, Try.results11, go_sem]) rfl ⟨rfl, (by repeat (first | (with_reducible exact Gx.refl _) | (with_reducible assumption) | (with_reducible refine Gx.gx ?_) | (with_reducible refine Gx.alloc ?_) | (with_reducible refine Gx.drew ?_) | (with_reducible refine Gx.drewN ?_) | (with_reducible refine Gx.setRow ?_ (by first | omega | (simp; done) | (simp <;> omega))) | (with_reducible refine Gx.setCell ?_ (by first | omega | (simp; done) | (simp <;> omega)))))⟩
set_option maxHeartbeats 4000000 in
set_option maxRecDepth 100000 in
theorem Mean_e5 (den : Int) (g : Nat → Sm) (n c : Nat) (A : Option Addr) (fr to lg : Int) (w : World) (hL : SmAt w g n A) (hs : serE den g n = 0) (r1 : decide (fr < 0) = false) (r2 : decide (to < fr) = false) (r3 : decide (1099511627776 < to) = false) (r4 : IntKind.i64.wrap (to - fr) = to - fr) (r5 : decide (1073741824 < to - fr) = false) (r6 : inB 0 1099511627776 lg = false) :
    Calls Try.prog 11 #[serV den A n c, .int .i64 fr, .int .i64 to, .int .i64 lg] w fun e w' => e = .returned (.tuple #[ratV 0 0, .int .i64 0, .int .i64 9]) ∧ ∃ x, w' = gx w x := by
  go_enter Try.func11, Try.ntmps11
  go_wp2_with first
    | (go_at_call 23; refine (Check_any _ g _ _ _ _ (by (repeat (first | (with_reducible exact hL) | (with_reducible refine SmAt.gx ?_) | (with_reducible refine SmAt.alloc ?_))))).mono ?_; rw [hs]; rintro e w' ⟨rfl, x1, rfl⟩; have hs1 : w.heap.size + 1 < w.heap.size + 1 + 1 + x1.n := (by omega))
    | (go_at_call 24; refine (isTime_any _ _).mono ?_; rw [r6]; rintro e w' ⟨rfl, rfl⟩)
  exact bodyPost_ret (v := .tuple #[ratV 0 0, .int .i64 0, .int .i64 9]) (by simp [results, Try.results11, go_sem]) rfl ⟨rfl, (by repeat (first | (with_reducible exact Gx.refl _) | (with_reducible assumption) | (with_reducible refine Gx.gx ?_) | (with_reducible refine Gx.alloc ?_) | (with_reducible refine Gx.drew ?_) | (with_reducible refine Gx.drewN ?_) | (with_reducible refine Gx.setRow ?_ (by first | omega | (simp; done) | (simp <;> omega))) | (with_reducible refine Gx.setCell ?_ (by first | omega | (simp; done) | (simp <;> omega)))))⟩
theorem Mean_bad (den : Int) (g : Nat → Sm) (n c : Nat) (A : Option Addr) (fr to lg : Int) (w : World) (hL : SmAt w g n A) (hs : serE den g n = 0) (h : ¬ (0 ≤ fr ∧ fr ≤ to ∧ to ≤ 1099511627776 ∧ to - fr ≤ 1073741824 ∧ 0 ≤ lg ∧ lg ≤ 1099511627776)) :
    Calls Try.prog 11 #[serV den A n c, .int .i64 fr, .int .i64 to, .int .i64 lg] w fun e w' => e = .returned (.tuple #[ratV 0 0, .int .i64 0, .int .i64 9]) ∧ ∃ x, w' = gx w x := by
  by_cases h1 : fr < 0
  · exact Mean_e1 den g n c A fr to lg w hL hs (decide_eq_true h1)
  · by_cases h2 : to < fr
    · exact Mean_e2 den g n c A fr to lg w hL hs (decide_eq_false h1) (decide_eq_true h2)
    · by_cases h3 : 1099511627776 < to
      · exact Mean_e3 den g n c A fr to lg w hL hs (decide_eq_false h1) (decide_eq_false h2) (decide_eq_true h3)
      · have h4 : IntKind.i64.wrap (to - fr) = to - fr := by rw [IntKind.wrap_i64]; omega
        by_cases h5 : 1073741824 < to - fr
        · exact Mean_e4 den g n c A fr to lg w hL hs (decide_eq_false h1) (decide_eq_false h2) (decide_eq_false h3) h4 (decide_eq_true h5)
        · exact Mean_e5 den g n c A fr to lg w hL hs (decide_eq_false h1) (decide_eq_false h2) (decide_eq_false h3) h4 (decide_eq_false h5) (inB_no.2 (by omega))
set_option maxHeartbeats 4000000 in
set_option maxRecDepth 100000 in
theorem RMean_e0 (den : Int) (g : Nat → Sm) (n c : Nat) (A : Option Addr) (fr to lg : Int) (w : World) (hL : SmAt w g n A) (q : Int) (hs : serE den g n = q) (hq : q ≠ 0) :
    Calls Try.prog 12 #[serV den A n c, .int .i64 fr, .int .i64 to, .int .i64 lg] w fun e w' => e = .returned (.tuple #[ratV 0 0, .int .i64 0, .int .i64 q]) ∧ ∃ x, w' = gx w x := by
  have n1 := ne0 hq
  have n2 := ne0' hq
  clear hq
  go_enter Try.func12, Try.ntmps12
  go_wp2_with (go_at_call 15; refine (RCheck_any _ g _ _ _ _ (by (repeat (first | (with_reducible exact hL) | (with_reducible refine SmAt.gx ?_) | (with_reducible refine SmAt.alloc ?_))))).mono ?_; rw [hs]; rintro e w' ⟨rfl, x1, rfl⟩; have hs1 : w.heap.size + 1 < w.heap.size + 1 + 1 + x1.n := (by omega))
  exact bodyPost_ret (v := .tuple #[ratV 0 0, .int .i64 0, .int .i64 q]) (by simp [results, Try.results12, go_sem]) rfl ⟨rfl, (by repeat (first | (with_reducible exact Gx.refl _) | (with_reducible assumption) | (with_reducible refine Gx.gx ?_) | (with_reducible refine Gx.alloc ?_) | (with_reducible refine Gx.drew ?_) | (with_reducible refine Gx.drewN ?_) | (with_reducible refine Gx.setRow ?_ (by first | omega | (simp; done) | (simp <;> omega))) | (with_reducible refine Gx.setCell ?_ (by first | omega | (simp; done) | (simp <;> omega)))))⟩
set_option maxHeartbeats 4000000 in
set_option maxRecDepth 100000 in
theorem RMean_e1 (den : Int) (g : Nat → Sm) (n c : Nat) (A : Option Addr) (fr to lg : Int) (w : World) (hL : SmAt w g n A) (hs : serE den g n = 0) (r1 : decide (fr < 0) = true) :
    Calls Try.prog 12 #[serV den A n c, .int .i64 fr, .int .i64 to, .int .i64 lg] w fun e w' => e = .returned (.tuple #[ratV 0 0, .int .i64 0, .int .i64 9]) ∧ ∃ x, w' = gx w x := by
  go_enter Try.func12, Try.ntmps12
  go_wp2_with first
    | (go_at_call 15; refine (RCheck_any _ g _ _ _ _ (by (repeat (first | (with_reducible exact hL) | (with_reducible refine SmAt.gx ?_) | (with_reducible refine SmAt.alloc ?_))))).mono ?_; rw [hs]; rintro e w' ⟨rfl, x1, rfl⟩; have hs1 : w.heap.size + 1 < w.heap.size + 1 + 1 + x1.n := (by omega))
    | (go_at_call 16; refine (outside_any _ _ _ _).mono ?_; rw [r6]; rintro e w' ⟨rfl, rfl⟩)
  exact bodyPost_ret (v := .tuple #[ratV 0 0, .int .i64 0, .int .i64 9]) (by simp [results, Try.results12, go_sem]) rfl ⟨rfl, (by repeat (first | (with_reducible exact Gx.refl _) | (with_reducible assumption) | (with_reducible refine Gx.gx ?_) | (with_reducible refine Gx.alloc ?_) | (with_reducible refine Gx.drew ?_) | (with_reducible refine Gx.drewN ?_) | (with_reducible refine Gx.setRow ?_ (by first | omega | (simp; done) | (simp <;> omega))) | (with_reducible refine Gx.setCell ?_ (by first | omega | (simp; done) | (simp <;> omega)))))⟩
set_option maxHeartbeats 4000000 in
set_option maxRecDepth 100000 in
theorem RMean_e2 (den : Int) (g : Nat → Sm) (n c : Nat) (A : Option Addr) (fr to lg : Int) (w : World) (hL : SmAt w g n A) (hs : serE den g n = 0) (r1 : decide (fr < 0) = false) (r2 : decide (to < fr) = true) :
    Calls Try.prog 12 #[serV den A n c, .int .i64 fr, .int .i64 to, .int .i64 lg] w fun e w' => e = .returned (.tuple #[ratV 0 0, .int .i64 0, .int .i64 9]) ∧ ∃ x, w' = gx w x := by
  go_enter Try.func12, Try.ntmps12
  go_wp2_with first
    | (go_at_call 15; refine (RCheck_any _ g _ _ _ _ (by (repeat (first | (with_reducible exact hL) | (with_reducible refine SmAt.gx ?_) | (with_reducible refine SmAt.alloc ?_))))).mono ?_; rw [hs]; rintro e w' ⟨rfl, x1, rfl⟩; have hs1 : w.heap.size + 1 < w.heap.size + 1 + 1 + x1.n := (by omega))
    | (go_at_call 16; refine (outside_any _ _ _ _).mono ?_; rw [r6]; rintro e w' ⟨rfl, rfl⟩)
  exact bodyPost_ret (v := .tuple #[ratV 0 0, .int .i64 0, .int .i64 9]) (by simp [results, Try.results12, go_sem]) rfl ⟨rfl, (by repeat (first | (with_reducible exact Gx.refl _) | (with_reducible assumption) | (with_reducible refine Gx.gx ?_) | (with_reducible refine Gx.alloc ?_) | (with_reducible refine Gx.drew ?_) | (with_reducible refine Gx.drewN ?_) | (with_reducible refine Gx.setRow ?_ (by first | omega | (simp; done) | (simp <;> omega))) | (with_reducible refine Gx.setCell ?_ (by first | omega | (simp; done) | (simp <;> omega)))))⟩
set_option maxHeartbeats 4000000 in
set_option maxRecDepth 100000 in
theorem RMean_e3 (den : Int) (g : Nat → Sm) (n c : Nat) (A : Option Addr) (fr to lg : Int) (w : World) (hL : SmAt w g n A) (hs : serE den g n = 0) (r1 : decide (fr < 0) = false) (r2 : decide (to < fr) = false) (r3 : decide (1099511627776 < to) = true) :
    Calls Try.prog 12 #[serV den A n c, .int .i64 fr, .int .i64 to, .int .i64 lg] w fun e w' => e = .returned (.tuple #[ratV 0 0, .int .i64 0, .int .i64 9]) ∧ ∃ x, w' = gx w x := by
  go_enter Try.func12, Try.ntmps12
  go_wp2_with first
    | (go_at_call 15; refine (RCheck_any _ g _ _ _ _ (by (repeat (first | (with_reducible exact hL) | (with_reducible refine SmAt.gx ?_) | (with_reducible refine SmAt.alloc ?_))))).mono ?_; rw [hs]; rintro e w' ⟨rfl, x1, rfl⟩; have hs1 : w.heap.size + 1 < w.heap.size + 1 + 1 + x1.n := (by omega))
    | (go_at_call 16; refine (outside_any _ _ _ _).mono ?_; rw [r6]; rintro e w' ⟨rfl, rfl⟩)
  exact bodyPost_ret (v := .tuple #[ratV 0 0, .int .i64 0, .int .i64 9]) (by simp [results, Try.results12, go_sem]) rfl ⟨rfl, (by repeat (first | (with_reducible exact Gx.refl _) | (with_reducible assumption) | (with_reducible refine Gx.gx ?_) | (with_reducible refine Gx.alloc ?_) | (with_reducible refine Gx.drew ?_) | (with_reducible refine Gx.drewN ?_) | (with_reducible refine Gx.setRow ?_ (by first | omega | (simp; done) | (simp <;> omega))) | (with_reducible refine Gx.setCell ?_ (by first | omega | (simp; done) | (simp <;> omega)))))⟩
set_option maxHeartbeats 4000000 in
set_option maxRecDepth 100000 in
theorem RMean_e4 (den : Int) (g : Nat → Sm) (n c : Nat) (A : Option Addr) (fr to lg : Int) (w : World) (hL : SmAt w g n A) (hs : serE den g n = 0) (r1 : decide (fr < 0) = false) (r2 : decide (to < fr) = false) (r3 : decide (1099511627776 < to) = false) (r4 : IntKind.i64.wrap (to - fr) = to - fr) (r5 : decide (1073741824 < to - fr) = true) :
    Calls Try.prog 12 #[serV den A n c, .int .i64 fr, .int .i64 to, .int .i64 lg] w fun e w' => e = .returned (.tuple #[ratV 0 0, .int .i64 0, .int .i64 9]) ∧ ∃ x, w' = gx w x := by
  go_enter Try.func12, Try.ntmps12
  go_wp2_with first
    | (go_at_call 15; refine (RCheck_any _ g _ _ _ _ (by (repeat (first | (with_reducible exact hL) | (with_reducible refine SmAt.gx ?_) | (with_reducible refine SmAt.alloc ?_))))).mono ?_; rw [hs]; rintro e w' ⟨rfl, x1, rfl⟩; have hs1 : w.heap.size + 1 < w.heap.size + 1 + 1 + x1.n := (by omega))
    | (go_at_call 16; refine (outside_any _ _ _ _).mono ?_; rw [r6]; rintro e w' ⟨rfl, rfl⟩)
  exact bodyPost_ret (v := .tuple #[ratV 0 0, .int .i64 0, .int .i64 9]) (by simp [results, Try.results12, go_sem]) rfl ⟨rfl, (by repeat (first | (with_reducible exact Gx.refl _) | (with_reducible assumption) | (with_reducible refine Gx.gx ?_) | (with_reducible refine Gx.alloc ?_) | (with_reducible refine Gx.drew ?_) | (with_reducible refine Gx.drewN ?_) | (with_reducible refine Gx.setRow ?_ (by first | omega | (simp; done) | (simp <;> omega))) | (with_reducible refine Gx.setCell ?_ (by first | omega | (simp; done) | (simp <;> omega)))))⟩
set_option maxHeartbeats 4000000 in
set_option maxRecDepth 100000 in
theorem RMean_e5 (den : Int) (g : Nat → Sm) (n c : Nat) (A : Option Addr) (fr to lg : Int) (w : World) (hL : SmAt w g n A) (hs : serE den g n = 0) (r1 : decide (fr < 0) = false) (r2 : decide (to < fr) = false) (r3 : decide (1099511627776 < to) = false) (r4 : IntKind.i64.wrap (to - fr) = to - fr) (r5 : decide (1073741824 < to - fr) = false) (r6 : inB 0 1099511627776 lg = false) :
    Calls Try.prog 12 #[serV den A n c, .int .i64 fr, .int .i64 to, .int .i64 lg] w fun e w' => e = .returned (.tuple #[ratV 0 0, .int .i64 0, .int .i64 9]) ∧ ∃ x, w' = gx w x := by
  go_enter Try.func12, Try.ntmps12
  go_wp2_with first
    | (go_at_call 15; refine (RCheck_any _ g _ _ _ _ (by (repeat (first | (with_reducible exact hL) | (with_reducible refine SmAt.gx ?_) | (with_reducible refine SmAt.alloc ?_))))).mono ?_; rw [hs]; rintro e w' ⟨rfl, x1, rfl⟩; have hs1 : w.heap.size + 1 < w.heap.size + 1 + 1 + x1.n := (by omega))
    | (go_at_call 16; refine (outside_any _ _ _ _).mono ?_; rw [r6]; rintro e w' ⟨rfl, rfl⟩)
  exact bodyPost_ret (v := .tuple #[ratV 0 0, .int .i64 0, .int .i64 9]) (by simp [results, Try.results12, go_sem]) rfl ⟨rfl, (by repeat (first | (with_reducible exact Gx.refl _) | (with_reducible assumption) | (with_reducible refine Gx.gx ?_) | (with_reducible refine Gx.alloc ?_) | (with_reducible refine Gx.drew ?_) | (with_reducible refine Gx.drewN ?_) | (with_reducible refine Gx.setRow ?_ (by first | omega | (simp; done) | (simp <;> omega))) | (with_reducible refine Gx.setCell ?_ (by first | omega | (simp; done) | (simp <;> omega)))))⟩
theorem RMean_bad (den : Int) (g : Nat → Sm) (n c : Nat) (A : Option Addr) (fr to lg : Int) (w : World) (hL : SmAt w g n A) (hs : serE den g n = 0) (h : ¬ (0 ≤ fr ∧ fr ≤ to ∧ to ≤ 1099511627776 ∧ to - fr ≤ 1073741824 ∧ 0 ≤ lg ∧ lg ≤ 1099511627776)) :
    Calls Try.prog 12 #[serV den A n c, .int .i64 fr, .int .i64 to, .int .i64 lg] w fun e w' => e = .returned (.tuple #[ratV 0 0, .int .i64 0, .int .i64 9]) ∧ ∃ x, w' = gx w x := by
  by_cases h1 : fr < 0
  · exact RMean_e1 den g n c A fr to lg w hL hs (decide_eq_true h1)
  · by_cases h2 : to < fr
    · exact RMean_e2 den g n c A fr to lg w hL hs (decide_eq_false h1) (decide_eq_true h2)
    · by_cases h3 : 1099511627776 < to
      · exact RMean_e3 den g n c A fr to lg w hL hs (decide_eq_false h1) (decide_eq_false h2) (decide_eq_true h3)
      · have h4 : IntKind.i64.wrap (to - fr) = to - fr := by rw [IntKind.wrap_i64]; omega
        by_cases h5 : 1073741824 < to - fr
        · exact RMean_e4 den g n c A fr to lg w hL hs (decide_eq_false h1) (decide_eq_false h2) (decide_eq_false h3) h4 (decide_eq_true h5)
        · exact RMean_e5 den g n c A fr to lg w hL hs (decide_eq_false h1) (decide_eq_false h2) (decide_eq_false h3) h4 (decide_eq_false h5) (inB_no.2 (by omega))
/-- Mean of both sides: the same. -/
theorem mean_both (den : Int) (g : Nat → Sm) (n c : Nat) (A : Option Addr) (fr to lg : Int) : ∃ P Q R E : Int, (∀ W, SmAt W g n A → Calls Try.prog 11 #[serV den A n c, .int .i64 fr, .int .i64 to, .int .i64 lg] W fun e w' => e = .returned (.tuple #[ratV P Q, .int .i64 R, .int .i64 E]) ∧ ∃ x, w' = gx W x) ∧ (∀ W, SmAt W g n A → Calls Try.prog 12 #[serV den A n c, .int .i64 fr, .int .i64 to, .int .i64 lg] W fun e w' => e = .returned (.tuple #[ratV P Q, .int .i64 R, .int .i64 E]) ∧ ∃ x, w' = gx W x) := by
  by_cases hs : serE den g n = 0
  · by_cases h : 0 ≤ fr ∧ fr ≤ to ∧ to ≤ 1099511627776 ∧ to - fr ≤ 1073741824 ∧ 0 ≤ lg ∧ lg ≤ 1099511627776
    · obtain ⟨_, hn, hG⟩ := goodS_of hs
      obtain ⟨h1, h2, h3, h4, h5, h6⟩ := h
      have hsm := mnL_small hG fr to lg n (Nat.le_refl _)
      have htk : ∀ k, k ≤ n → sumT (mnL g n fr to lg k) ≤ 1073741824 := fun k hk => by have := mnL_total hG (lg := lg) h2 k hk; omega
      have hT2 := htk n (Nat.le_refl _)
      have hlen : (mnL g n fr to lg n).length ≤ 20000 := by have := mnL_len g n fr to lg n; omega
      have r1 : decide (fr < 0) = false := decide_eq_false (by omega)
      have r2 : decide (to < fr) = false := decide_eq_false (by omega)
      have r3 : decide (1099511627776 < to) = false := decide_eq_false (by omega)
      have r4 : IntKind.i64.wrap (to - fr) = to - fr := by rw [IntKind.wrap_i64]; omega
      have r5 : decide (1073741824 < to - fr) = false := decide_eq_false (by omega)
      have r6 : inB 0 1099511627776 lg = true := inB_iff.2 ⟨h5, h6⟩
      have K1 : Hid (∀ W, SmAt W g n A → Calls Try.prog 23 #[serV den A n c] W fun e w' => e = .returned (.int .i64 0) ∧ ∃ x, w' = gx W x) := fun W hW => by rw [← hs]; exact Check_any den g n c A W hW
      have K2 : Hid (∀ W, SmAt W g n A → Calls Try.prog 15 #[serV den A n c] W fun e w' => e = .returned (.int .i64 0) ∧ ∃ x, w' = gx W x) := fun W hW => by rw [← hs]; exact RCheck_any den g n c A W hW
      have K3 : Hid (∀ W, SmAt W g n A → Calls Try.prog 25 #[.slice A n c, .int .i64 fr, .int .i64 to, .int .i64 lg] W fun e w' => ∃ A' c' x, e = .returned (.slice A' (mnL g n fr to lg n).length c') ∧ w' = gx W x ∧ Own W.heap.size w' 58 2 (.slice A' (mnL g n fr to lg n).length c') (mnL g n fr to lg n).length (mnC (mnL g n fr to lg n))) := fun W hW =>
        stretches_any g n c A fr to lg W hW hn hG (by omega) (by omega) (by omega)
      have hab := sumS_abs _ hsm
      have both : ∀ (p q : Int) (ok : Bool),
          (0 < sumT (mnL g n fr to lg n) → (lowN (sumS (mnL g n fr to lg n)) (sumT (mnL g n fr to lg n))).natAbs ≤ 4611686018427387904 → p = lowN (sumS (mnL g n fr to lg n)) (sumT (mnL g n fr to lg n)) ∧ q = lowD (sumS (mnL g n fr to lg n)) (sumT (mnL g n fr to lg n)) ∧ ok = true) →
          (0 < sumT (mnL g n fr to lg n) → ¬ (lowN (sumS (mnL g n fr to lg n)) (sumT (mnL g n fr to lg n))).natAbs ≤ 4611686018427387904 → p = 0 ∧ q = 0 ∧ ok = false) →
          ∀ P Q R E : Int, (sumT (mnL g n fr to lg n) = 0 → P = 0 ∧ Q = 0 ∧ R = 0 ∧ E = 13) → (0 < sumT (mnL g n fr to lg n) → ok = true → P = p ∧ Q = q ∧ R = (sumT (mnL g n fr to lg n) : Int) ∧ E = 0) → (0 < sumT (mnL g n fr to lg n) → ok = false → P = 0 ∧ Q = 0 ∧ R = 0 ∧ E = 3) →
          (∀ W, SmAt W g n A → Calls Try.prog 11 #[serV den A n c, .int .i64 fr, .int .i64 to, .int .i64 lg] W fun e w' => e = .returned (.tuple #[ratV P Q, .int .i64 R, .int .i64 E]) ∧ ∃ x, w' = gx W x) ∧ (∀ W, SmAt W g n A → Calls Try.prog 12 #[serV den A n c, .int .i64 fr, .int .i64 to, .int .i64 lg] W fun e w' => e = .returned (.tuple #[ratV P Q, .int .i64 R, .int .i64 E]) ∧ ∃ x, w' = gx W x) := by
        intro p q ok g1 g2 P Q R E e0 e1 e2
        constructor
        · intro W hW
          refine Mean_core den g n c A fr to lg W hW (mnL g n fr to lg n) _ rfl hT2 hlen r1 r2 r3 r4 r5 r6 K1 K3 p q ok ?_ P Q R E e0 e1 e2
          intro h0 A' c' W' hc
          exact meanOf_any (mnL g n fr to lg n) _ c' A' W' h0 hT2 hsm (Nat.le_refl _) hlen hc p q ok (g1 h0) (g2 h0)
        · intro W hW
          refine RMean_core den g n c A fr to lg W hW hn hG _ rfl htk (by omega) (by omega) (by omega) r1 r2 r3 r4 r5 r6 K2 p q ok ?_ P Q R E e0 e1 e2
          intro h0 ng m hv W'
          have hm : m ≤ 1125899906842624 * 1073741824 := by
            rw [← hv, wdV_abs] at hab
            exact Nat.le_trans hab (Nat.mul_le_mul_left _ hT2)
          have hl := (low_wd ng m _ h0).1
          have hl2 := wdV_abs ng (m / Nat.gcd m (sumT (mnL g n fr to lg n)))
          rw [hv] at hl
          by_cases hq : m / Nat.gcd m (sumT (mnL g n fr to lg n)) ≤ 4611686018427387904
          · obtain ⟨rfl, rfl, rfl⟩ := g1 h0 (by rw [hl, hl2]; exact hq)
            have := ratio_fine ng m _ (by omega) h0 (by omega) hq W'
            rw [hv] at this
            exact this
          · obtain ⟨rfl, rfl, rfl⟩ := g2 h0 (by rw [hl, hl2]; exact hq)
            exact ratio_big ng m _ (by omega) h0 (by omega) (by omega) W'
      generalize sumS (mnL g n fr to lg n) = S at *
      generalize sumT (mnL g n fr to lg n) = T at *
      rcases Nat.eq_zero_or_pos T with h0 | h0
      · exact ⟨0, 0, 0, 13, both 0 0 true (fun h => by omega) (fun h => by omega) 0 0 0 13 (fun _ => ⟨rfl, rfl, rfl, rfl⟩) (fun h => by omega) (fun h => by omega)⟩
      · by_cases hq : (lowN S T).natAbs ≤ 4611686018427387904
        · exact ⟨lowN S T, lowD S T, T, 0, both (lowN S T) (lowD S T) true (fun _ _ => ⟨rfl, rfl, rfl⟩) (fun _ h => absurd hq h) _ _ _ _ (fun h => by omega) (fun _ _ => ⟨rfl, rfl, rfl, rfl⟩) (fun _ h => by cases h)⟩
        · exact ⟨0, 0, 0, 3, both 0 0 false (fun _ h => absurd h hq) (fun _ _ => ⟨rfl, rfl, rfl⟩) _ _ _ _ (fun h => by omega) (fun _ h => by cases h) (fun _ _ => ⟨rfl, rfl, rfl, rfl⟩)⟩
    · exact ⟨0, 0, 0, 9, fun W hW => Mean_bad den g n c A fr to lg W hW hs h, fun W hW => RMean_bad den g n c A fr to lg W hW hs h⟩
  · exact ⟨0, 0, 0, serE den g n, fun W hW => Mean_e0 den g n c A fr to lg W hW _ rfl hs, fun W hW => RMean_e0 den g n c A fr to lg W hW _ rfl hs⟩
set_option maxHeartbeats 4000000 in
set_option maxRecDepth 100000 in
theorem meanLaw_core (den : Int) (A : Option Addr) (n c : Nat) (fr to lg : Int) (w : World) (P Q R E : Int)
    (C1 : Hid (∀ W, (∃ x, W = gx w x) → Calls Try.prog 11 #[serV den A n c, .int .i64 fr, .int .i64 to, .int .i64 lg] W fun e w' => e = .returned (.tuple #[ratV P Q, .int .i64 R, .int .i64 E]) ∧ ∃ x, w' = gx W x))
    (C2 : Hid (∀ W, (∃ x, W = gx w x) → Calls Try.prog 12 #[serV den A n c, .int .i64 fr, .int .i64 to, .int .i64 lg] W fun e w' => e = .returned (.tuple #[ratV P Q, .int .i64 R, .int .i64 E]) ∧ ∃ x, w' = gx W x)) :
    Calls Try.prog 4 #[serV den A n c, .int .i64 fr, .int .i64 to, .int .i64 lg] w fun e w' => e = .returned (.bool true) ∧ ∃ x, w' = gx w x := by
  go_enter Try.func4, Try.ntmps4
  go_wp2_with first
    | (go_at_call 11; refine (C1.out _ (by repeat (first | (with_reducible exact Gx.refl _) | (with_reducible assumption) | (with_reducible refine Gx.gx ?_) | (with_reducible refine Gx.alloc ?_) | (with_reducible refine Gx.drew ?_) | (with_reducible refine Gx.drewN ?_) | (with_reducible refine Gx.setRow ?_ (by first | omega | (simp; done) | (simp <;> omega))) | (with_reducible refine Gx.setCell ?_ (by first | omega | (simp; done) | (simp <;> omega)))))).mono ?_; rintro e w' ⟨rfl, x1, rfl⟩)
    | (go_at_call 12; refine (C2.out _ (by repeat (first | (with_reducible exact Gx.refl _) | (with_reducible assumption) | (with_reducible refine Gx.gx ?_) | (with_reducible refine Gx.alloc ?_) | (with_reducible refine Gx.drew ?_) | (with_reducible refine Gx.drewN ?_) | (with_reducible refine Gx.setRow ?_ (by first | omega | (simp; done) | (simp <;> omega))) | (with_reducible refine Gx.setCell ?_ (by first | omega | (simp; done) | (simp <;> omega)))))).mono ?_; rintro e w' ⟨rfl, x2, rfl⟩)
    | (go_at_call 10; refine (holds_any _).mono ?_; rintro e w' ⟨rfl, y9, rfl⟩)
  go_ret
  exact ⟨rfl, (by repeat (first | (with_reducible exact Gx.refl _) | (with_reducible assumption) | (with_reducible refine Gx.gx ?_) | (with_reducible refine Gx.alloc ?_) | (with_reducible refine Gx.drew ?_) | (with_reducible refine Gx.drewN ?_) | (with_reducible refine Gx.setRow ?_ (by first | omega | (simp; done) | (simp <;> omega))) | (with_reducible refine Gx.setCell ?_ (by first | omega | (simp; done) | (simp <;> omega)))))⟩
theorem meanLaw (den : Int) (g : Nat → Sm) (n c : Nat) (A : Option Addr) (fr to lg : Int) (w : World) (hL : SmAt w g n A) :
    Calls Try.prog 4 #[serV den A n c, .int .i64 fr, .int .i64 to, .int .i64 lg] w fun e w' => e = .returned (.bool true) ∧ ∃ x, w' = gx w x := by
  obtain ⟨P, Q, R, E, K1, K2⟩ := mean_both den g n c A fr to lg
  refine meanLaw_core den A n c fr to lg w P Q R E ?_ ?_
  · rintro W ⟨x, rfl⟩
    exact K1 _ hL.gx
  · rintro W ⟨x, rfl⟩
    exact K2 _ hL.gx
end Go.Proofs.Ytlnbadjjgbecgaa
