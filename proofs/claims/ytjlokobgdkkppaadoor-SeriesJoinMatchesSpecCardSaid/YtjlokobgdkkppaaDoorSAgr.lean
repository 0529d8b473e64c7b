/-
  One sample of two at one time, both sides: contracts.
-/
import Derived.Test.YtjlokobgdkkppaaDoorSRPart
import Derived.Test.YtjlokobgdkkppaaDoorSJPure
import Derived.Test.YtjlokobgdkkppaaDoorSCmbP
namespace Go.Proofs.YtjlokobgdkkppaaDoor
open Go.RowKit
-- AT2
-- AT3

theorem agreed_any (x y : Sm) (w : World) : Calls Tryd.prog 87 #[smV x.t x.n x.m, smV y.t y.n y.m] w fun e w' => e = .returned (smV (agr x y).t (agr x y).n (agr x y).m) ∧ ∃ z, w' = gx w z := by
  by_cases h1 : x.m < y.m
  · rw [agr_lt h1]
    have d1 : decide (x.m < y.m) = true := decide_eq_true h1
    obtain ⟨xt, xn, xm⟩ := x
    obtain ⟨yt, yn, ym⟩ := y
    simp only at d1 ⊢
    clear h1
    go_enter Tryd.func87, Tryd.ntmps87
    go_wp2
    exact bodyPost_ret (v := smV yt yn ym) (by simp [results, Tryd.results87, go_sem]) rfl ⟨rfl, (by repeat (first | (with_reducible exact Gx.refl _) | (with_reducible assumption) | (with_reducible refine Gx.gx ?_) | (with_reducible refine Gx.alloc ?_) | (with_reducible refine Gx.drew ?_) | (with_reducible refine Gx.drewN ?_) | (with_reducible refine Gx.setRow ?_ (by first | omega | (simp; done) | (simp <;> omega))) | (with_reducible refine Gx.setCell ?_ (by first | omega | (simp; done) | (simp <;> omega)))))⟩
  · have d1 : decide (x.m < y.m) = false := decide_eq_false h1
    by_cases h2 : x.m = y.m
    · by_cases h3 : x.n = y.n
      · rw [agr_one h1 (fun h => h.2 h3)]
        obtain ⟨xt, xn, xm⟩ := x
        obtain ⟨yt, yn, ym⟩ := y
        simp only at d1 h2 h3 ⊢
        subst h2 h3
        clear h1
        go_enter Tryd.func87, Tryd.ntmps87
        go_wp2
        exact bodyPost_ret (v := smV xt xn xm) (by simp [results, Tryd.results87, go_sem]) rfl ⟨rfl, (by repeat (first | (with_reducible exact Gx.refl _) | (with_reducible assumption) | (with_reducible refine Gx.gx ?_) | (with_reducible refine Gx.alloc ?_) | (with_reducible refine Gx.drew ?_) | (with_reducible refine Gx.drewN ?_) | (with_reducible refine Gx.setRow ?_ (by first | omega | (simp; done) | (simp <;> omega))) | (with_reducible refine Gx.setCell ?_ (by first | omega | (simp; done) | (simp <;> omega)))))⟩
      · rw [agr_two h2 h3]
        obtain ⟨xt, xn, xm⟩ := x
        obtain ⟨yt, yn, ym⟩ := y
        simp only at d1 h2 h3 ⊢
        subst h2
        have e1 : (xn == yn) = false := by simpa using h3
        have e2 : (xn != yn) = true := by simpa using h3
        clear h1 h3
        go_enter Tryd.func87, Tryd.ntmps87
        go_wp2
        exact bodyPost_ret (v := smV xt 0 1) (by simp [results, Tryd.results87, go_sem]) rfl ⟨rfl, (by repeat (first | (with_reducible exact Gx.refl _) | (with_reducible assumption) | (with_reducible refine Gx.gx ?_) | (with_reducible refine Gx.alloc ?_) | (with_reducible refine Gx.drew ?_) | (with_reducible refine Gx.drewN ?_) | (with_reducible refine Gx.setRow ?_ (by first | omega | (simp; done) | (simp <;> omega))) | (with_reducible refine Gx.setCell ?_ (by first | omega | (simp; done) | (simp <;> omega)))))⟩
    · rw [agr_one h1 (fun h => h2 h.1)]
      obtain ⟨xt, xn, xm⟩ := x
      obtain ⟨yt, yn, ym⟩ := y
      simp only at d1 h2 ⊢
      have e1 : (xm == ym) = false := by simpa using h2
      clear h1 h2
      go_enter Tryd.func87, Tryd.ntmps87
      go_wp2
      exact bodyPost_ret (v := smV xt xn xm) (by simp [results, Tryd.results87, go_sem]) rfl ⟨rfl, (by repeat (first | (with_reducible exact Gx.refl _) | (with_reducible assumption) | (with_reducible refine Gx.gx ?_) | (with_reducible refine Gx.alloc ?_) | (with_reducible refine Gx.drew ?_) | (with_reducible refine Gx.drewN ?_) | (with_reducible refine Gx.setRow ?_ (by first | omega | (simp; done) | (simp <;> omega))) | (with_reducible refine Gx.setCell ?_ (by first | omega | (simp; done) | (simp <;> omega)))))⟩
theorem both_any (x y : Sm) (w : World) (ht : x.t = y.t) : Calls Tryd.prog 54 #[smV x.t x.n x.m, smV y.t y.n y.m] w fun e w' => e = .returned (smV (agr x y).t (agr x y).n (agr x y).m) ∧ ∃ z, w' = gx w z := by
  obtain ⟨xt, xn, xm⟩ := x
  obtain ⟨yt, yn, ym⟩ := y
  simp only at ht ⊢
  subst ht
  rcases Int.lt_trichotomy xm ym with h1 | h1 | h1
  · rw [agr_lt (x := ⟨xt, xn, xm⟩) (y := ⟨xt, yn, ym⟩) h1]
    have d1 : decide (ym < xm) = false := decide_eq_false (by omega)
    have d2 : decide (xm < ym) = true := decide_eq_true h1
    clear h1
    go_enter Tryd.func54, Tryd.ntmps54
    go_wp2
    exact bodyPost_ret (v := smV xt yn ym) (by simp [results, Tryd.results54, go_sem]) rfl ⟨rfl, (by repeat (first | (with_reducible exact Gx.refl _) | (with_reducible assumption) | (with_reducible refine Gx.gx ?_) | (with_reducible refine Gx.alloc ?_) | (with_reducible refine Gx.drew ?_) | (with_reducible refine Gx.drewN ?_) | (with_reducible refine Gx.setRow ?_ (by first | omega | (simp; done) | (simp <;> omega))) | (with_reducible refine Gx.setCell ?_ (by first | omega | (simp; done) | (simp <;> omega)))))⟩
  · subst h1
    have d1 : decide (xm < xm) = false := decide_eq_false (by omega)
    by_cases h3 : xn = yn
    · subst h3
      rw [agr_one (x := ⟨xt, xn, xm⟩) (y := ⟨xt, xn, xm⟩) (Int.lt_irrefl _) (fun h => h.2 rfl)]
      go_enter Tryd.func54, Tryd.ntmps54
      go_wp2
      exact bodyPost_ret (v := smV xt xn xm) (by simp [results, Tryd.results54, go_sem]) rfl ⟨rfl, (by repeat (first | (with_reducible exact Gx.refl _) | (with_reducible assumption) | (with_reducible refine Gx.gx ?_) | (with_reducible refine Gx.alloc ?_) | (with_reducible refine Gx.drew ?_) | (with_reducible refine Gx.drewN ?_) | (with_reducible refine Gx.setRow ?_ (by first | omega | (simp; done) | (simp <;> omega))) | (with_reducible refine Gx.setCell ?_ (by first | omega | (simp; done) | (simp <;> omega)))))⟩
    · rw [agr_two (x := ⟨xt, xn, xm⟩) (y := ⟨xt, yn, xm⟩) rfl h3]
      have e2 : (xn != yn) = true := by simpa using h3
      clear h3
      go_enter Tryd.func54, Tryd.ntmps54
      go_wp2
      exact bodyPost_ret (v := smV xt 0 1) (by simp [results, Tryd.results54, go_sem]) rfl ⟨rfl, (by repeat (first | (with_reducible exact Gx.refl _) | (with_reducible assumption) | (with_reducible refine Gx.gx ?_) | (with_reducible refine Gx.alloc ?_) | (with_reducible refine Gx.drew ?_) | (with_reducible refine Gx.drewN ?_) | (with_reducible refine Gx.setRow ?_ (by first | omega | (simp; done) | (simp <;> omega))) | (with_reducible refine Gx.setCell ?_ (by first | omega | (simp; done) | (simp <;> omega)))))⟩
  · rw [agr_one (x := ⟨xt, xn, xm⟩) (y := ⟨xt, yn, ym⟩) (by show ¬ xm < ym; omega) (fun h => by have := h.1; simp only at this; omega)]
    have d1 : decide (ym < xm) = true := decide_eq_true h1
    clear h1
    go_enter Tryd.func54, Tryd.ntmps54
    go_wp2
    exact bodyPost_ret (v := smV xt xn xm) (by simp [results, Tryd.results54, go_sem]) rfl ⟨rfl, (by repeat (first | (with_reducible exact Gx.refl _) | (with_reducible assumption) | (with_reducible refine Gx.gx ?_) | (with_reducible refine Gx.alloc ?_) | (with_reducible refine Gx.drew ?_) | (with_reducible refine Gx.drewN ?_) | (with_reducible refine Gx.setRow ?_ (by first | omega | (simp; done) | (simp <;> omega))) | (with_reducible refine Gx.setCell ?_ (by first | omega | (simp; done) | (simp <;> omega)))))⟩
end Go.Proofs.YtjlokobgdkkppaaDoor
