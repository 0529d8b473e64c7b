/-
  What is wrong with two series, both sides: contracts.
-/
import Derived.Test.YtikgfidpdghkpaaDoorSRRsm
import Derived.Test.YtikgfidpdghkpaaDoorSCmbP
namespace Go.Proofs.YtikgfidpdghkpaaDoor
open Go.RowKit
-- AT2
-- AT3

theorem smAt_of {w W : World} {g : Nat → Sm} {n : Nat} {A : Option Addr} (h : SmAt w g n A) (hW : ∃ x, W = gx w x) : SmAt W g n A := by
  obtain ⟨x, rfl⟩ := hW; exact h.gx
set_option maxHeartbeats 1000000 in
set_option maxRecDepth 100000 in
theorem checkBoth_any (den : Int) (g : Nat → Sm) (n c : Nat) (A : Option Addr) (den2 : Int) (h : Nat → Sm) (m cb : Nat) (B : Option Addr) (w : World) (hL : SmAt w g n A) (hM : SmAt w h m B) :
    Calls Tryd.prog 26 #[serV den A n c, serV den2 B m cb] w fun e w' => e = .returned (.int .i64 (pairE den g n den2 h m)) ∧ ∃ x, w' = gx w x := by
  have C1 := fun W (hW : ∃ x, W = gx w x) => Check_any den g n c A W (smAt_of hL hW)
  have C2 := fun W (hW : ∃ x, W = gx w x) => Check_any den2 h m cb B W (smAt_of hM hW)
  clear hL hM
  by_cases h1 : serE den g n = 0
  · by_cases h2 : serE den2 h m = 0
    · rw [h1] at C1
      rw [h2] at C2
      by_cases h3 : den = den2
      · rw [pairE_4 h1 h2 h3]
        subst h3
        clear h1 h2
        go_enter Tryd.func26, Tryd.ntmps26
        go_wp2_with first
          | (go_at_call 14; (with_reducible refine (C1 _ (by repeat (first | (with_reducible exact Gx.refl _) | (with_reducible assumption) | (with_reducible refine Gx.gx ?_) | (with_reducible refine Gx.alloc ?_) | (with_reducible refine Gx.drew ?_) | (with_reducible refine Gx.drewN ?_) | (with_reducible refine Gx.setRow ?_ (by first | omega | (simp; done) | (simp <;> omega))) | (with_reducible refine Gx.setCell ?_ (by first | omega | (simp; done) | (simp <;> omega)))))).mono ?_); rintro e w' ⟨rfl, x1, rfl⟩)
          | (go_at_call 14; (with_reducible refine (C2 _ (by repeat (first | (with_reducible exact Gx.refl _) | (with_reducible assumption) | (with_reducible refine Gx.gx ?_) | (with_reducible refine Gx.alloc ?_) | (with_reducible refine Gx.drew ?_) | (with_reducible refine Gx.drewN ?_) | (with_reducible refine Gx.setRow ?_ (by first | omega | (simp; done) | (simp <;> omega))) | (with_reducible refine Gx.setCell ?_ (by first | omega | (simp; done) | (simp <;> omega)))))).mono ?_); rintro e w' ⟨rfl, x2, rfl⟩)
        go_ret
        exact ⟨rfl, (by repeat (first | (with_reducible exact Gx.refl _) | (with_reducible assumption) | (with_reducible refine Gx.gx ?_) | (with_reducible refine Gx.alloc ?_) | (with_reducible refine Gx.drew ?_) | (with_reducible refine Gx.drewN ?_) | (with_reducible refine Gx.setRow ?_ (by first | omega | (simp; done) | (simp <;> omega))) | (with_reducible refine Gx.setCell ?_ (by first | omega | (simp; done) | (simp <;> omega)))))⟩
      · rw [pairE_3 h1 h2 h3]
        have e1 : (den != den2) = true := by simpa using h3
        clear h1 h2 h3
        go_enter Tryd.func26, Tryd.ntmps26
        go_wp2_with first
          | (go_at_call 14; (with_reducible refine (C1 _ (by repeat (first | (with_reducible exact Gx.refl _) | (with_reducible assumption) | (with_reducible refine Gx.gx ?_) | (with_reducible refine Gx.alloc ?_) | (with_reducible refine Gx.drew ?_) | (with_reducible refine Gx.drewN ?_) | (with_reducible refine Gx.setRow ?_ (by first | omega | (simp; done) | (simp <;> omega))) | (with_reducible refine Gx.setCell ?_ (by first | omega | (simp; done) | (simp <;> omega)))))).mono ?_); rintro e w' ⟨rfl, x1, rfl⟩)
          | (go_at_call 14; (with_reducible refine (C2 _ (by repeat (first | (with_reducible exact Gx.refl _) | (with_reducible assumption) | (with_reducible refine Gx.gx ?_) | (with_reducible refine Gx.alloc ?_) | (with_reducible refine Gx.drew ?_) | (with_reducible refine Gx.drewN ?_) | (with_reducible refine Gx.setRow ?_ (by first | omega | (simp; done) | (simp <;> omega))) | (with_reducible refine Gx.setCell ?_ (by first | omega | (simp; done) | (simp <;> omega)))))).mono ?_); rintro e w' ⟨rfl, x2, rfl⟩)
        go_ret
        exact ⟨rfl, (by repeat (first | (with_reducible exact Gx.refl _) | (with_reducible assumption) | (with_reducible refine Gx.gx ?_) | (with_reducible refine Gx.alloc ?_) | (with_reducible refine Gx.drew ?_) | (with_reducible refine Gx.drewN ?_) | (with_reducible refine Gx.setRow ?_ (by first | omega | (simp; done) | (simp <;> omega))) | (with_reducible refine Gx.setCell ?_ (by first | omega | (simp; done) | (simp <;> omega)))))⟩
    · rw [pairE_2 h1 h2]
      rw [h1] at C1
      have n1 := ne0 h2
      have n2 := ne0' h2
      clear h1 h2
      generalize serE den2 h m = q at *
      go_enter Tryd.func26, Tryd.ntmps26
      go_wp2_with first
        | (go_at_call 14; (with_reducible refine (C1 _ (by repeat (first | (with_reducible exact Gx.refl _) | (with_reducible assumption) | (with_reducible refine Gx.gx ?_) | (with_reducible refine Gx.alloc ?_) | (with_reducible refine Gx.drew ?_) | (with_reducible refine Gx.drewN ?_) | (with_reducible refine Gx.setRow ?_ (by first | omega | (simp; done) | (simp <;> omega))) | (with_reducible refine Gx.setCell ?_ (by first | omega | (simp; done) | (simp <;> omega)))))).mono ?_); rintro e w' ⟨rfl, x1, rfl⟩)
        | (go_at_call 14; (with_reducible refine (C2 _ (by repeat (first | (with_reducible exact Gx.refl _) | (with_reducible assumption) | (with_reducible refine Gx.gx ?_) | (with_reducible refine Gx.alloc ?_) | (with_reducible refine Gx.drew ?_) | (with_reducible refine Gx.drewN ?_) | (with_reducible refine Gx.setRow ?_ (by first | omega | (simp; done) | (simp <;> omega))) | (with_reducible refine Gx.setCell ?_ (by first | omega | (simp; done) | (simp <;> omega)))))).mono ?_); rintro e w' ⟨rfl, x2, rfl⟩)
      go_ret
      exact ⟨rfl, (by repeat (first | (with_reducible exact Gx.refl _) | (with_reducible assumption) | (with_reducible refine Gx.gx ?_) | (with_reducible refine Gx.alloc ?_) | (with_reducible refine Gx.drew ?_) | (with_reducible refine Gx.drewN ?_) | (with_reducible refine Gx.setRow ?_ (by first | omega | (simp; done) | (simp <;> omega))) | (with_reducible refine Gx.setCell ?_ (by first | omega | (simp; done) | (simp <;> omega)))))⟩
  · rw [pairE_1 h1]
    have n1 := ne0 h1
    have n2 := ne0' h1
    clear h1
    generalize serE den g n = q at *
    go_enter Tryd.func26, Tryd.ntmps26
    go_wp2_with (go_at_call 14; (with_reducible refine (C1 _ (by repeat (first | (with_reducible exact Gx.refl _) | (with_reducible assumption) | (with_reducible refine Gx.gx ?_) | (with_reducible refine Gx.alloc ?_) | (with_reducible refine Gx.drew ?_) | (with_reducible refine Gx.drewN ?_) | (with_reducible refine Gx.setRow ?_ (by first | omega | (simp; done) | (simp <;> omega))) | (with_reducible refine Gx.setCell ?_ (by first | omega | (simp; done) | (simp <;> omega)))))).mono ?_); rintro e w' ⟨rfl, x1, rfl⟩)
    go_ret
    exact ⟨rfl, (by repeat (first | (with_reducible exact Gx.refl _) | (with_reducible assumption) | (with_reducible refine Gx.gx ?_) | (with_reducible refine Gx.alloc ?_) | (with_reducible refine Gx.drew ?_) | (with_reducible refine Gx.drewN ?_) | (with_reducible refine Gx.setRow ?_ (by first | omega | (simp; done) | (simp <;> omega))) | (with_reducible refine Gx.setCell ?_ (by first | omega | (simp; done) | (simp <;> omega)))))⟩
set_option maxHeartbeats 1000000 in
set_option maxRecDepth 100000 in
theorem pairFault_any (den : Int) (g : Nat → Sm) (n c : Nat) (A : Option Addr) (den2 : Int) (h : Nat → Sm) (m cb : Nat) (B : Option Addr) (w : World) (hL : SmAt w g n A) (hM : SmAt w h m B) :
    Calls Tryd.prog 32 #[serV den A n c, serV den2 B m cb] w fun e w' => e = .returned (.int .i64 (pairE den g n den2 h m)) ∧ ∃ x, w' = gx w x := by
  have C1 := fun W (hW : ∃ x, W = gx w x) => RCheck_any den g n c A W (smAt_of hL hW)
  have C2 := fun W (hW : ∃ x, W = gx w x) => RCheck_any den2 h m cb B W (smAt_of hM hW)
  clear hL hM
  by_cases h1 : serE den g n = 0
  · by_cases h2 : serE den2 h m = 0
    · rw [h1] at C1
      rw [h2] at C2
      by_cases h3 : den = den2
      · rw [pairE_4 h1 h2 h3]
        subst h3
        clear h1 h2
        go_enter Tryd.func32, Tryd.ntmps32
        go_wp2_with first
          | (go_at_call 21; (with_reducible refine (C1 _ (by repeat (first | (with_reducible exact Gx.refl _) | (with_reducible assumption) | (with_reducible refine Gx.gx ?_) | (with_reducible refine Gx.alloc ?_) | (with_reducible refine Gx.drew ?_) | (with_reducible refine Gx.drewN ?_) | (with_reducible refine Gx.setRow ?_ (by first | omega | (simp; done) | (simp <;> omega))) | (with_reducible refine Gx.setCell ?_ (by first | omega | (simp; done) | (simp <;> omega)))))).mono ?_); rintro e w' ⟨rfl, x1, rfl⟩)
          | (go_at_call 21; (with_reducible refine (C2 _ (by repeat (first | (with_reducible exact Gx.refl _) | (with_reducible assumption) | (with_reducible refine Gx.gx ?_) | (with_reducible refine Gx.alloc ?_) | (with_reducible refine Gx.drew ?_) | (with_reducible refine Gx.drewN ?_) | (with_reducible refine Gx.setRow ?_ (by first | omega | (simp; done) | (simp <;> omega))) | (with_reducible refine Gx.setCell ?_ (by first | omega | (simp; done) | (simp <;> omega)))))).mono ?_); rintro e w' ⟨rfl, x2, rfl⟩)
        go_ret
        exact ⟨rfl, (by repeat (first | (with_reducible exact Gx.refl _) | (with_reducible assumption) | (with_reducible refine Gx.gx ?_) | (with_reducible refine Gx.alloc ?_) | (with_reducible refine Gx.drew ?_) | (with_reducible refine Gx.drewN ?_) | (with_reducible refine Gx.setRow ?_ (by first | omega | (simp; done) | (simp <;> omega))) | (with_reducible refine Gx.setCell ?_ (by first | omega | (simp; done) | (simp <;> omega)))))⟩
      · rw [pairE_3 h1 h2 h3]
        have e1 : (den != den2) = true := by simpa using h3
        clear h1 h2 h3
        go_enter Tryd.func32, Tryd.ntmps32
        go_wp2_with first
          | (go_at_call 21; (with_reducible refine (C1 _ (by repeat (first | (with_reducible exact Gx.refl _) | (with_reducible assumption) | (with_reducible refine Gx.gx ?_) | (with_reducible refine Gx.alloc ?_) | (with_reducible refine Gx.drew ?_) | (with_reducible refine Gx.drewN ?_) | (with_reducible refine Gx.setRow ?_ (by first | omega | (simp; done) | (simp <;> omega))) | (with_reducible refine Gx.setCell ?_ (by first | omega | (simp; done) | (simp <;> omega)))))).mono ?_); rintro e w' ⟨rfl, x1, rfl⟩)
          | (go_at_call 21; (with_reducible refine (C2 _ (by repeat (first | (with_reducible exact Gx.refl _) | (with_reducible assumption) | (with_reducible refine Gx.gx ?_) | (with_reducible refine Gx.alloc ?_) | (with_reducible refine Gx.drew ?_) | (with_reducible refine Gx.drewN ?_) | (with_reducible refine Gx.setRow ?_ (by first | omega | (simp; done) | (simp <;> omega))) | (with_reducible refine Gx.setCell ?_ (by first | omega | (simp; done) | (simp <;> omega)))))).mono ?_); rintro e w' ⟨rfl, x2, rfl⟩)
        go_ret
        exact ⟨rfl, (by repeat (first | (with_reducible exact Gx.refl _) | (with_reducible assumption) | (with_reducible refine Gx.gx ?_) | (with_reducible refine Gx.alloc ?_) | (with_reducible refine Gx.drew ?_) | (with_reducible refine Gx.drewN ?_) | (with_reducible refine Gx.setRow ?_ (by first | omega | (simp; done) | (simp <;> omega))) | (with_reducible refine Gx.setCell ?_ (by first | omega | (simp; done) | (simp <;> omega)))))⟩
    · rw [pairE_2 h1 h2]
      rw [h1] at C1
      have n1 := ne0 h2
      have n2 := ne0' h2
      clear h1 h2
      generalize serE den2 h m = q at *
      go_enter Tryd.func32, Tryd.ntmps32
      go_wp2_with first
        | (go_at_call 21; (with_reducible refine (C1 _ (by repeat (first | (with_reducible exact Gx.refl _) | (with_reducible assumption) | (with_reducible refine Gx.gx ?_) | (with_reducible refine Gx.alloc ?_) | (with_reducible refine Gx.drew ?_) | (with_reducible refine Gx.drewN ?_) | (with_reducible refine Gx.setRow ?_ (by first | omega | (simp; done) | (simp <;> omega))) | (with_reducible refine Gx.setCell ?_ (by first | omega | (simp; done) | (simp <;> omega)))))).mono ?_); rintro e w' ⟨rfl, x1, rfl⟩)
        | (go_at_call 21; (with_reducible refine (C2 _ (by repeat (first | (with_reducible exact Gx.refl _) | (with_reducible assumption) | (with_reducible refine Gx.gx ?_) | (with_reducible refine Gx.alloc ?_) | (with_reducible refine Gx.drew ?_) | (with_reducible refine Gx.drewN ?_) | (with_reducible refine Gx.setRow ?_ (by first | omega | (simp; done) | (simp <;> omega))) | (with_reducible refine Gx.setCell ?_ (by first | omega | (simp; done) | (simp <;> omega)))))).mono ?_); rintro e w' ⟨rfl, x2, rfl⟩)
      go_ret
      exact ⟨rfl, (by repeat (first | (with_reducible exact Gx.refl _) | (with_reducible assumption) | (with_reducible refine Gx.gx ?_) | (with_reducible refine Gx.alloc ?_) | (with_reducible refine Gx.drew ?_) | (with_reducible refine Gx.drewN ?_) | (with_reducible refine Gx.setRow ?_ (by first | omega | (simp; done) | (simp <;> omega))) | (with_reducible refine Gx.setCell ?_ (by first | omega | (simp; done) | (simp <;> omega)))))⟩
  · rw [pairE_1 h1]
    have n1 := ne0 h1
    have n2 := ne0' h1
    clear h1
    generalize serE den g n = q at *
    go_enter Tryd.func32, Tryd.ntmps32
    go_wp2_with (go_at_call 21; (with_reducible refine (C1 _ (by repeat (first | (with_reducible exact Gx.refl _) | (with_reducible assumption) | (with_reducible refine Gx.gx ?_) | (with_reducible refine Gx.alloc ?_) | (with_reducible refine Gx.drew ?_) | (with_reducible refine Gx.drewN ?_) | (with_reducible refine Gx.setRow ?_ (by first | omega | (simp; done) | (simp <;> omega))) | (with_reducible refine Gx.setCell ?_ (by first | omega | (simp; done) | (simp <;> omega)))))).mono ?_); rintro e w' ⟨rfl, x1, rfl⟩)
    go_ret
    exact ⟨rfl, (by repeat (first | (with_reducible exact Gx.refl _) | (with_reducible assumption) | (with_reducible refine Gx.gx ?_) | (with_reducible refine Gx.alloc ?_) | (with_reducible refine Gx.drew ?_) | (with_reducible refine Gx.drewN ?_) | (with_reducible refine Gx.setRow ?_ (by first | omega | (simp; done) | (simp <;> omega))) | (with_reducible refine Gx.setCell ?_ (by first | omega | (simp; done) | (simp <;> omega)))))⟩
end Go.Proofs.YtikgfidpdghkpaaDoor
