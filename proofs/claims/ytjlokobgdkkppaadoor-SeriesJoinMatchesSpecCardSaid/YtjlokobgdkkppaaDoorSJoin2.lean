/-
  Join, the program's; what is wrong with two series, both sides: contracts.
-/
import Derived.Test.YtjlokobgdkkppaaDoorSJoin
namespace Go.Proofs.YtjlokobgdkkppaaDoor
open Go.RowKit
-- AT2
-- AT3

set_option maxHeartbeats 1000000 in
set_option maxRecDepth 100000 in
theorem checkBoth_any (den : Int) (g : Nat → Sm) (n c : Nat) (A : Option Addr) (den2 : Int) (h : Nat → Sm) (m cb : Nat) (B : Option Addr) (w : World) (hL : SmAt w g n A) (hM : SmAt w h m B) :
    Calls Tryd.prog 51 #[serV den A n c, serV den2 B m cb] w fun e w' => e = .returned (.int .i64 (pairE den g n den2 h m)) ∧ ∃ x, w' = gx w x := by
  have C1 := fun W (hW : ∃ x, W = gx w x) => Check_any den g n c A W (smAt_of hL hW)
  have C2 := fun W (hW : ∃ x, W = gx w x) => Check_any den2 h m cb B W (smAt_of hM hW)
  clear hL hM
  by_cases h1 : serE den g n = 0
  · by_cases h2 : serE den2 h m = 0
    · rw [h1] at C1
      rw [h2] at C2
      by_cases h3 : den = den2
      · rw [pairE_4 h1 h2 h3]
        subst h3
        clear h1 h2
        go_enter Tryd.func51, Tryd.ntmps51
        go_wp2_with first
          | (go_at_call 12; (with_reducible refine (C1 _ (by repeat (first | (with_reducible exact Gx.refl _) | (with_reducible assumption) | (with_reducible refine Gx.gx ?_) | (with_reducible refine Gx.alloc ?_) | (with_reducible refine Gx.drew ?_) | (with_reducible refine Gx.drewN ?_) | (with_reducible refine Gx.setRow ?_ (by first | omega | (simp; done) | (simp <;> omega))) | (with_reducible refine Gx.setCell ?_ (by first | omega | (simp; done) | (simp <;> omega)))))).mono ?_); rintro e w' ⟨rfl, x1, rfl⟩)
          | (go_at_call 12; (with_reducible refine (C2 _ (by repeat (first | (with_reducible exact Gx.refl _) | (with_reducible assumption) | (with_reducible refine Gx.gx ?_) | (with_reducible refine Gx.alloc ?_) | (with_reducible refine Gx.drew ?_) | (with_reducible refine Gx.drewN ?_) | (with_reducible refine Gx.setRow ?_ (by first | omega | (simp; done) | (simp <;> omega))) | (with_reducible refine Gx.setCell ?_ (by first | omega | (simp; done) | (simp <;> omega)))))).mono ?_); rintro e w' ⟨rfl, x2, rfl⟩)
        go_ret
        exact ⟨rfl, (by repeat (first | (with_reducible exact Gx.refl _) | (with_reducible assumption) | (with_reducible refine Gx.gx ?_) | (with_reducible refine Gx.alloc ?_) | (with_reducible refine Gx.drew ?_) | (with_reducible refine Gx.drewN ?_) | (with_reducible refine Gx.setRow ?_ (by first | omega | (simp; done) | (simp <;> omega))) | (with_reducible refine Gx.setCell ?_ (by first | omega | (simp; done) | (simp <;> omega)))))⟩
      · rw [pairE_3 h1 h2 h3]
        have e1 : (den != den2) = true := by simpa using h3
        clear h1 h2 h3
        go_enter Tryd.func51, Tryd.ntmps51
        go_wp2_with first
          | (go_at_call 12; (with_reducible refine (C1 _ (by repeat (first | (with_reducible exact Gx.refl _) | (with_reducible assumption) | (with_reducible refine Gx.gx ?_) | (with_reducible refine Gx.alloc ?_) | (with_reducible refine Gx.drew ?_) | (with_reducible refine Gx.drewN ?_) | (with_reducible refine Gx.setRow ?_ (by first | omega | (simp; done) | (simp <;> omega))) | (with_reducible refine Gx.setCell ?_ (by first | omega | (simp; done) | (simp <;> omega)))))).mono ?_); rintro e w' ⟨rfl, x1, rfl⟩)
          | (go_at_call 12; (with_reducible refine (C2 _ (by repeat (first | (with_reducible exact Gx.refl _) | (with_reducible assumption) | (with_reducible refine Gx.gx ?_) | (with_reducible refine Gx.alloc ?_) | (with_reducible refine Gx.drew ?_) | (with_reducible refine Gx.drewN ?_) | (with_reducible refine Gx.setRow ?_ (by first | omega | (simp; done) | (simp <;> omega))) | (with_reducible refine Gx.setCell ?_ (by first | omega | (simp; done) | (simp <;> omega)))))).mono ?_); rintro e w' ⟨rfl, x2, rfl⟩)
        go_ret
        exact ⟨rfl, (by repeat (first | (with_reducible exact Gx.refl _) | (with_reducible assumption) | (with_reducible refine Gx.gx ?_) | (with_reducible refine Gx.alloc ?_) | (with_reducible refine Gx.drew ?_) | (with_reducible refine Gx.drewN ?_) | (with_reducible refine Gx.setRow ?_ (by first | omega | (simp; done) | (simp <;> omega))) | (with_reducible refine Gx.setCell ?_ (by first | omega | (simp; done) | (simp <;> omega)))))⟩
    · rw [pairE_2 h1 h2]
      rw [h1] at C1
      have n1 := ne0 h2
      have n2 := ne0' h2
      clear h1 h2
      generalize serE den2 h m = q at *
      go_enter Tryd.func51, Tryd.ntmps51
      go_wp2_with first
        | (go_at_call 12; (with_reducible refine (C1 _ (by repeat (first | (with_reducible exact Gx.refl _) | (with_reducible assumption) | (with_reducible refine Gx.gx ?_) | (with_reducible refine Gx.alloc ?_) | (with_reducible refine Gx.drew ?_) | (with_reducible refine Gx.drewN ?_) | (with_reducible refine Gx.setRow ?_ (by first | omega | (simp; done) | (simp <;> omega))) | (with_reducible refine Gx.setCell ?_ (by first | omega | (simp; done) | (simp <;> omega)))))).mono ?_); rintro e w' ⟨rfl, x1, rfl⟩)
        | (go_at_call 12; (with_reducible refine (C2 _ (by repeat (first | (with_reducible exact Gx.refl _) | (with_reducible assumption) | (with_reducible refine Gx.gx ?_) | (with_reducible refine Gx.alloc ?_) | (with_reducible refine Gx.drew ?_) | (with_reducible refine Gx.drewN ?_) | (with_reducible refine Gx.setRow ?_ (by first | omega | (simp; done) | (simp <;> omega))) | (with_reducible refine Gx.setCell ?_ (by first | omega | (simp; done) | (simp <;> omega)))))).mono ?_); rintro e w' ⟨rfl, x2, rfl⟩)
      go_ret
      exact ⟨rfl, (by repeat (first | (with_reducible exact Gx.refl _) | (with_reducible assumption) | (with_reducible refine Gx.gx ?_) | (with_reducible refine Gx.alloc ?_) | (with_reducible refine Gx.drew ?_) | (with_reducible refine Gx.drewN ?_) | (with_reducible refine Gx.setRow ?_ (by first | omega | (simp; done) | (simp <;> omega))) | (with_reducible refine Gx.setCell ?_ (by first | omega | (simp; done) | (simp <;> omega)))))⟩
  · rw [pairE_1 h1]
    have n1 := ne0 h1
    have n2 := ne0' h1
    clear h1
    generalize serE den g n = q at *
    go_enter Tryd.func51, Tryd.ntmps51
    go_wp2_with (go_at_call 12; (with_reducible refine (C1 _ (by repeat (first | (with_reducible exact Gx.refl _) | (with_reducible assumption) | (with_reducible refine Gx.gx ?_) | (with_reducible refine Gx.alloc ?_) | (with_reducible refine Gx.drew ?_) | (with_reducible refine Gx.drewN ?_) | (with_reducible refine Gx.setRow ?_ (by first | omega | (simp; done) | (simp <;> omega))) | (with_reducible refine Gx.setCell ?_ (by first | omega | (simp; done) | (simp <;> omega)))))).mono ?_); rintro e w' ⟨rfl, x1, rfl⟩)
    go_ret
    exact ⟨rfl, (by repeat (first | (with_reducible exact Gx.refl _) | (with_reducible assumption) | (with_reducible refine Gx.gx ?_) | (with_reducible refine Gx.alloc ?_) | (with_reducible refine Gx.drew ?_) | (with_reducible refine Gx.drewN ?_) | (with_reducible refine Gx.setRow ?_ (by first | omega | (simp; done) | (simp <;> omega))) | (with_reducible refine Gx.setCell ?_ (by first | omega | (simp; done) | (simp <;> omega)))))⟩
set_option maxHeartbeats 1000000 in
set_option maxRecDepth 100000 in
theorem pairFault_any (den : Int) (g : Nat → Sm) (n c : Nat) (A : Option Addr) (den2 : Int) (h : Nat → Sm) (m cb : Nat) (B : Option Addr) (w : World) (hL : SmAt w g n A) (hM : SmAt w h m B) :
    Calls Tryd.prog 53 #[serV den A n c, serV den2 B m cb] w fun e w' => e = .returned (.int .i64 (pairE den g n den2 h m)) ∧ ∃ x, w' = gx w x := by
  have C1 := fun W (hW : ∃ x, W = gx w x) => RCheck_any den g n c A W (smAt_of hL hW)
  have C2 := fun W (hW : ∃ x, W = gx w x) => RCheck_any den2 h m cb B W (smAt_of hM hW)
  clear hL hM
  by_cases h1 : serE den g n = 0
  · by_cases h2 : serE den2 h m = 0
    · rw [h1] at C1
      rw [h2] at C2
      by_cases h3 : den = den2
      · rw [pairE_4 h1 h2 h3]
        subst h3
        clear h1 h2
        go_enter Tryd.func53, Tryd.ntmps53
        go_wp2_with first
          | (go_at_call 13; (with_reducible refine (C1 _ (by repeat (first | (with_reducible exact Gx.refl _) | (with_reducible assumption) | (with_reducible refine Gx.gx ?_) | (with_reducible refine Gx.alloc ?_) | (with_reducible refine Gx.drew ?_) | (with_reducible refine Gx.drewN ?_) | (with_reducible refine Gx.setRow ?_ (by first | omega | (simp; done) | (simp <;> omega))) | (with_reducible refine Gx.setCell ?_ (by first | omega | (simp; done) | (simp <;> omega)))))).mono ?_); rintro e w' ⟨rfl, x1, rfl⟩)
          | (go_at_call 13; (with_reducible refine (C2 _ (by repeat (first | (with_reducible exact Gx.refl _) | (with_reducible assumption) | (with_reducible refine Gx.gx ?_) | (with_reducible refine Gx.alloc ?_) | (with_reducible refine Gx.drew ?_) | (with_reducible refine Gx.drewN ?_) | (with_reducible refine Gx.setRow ?_ (by first | omega | (simp; done) | (simp <;> omega))) | (with_reducible refine Gx.setCell ?_ (by first | omega | (simp; done) | (simp <;> omega)))))).mono ?_); rintro e w' ⟨rfl, x2, rfl⟩)
        go_ret
        exact ⟨rfl, (by repeat (first | (with_reducible exact Gx.refl _) | (with_reducible assumption) | (with_reducible refine Gx.gx ?_) | (with_reducible refine Gx.alloc ?_) | (with_reducible refine Gx.drew ?_) | (with_reducible refine Gx.drewN ?_) | (with_reducible refine Gx.setRow ?_ (by first | omega | (simp; done) | (simp <;> omega))) | (with_reducible refine Gx.setCell ?_ (by first | omega | (simp; done) | (simp <;> omega)))))⟩
      · rw [pairE_3 h1 h2 h3]
        have e1 : (den != den2) = true := by simpa using h3
        clear h1 h2 h3
        go_enter Tryd.func53, Tryd.ntmps53
        go_wp2_with first
          | (go_at_call 13; (with_reducible refine (C1 _ (by repeat (first | (with_reducible exact Gx.refl _) | (with_reducible assumption) | (with_reducible refine Gx.gx ?_) | (with_reducible refine Gx.alloc ?_) | (with_reducible refine Gx.drew ?_) | (with_reducible refine Gx.drewN ?_) | (with_reducible refine Gx.setRow ?_ (by first | omega | (simp; done) | (simp <;> omega))) | (with_reducible refine Gx.setCell ?_ (by first | omega | (simp; done) | (simp <;> omega)))))).mono ?_); rintro e w' ⟨rfl, x1, rfl⟩)
          | (go_at_call 13; (with_reducible refine (C2 _ (by repeat (first | (with_reducible exact Gx.refl _) | (with_reducible assumption) | (with_reducible refine Gx.gx ?_) | (with_reducible refine Gx.alloc ?_) | (with_reducible refine Gx.drew ?_) | (with_reducible refine Gx.drewN ?_) | (with_reducible refine Gx.setRow ?_ (by first | omega | (simp; done) | (simp <;> omega))) | (with_reducible refine Gx.setCell ?_ (by first | omega | (simp; done) | (simp <;> omega)))))).mono ?_); rintro e w' ⟨rfl, x2, rfl⟩)
        go_ret
        exact ⟨rfl, (by repeat (first | (with_reducible exact Gx.refl _) | (with_reducible assumption) | (with_reducible refine Gx.gx ?_) | (with_reducible refine Gx.alloc ?_) | (with_reducible refine Gx.drew ?_) | (with_reducible refine Gx.drewN ?_) | (with_reducible refine Gx.setRow ?_ (by first | omega | (simp; done) | (simp <;> omega))) | (with_reducible refine Gx.setCell ?_ (by first | omega | (simp; done) | (simp <;> omega)))))⟩
    · rw [pairE_2 h1 h2]
      rw [h1] at C1
      have n1 := ne0 h2
      have n2 := ne0' h2
      clear h1 h2
      generalize serE den2 h m = q at *
      go_enter Tryd.func53, Tryd.ntmps53
      go_wp2_with first
        | (go_at_call 13; (with_reducible refine (C1 _ (by repeat (first | (with_reducible exact Gx.refl _) | (with_reducible assumption) | (with_reducible refine Gx.gx ?_) | (with_reducible refine Gx.alloc ?_) | (with_reducible refine Gx.drew ?_) | (with_reducible refine Gx.drewN ?_) | (with_reducible refine Gx.setRow ?_ (by first | omega | (simp; done) | (simp <;> omega))) | (with_reducible refine Gx.setCell ?_ (by first | omega | (simp; done) | (simp <;> omega)))))).mono ?_); rintro e w' ⟨rfl, x1, rfl⟩)
        | (go_at_call 13; (with_reducible refine (C2 _ (by repeat (first | (with_reducible exact Gx.refl _) | (with_reducible assumption) | (with_reducible refine Gx.gx ?_) | (with_reducible refine Gx.alloc ?_) | (with_reducible refine Gx.drew ?_) | (with_reducible refine Gx.drewN ?_) | (with_reducible refine Gx.setRow ?_ (by first | omega | (simp; done) | (simp <;> omega))) | (with_reducible refine Gx.setCell ?_ (by first | omega | (simp; done) | (simp <;> omega)))))).mono ?_); rintro e w' ⟨rfl, x2, rfl⟩)
      go_ret
      exact ⟨rfl, (by repeat (first | (with_reducible exact Gx.refl _) | (with_reducible assumption) | (with_reducible refine Gx.gx ?_) | (with_reducible refine Gx.alloc ?_) | (with_reducible refine Gx.drew ?_) | (with_reducible refine Gx.drewN ?_) | (with_reducible refine Gx.setRow ?_ (by first | omega | (simp; done) | (simp <;> omega))) | (with_reducible refine Gx.setCell ?_ (by first | omega | (simp; done) | (simp <;> omega)))))⟩
  · rw [pairE_1 h1]
    have n1 := ne0 h1
    have n2 := ne0' h1
    clear h1
    generalize serE den g n = q at *
    go_enter Tryd.func53, Tryd.ntmps53
    go_wp2_with (go_at_call 13; (with_reducible refine (C1 _ (by repeat (first | (with_reducible exact Gx.refl _) | (with_reducible assumption) | (with_reducible refine Gx.gx ?_) | (with_reducible refine Gx.alloc ?_) | (with_reducible refine Gx.drew ?_) | (with_reducible refine Gx.drewN ?_) | (with_reducible refine Gx.setRow ?_ (by first | omega | (simp; done) | (simp <;> omega))) | (with_reducible refine Gx.setCell ?_ (by first | omega | (simp; done) | (simp <;> omega)))))).mono ?_); rintro e w' ⟨rfl, x1, rfl⟩)
    go_ret
    exact ⟨rfl, (by repeat (first | (with_reducible exact Gx.refl _) | (with_reducible assumption) | (with_reducible refine Gx.gx ?_) | (with_reducible refine Gx.alloc ?_) | (with_reducible refine Gx.drew ?_) | (with_reducible refine Gx.drewN ?_) | (with_reducible refine Gx.setRow ?_ (by first | omega | (simp; done) | (simp <;> omega))) | (with_reducible refine Gx.setCell ?_ (by first | omega | (simp; done) | (simp <;> omega)))))⟩
/-- What is wrong with two series that are to be joined. -/
def joinE (den : Int) (g : Nat → Sm) (n : Nat) (den2 : Int) (h : Nat → Sm) (m : Nat) : Int := if pairE den g n den2 h m ≠ 0 then pairE den g n den2 h m else if 20000 < (jnL g n h m).length then 3 else 0
theorem joinE_1 {den den2 : Int} {g h : Nat → Sm} {n m : Nat} (h1 : pairE den g n den2 h m ≠ 0) : joinE den g n den2 h m = pairE den g n den2 h m := by unfold joinE; rw [if_pos h1]
theorem joinE_2 {den den2 : Int} {g h : Nat → Sm} {n m : Nat} (h1 : pairE den g n den2 h m = 0) (h2 : 20000 < (jnL g n h m).length) : joinE den g n den2 h m = 3 := by unfold joinE; rw [if_neg (fun k => k h1), if_pos h2]
theorem joinE_3 {den den2 : Int} {g h : Nat → Sm} {n m : Nat} (h1 : pairE den g n den2 h m = 0) (h2 : ¬ 20000 < (jnL g n h m).length) : joinE den g n den2 h m = 0 := by unfold joinE; rw [if_neg (fun k => k h1), if_neg h2]
attribute [irreducible] joinE
theorem leftAt_of {W : World} {g : Nat → Sm} {n c : Nat} {A : Option Addr} (hL : SmAt W g n A) (hN : A = none → n = 0 ∧ c = 0) (hnc : n ≤ c) : LeftAt W g n 0 n A c := by
  refine ⟨Nat.zero_add _, ?_, hN, hnc⟩
  have e : ptF g 0 = g := by funext k; show g (0 + k) = g k; rw [Nat.zero_add]
  rw [e]; exact hL
set_option maxHeartbeats 4000000 in
set_option maxRecDepth 100000 in
theorem Join_any (den : Int) (g : Nat → Sm) (n c : Nat) (A : Option Addr) (den2 : Int) (h : Nat → Sm) (m cb : Nat) (B : Option Addr) (w : World) (hL : SmAt w g n A) (hM : SmAt w h m B)
    (hN : A = none → n = 0 ∧ c = 0) (hnc : n ≤ c) (hNB : B = none → m = 0 ∧ cb = 0) (hmc : m ≤ cb) (f : Nat → Sm) (hf : f = lfun (jnL g n h m)) :
    Calls Tryd.prog 22 #[serV den A n c, serV den2 B m cb] w (SerPost w (if joinE den g n den2 h m = 0 then den else 0) f (if joinE den g n den2 h m = 0 then (jnL g n h m).length else 0) (joinE den g n den2 h m)) := by
  have C1 := fun W (hW : ∃ x, W = gx w x) => checkBoth_any den g n c A den2 h m cb B W (smAt_of hL hW) (smAt_of hM hW)
  by_cases h1 : pairE den g n den2 h m = 0
  · obtain ⟨e1, e2, rfl⟩ := pairE_0 h1
    obtain ⟨_, hn, hG⟩ := goodS_of e1
    obtain ⟨_, hm, hH⟩ := goodS_of e2
    have J := Lib.hid (fun W (hW : ∃ x, W = gx w x) => joined_any g h n c m cb A B W (leftAt_of (smAt_of hL hW) hN hnc) (leftAt_of (smAt_of hM hW) hNB hmc) hn hm f hf _ rfl)
    rw [h1] at C1
    have hq := jnL_len g n h m
    by_cases h2 : 20000 < (jnL g n h m).length
    · rw [joinE_2 h1 h2, if_neg (by decide), if_neg (by decide)]
      have d1 : decide (20000 < (jnL g n h m).length) = true := decide_eq_true h2
      clear h1 e1 e2 hL hM hf hG hH
      generalize (jnL g n h m).length = Q at *
      go_enter Tryd.func22, Tryd.ntmps22
      go_wp2_with first
        | (go_at_call 51; refine (C1 _ (by repeat (first | (with_reducible exact Gx.refl _) | (with_reducible assumption) | (with_reducible refine Gx.gx ?_) | (with_reducible refine Gx.alloc ?_) | (with_reducible refine Gx.drew ?_) | (with_reducible refine Gx.drewN ?_) | (with_reducible refine Gx.setRow ?_ (by first | omega | (simp; done) | (simp <;> omega))) | (with_reducible refine Gx.setCell ?_ (by first | omega | (simp; done) | (simp <;> omega)))))).mono ?_; rintro e w' ⟨rfl, x1, rfl⟩)
        | (go_at_call 52; refine (J.out _ (by repeat (first | (with_reducible exact Gx.refl _) | (with_reducible assumption) | (with_reducible refine Gx.gx ?_) | (with_reducible refine Gx.alloc ?_) | (with_reducible refine Gx.drew ?_) | (with_reducible refine Gx.drewN ?_) | (with_reducible refine Gx.setRow ?_ (by first | omega | (simp; done) | (simp <;> omega))) | (with_reducible refine Gx.setCell ?_ (by first | omega | (simp; done) | (simp <;> omega)))))).mono ?_; rintro e w' ⟨A2, c2, x2, rfl, rfl, hO⟩; clear hO)
      refine bodyPost_ret (v := .tuple #[serV 0 none 0 0, .int .i64 3]) (by simp [results, Tryd.results22, go_sem]) rfl ?_
      exact SerPost.zero (by repeat (first | (with_reducible exact Gx.refl _) | (with_reducible assumption) | (with_reducible refine Gx.gx ?_) | (with_reducible refine Gx.alloc ?_) | (with_reducible refine Gx.drew ?_) | (with_reducible refine Gx.drewN ?_) | (with_reducible refine Gx.setRow ?_ (by first | omega | (simp; done) | (simp <;> omega))) | (with_reducible refine Gx.setCell ?_ (by first | omega | (simp; done) | (simp <;> omega)))))
    · rw [joinE_3 h1 h2, if_pos rfl, if_pos rfl]
      have d1 : decide (20000 < (jnL g n h m).length) = false := decide_eq_false h2
      clear h1 e1 e2 hL hM hf hG hH
      generalize (jnL g n h m).length = Q at *
      go_enter Tryd.func22, Tryd.ntmps22
      go_wp2_with (go_at_call 51; refine (C1 _ (by repeat (first | (with_reducible exact Gx.refl _) | (with_reducible assumption) | (with_reducible refine Gx.gx ?_) | (with_reducible refine Gx.alloc ?_) | (with_reducible refine Gx.drew ?_) | (with_reducible refine Gx.drewN ?_) | (with_reducible refine Gx.setRow ?_ (by first | omega | (simp; done) | (simp <;> omega))) | (with_reducible refine Gx.setCell ?_ (by first | omega | (simp; done) | (simp <;> omega)))))).mono ?_; rintro e w' ⟨rfl, x1, rfl⟩)
      obtain ⟨W6, hW6⟩ : ∃ W6, W6 = gx (((w.alloc (.cells #[.int .i64 den, .slice A n c] 24)).alloc (.cells #[.int .i64 den, .slice B m cb] 24)).alloc (.cells #[.int .i64 0, .slice none 0 0] 24)) x1 := ⟨_, rfl⟩
      rw [← hW6]
      have G6 : ∃ x, W6 = gx w x := by rw [hW6]; exact (by repeat (first | (with_reducible exact Gx.refl _) | (with_reducible assumption) | (with_reducible refine Gx.gx ?_) | (with_reducible refine Gx.alloc ?_) | (with_reducible refine Gx.drew ?_) | (with_reducible refine Gx.drewN ?_) | (with_reducible refine Gx.setRow ?_ (by first | omega | (simp; done) | (simp <;> omega))) | (with_reducible refine Gx.setCell ?_ (by first | omega | (simp; done) | (simp <;> omega)))))
      have S6 : At W6 w.heap.size (.cells #[.int .i64 den, .slice A n c] 24 (0, 0)) := by rw [hW6]; (focus (repeat (first | (with_reducible assumption) | (with_reducible exact At.new _ _) | (with_reducible refine At.row ?_) | ((with_reducible refine At.row_other ?_ ?_); rotate_left; (focus (simp <;> omega))) | (with_reducible refine At.app ?_) | (with_reducible refine At.tick ?_) | (with_reducible refine At.gx ?_) | ((with_reducible refine At.new' ?_); focus (simp; done)) | (with_reducible refine At.alloc ?_) | (with_reducible refine At.drew ?_) | (with_reducible exact Is.new _ _ _) | (with_reducible refine Is.row ?_) | ((with_reducible refine Is.row_other ?_ ?_); rotate_left; (focus (simp <;> omega))) | (with_reducible refine Is.gx ?_) | ((with_reducible refine Is.new' ?_); focus (simp; done)) | (with_reducible refine Is.alloc ?_) | (with_reducible refine Is.drew ?_))))
      have R6 : At W6 (w.heap.size + 1 + 1) (.cells #[.int .i64 0, .slice none 0 0] 24 (0, 0)) := by rw [hW6]; (focus (repeat (first | (with_reducible assumption) | (with_reducible exact At.new _ _) | (with_reducible refine At.row ?_) | ((with_reducible refine At.row_other ?_ ?_); rotate_left; (focus (simp <;> omega))) | (with_reducible refine At.app ?_) | (with_reducible refine At.tick ?_) | (with_reducible refine At.gx ?_) | ((with_reducible refine At.new' ?_); focus (simp; done)) | (with_reducible refine At.alloc ?_) | (with_reducible refine At.drew ?_) | (with_reducible exact Is.new _ _ _) | (with_reducible refine Is.row ?_) | ((with_reducible refine Is.row_other ?_ ?_); rotate_left; (focus (simp <;> omega))) | (with_reducible refine Is.gx ?_) | ((with_reducible refine Is.new' ?_); focus (simp; done)) | (with_reducible refine Is.alloc ?_) | (with_reducible refine Is.drew ?_))))
      clear hW6 C1
      have s0 : W6.cell? ⟨w.heap.size, 0, none⟩ = some (.int .i64 den) := by rw [cell_of_row W6 _ _ _ _ _ S6]; rfl
      have r0 : W6.cell? ⟨w.heap.size + 1 + 1, 0, none⟩ = some (.int .i64 0) := by rw [cell_of_row W6 _ _ _ _ _ R6]; rfl
      have r1 : W6.cell? ⟨w.heap.size + 1 + 1, 1, none⟩ = some (.slice none 0 0) := by rw [cell_of_row W6 _ _ _ _ _ R6]; rfl
      have f0 : W6.frozen? ⟨w.heap.size + 1 + 1, 0, none⟩ = false := R6.frz
      have f1 : W6.frozen? ⟨w.heap.size + 1 + 1, 1, none⟩ = false := R6.frz
      have l6 : w.heap.size + 1 + 1 < W6.heap.size := R6.lt
      have l5 : w.heap.size < W6.heap.size := S6.lt
      refine (J.out _ G6).mono ?_
      rintro e W7 ⟨A7, c7, x7, rfl, rfl, hO⟩
      have HO := Lib.hid hO
      have hz : (Q : Int) ≤ 20000 := by omega
      clear hO
      go_wp2
      refine bodyPost_ret (v := .tuple #[serV den A7 Q c7, .int .i64 0]) (by simp [results, Tryd.results22, go_sem, l6, r0, r1]) rfl ?_
      exact Part_fin G6 (by omega) R6 HO.out
  · rw [joinE_1 h1, if_neg h1, if_neg h1]
    have n1 := ne0 h1
    have n2 := ne0' h1
    clear h1
    generalize pairE den g n den2 h m = q at *
    go_enter Tryd.func22, Tryd.ntmps22
    go_wp2_with (go_at_call 51; refine (C1 _ (by repeat (first | (with_reducible exact Gx.refl _) | (with_reducible assumption) | (with_reducible refine Gx.gx ?_) | (with_reducible refine Gx.alloc ?_) | (with_reducible refine Gx.drew ?_) | (with_reducible refine Gx.drewN ?_) | (with_reducible refine Gx.setRow ?_ (by first | omega | (simp; done) | (simp <;> omega))) | (with_reducible refine Gx.setCell ?_ (by first | omega | (simp; done) | (simp <;> omega)))))).mono ?_; rintro e w' ⟨rfl, x1, rfl⟩)
    refine bodyPost_ret (v := .tuple #[serV 0 none 0 0, .int .i64 q]) (by simp [results, Tryd.results22, go_sem]) rfl ?_
    exact SerPost.zero (by repeat (first | (with_reducible exact Gx.refl _) | (with_reducible assumption) | (with_reducible refine Gx.gx ?_) | (with_reducible refine Gx.alloc ?_) | (with_reducible refine Gx.drew ?_) | (with_reducible refine Gx.drewN ?_) | (with_reducible refine Gx.setRow ?_ (by first | omega | (simp; done) | (simp <;> omega))) | (with_reducible refine Gx.setCell ?_ (by first | omega | (simp; done) | (simp <;> omega)))))
end Go.Proofs.YtjlokobgdkkppaaDoor
