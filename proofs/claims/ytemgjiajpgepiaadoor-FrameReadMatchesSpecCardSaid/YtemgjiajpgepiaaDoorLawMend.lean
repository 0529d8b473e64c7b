/-
  FrameMendMatchesSpec: the walk.
-/
import Derived.Test.YtemgjiajpgepiaaDoorRMend
import Derived.Test.YtemgjiajpgepiaaDoorLawNew
namespace Go.Proofs.YtemgjiajpgepiaaDoor
open Go.RowKit
-- AT2

theorem Mend_any (F : List Int) (hF : Fr F) (w : World) (hT : Tab w) :
    Calls Tryd.prog 39 #[.agg (fc F)] w fun e w' => ∃ v x, e = .returned (.tuple #[.agg (fc (mdF F)), v, .bool (mdB F)]) ∧ w' = gx w x ∧ Own w.heap.size (gx w x) 3 1 v (mdP F).length (iC (mdP F)) := by
  cases hw : wideB F
  · cases hs : soundB F
    · exact Mend_loop F hF hw hs w hT
    · exact Mend_sound F hF hw hs w hT
  · exact Mend_wide F hF hw w
theorem RMend_any (F : List Int) (hF : Fr F) (w : World) :
    Calls Tryd.prog 40 #[.agg (fc F)] w fun e w' => ∃ v x, e = .returned (.tuple #[.agg (fc (mdF F)), v, .bool (mdB F)]) ∧ w' = gx w x ∧ Own w.heap.size (gx w x) 3 1 v (mdP F).length (iC (mdP F)) := by
  cases hw : wideB F
  · cases hs : soundB F
    · exact RMend_loop F hF hw hs w
    · exact RMend_sound F hF hw hs w
  · exact RMend_wide F hF hw w
theorem mdF_len (F : List Int) (hl : F.length = 64) : (mdF F).length = 64 := by
  unfold mdF
  split
  · exact zeroF_len
  · split
    · exact hl
    · split
      · exact mendTo_len zeroF_len hl 64
      · exact zeroF_len
theorem iC_get {P : List Int} {j : Nat} (h : j < P.length) : (iC P)[j]? = some (.int .i64 (gw P j)) := by
  unfold iC gw
  simp [List.getD, List.getElem?_eq_getElem h]
theorem shows_ints {P : List Int} {A : Option Addr} {w : World} (h : Shows (iC P) A w) (h0 : 0 < P.length) : ∃ g o, A = some ⟨g, o, none⟩ ∧ ∀ j, j < P.length → w.cell? ⟨g, o + j, none⟩ = some (.int .i64 (gw P j)) := by
  unfold Shows at h
  obtain ⟨g, o, e, hc⟩ := h (by rw [iC_len]; exact h0)
  exact ⟨g, o, e, fun j hj => hc j _ (iC_get hj)⟩

set_option maxHeartbeats 600000 in
set_option maxRecDepth 100000 in
theorem EqualI_none (A A' : Option Addr) (c c' : Nat) (w : World) :
    Calls Tryd.prog 28 #[.slice A 0 c, .slice A' 0 c'] w fun e w' => e = .returned (.bool true) ∧ ∃ x, w' = gx w x := by
  go_enter Tryd.func28, Tryd.ntmps28
  go_wp2
  go_loopw [13] (fun i wr => i = .int .i64 0 ∧ wr = w) (fun i _ => (intOf i).toNat)
  case atStart => exact ⟨rfl, rfl⟩
  case round =>
    obtain ⟨rfl, rfl⟩ := hrel
    go_wp2
    go_ret
    exact ⟨rfl, (by repeat (first | (with_reducible exact Gx.refl _) | (with_reducible assumption) | (with_reducible refine Gx.gx ?_) | (with_reducible refine Gx.alloc ?_) | (with_reducible refine Gx.drew ?_) | (with_reducible refine Gx.drewN ?_) | (with_reducible refine Gx.setRow ?_ (by simp)) | (with_reducible refine Gx.setCell ?_ (by simp))))⟩
theorem EqualI_shows (P : List Int) (n : Nat) (hP : P.length = n) (hn : n ≤ 9223372036854775807) (A A' : Option Addr) (c c' : Nat) (w : World) (h : Shows (iC P) A w) (h' : Shows (iC P) A' w) :
    Calls Tryd.prog 28 #[.slice A n c, .slice A' n c'] w fun e w' => e = .returned (.bool true) ∧ ∃ x, w' = gx w x := by
  rcases Nat.eq_zero_or_pos n with rfl | h0
  · exact EqualI_none A A' c c' w
  · obtain ⟨g, o, rfl, hc⟩ := shows_ints h (by omega)
    obtain ⟨g', o', rfl, hc'⟩ := shows_ints h' (by omega)
    exact EqualI_same P n g o c g' o' c' hn w (fun j hj => hc j (by omega)) (fun j hj => hc' j (by omega))
theorem mdP_len (F : List Int) : (mdP F).length ≤ 64 := by
  unfold mdP
  split
  · simp
  · split
    · simp
    · split
      · exact placesTo_len F 64
      · simp

set_option maxHeartbeats 1000000 in
set_option maxRecDepth 100000 in
theorem mendLaw (F : List Int) (hF : Fr F) (w : World) (hT : Tab w) :
    Calls Tryd.prog 6 #[.agg (fc F)] w fun e w' => e = .returned (.bool true) ∧ ∃ x, w' = gx w x := by
  have hl := hF.len
  have hl1 := mdF_len F hl
  have q := eqF_self (mdF F)
  have hp := mdP_len F
  go_enter Tryd.func6, Tryd.ntmps6
  go_wp2_with (first | (refine load_fr rfl _ rfl _ rfl ?_ ?_ ?_ ?_; rotate_left; (focus (repeat (first | (with_reducible assumption) | (with_reducible exact At.new _ _) | (with_reducible refine At.row ?_) | (with_reducible refine At.app ?_) | (with_reducible refine At.tick ?_) | (with_reducible refine At.gx ?_) | ((with_reducible refine At.new' ?_); focus (simp; done)) | (with_reducible refine At.alloc ?_) | (with_reducible refine At.drew ?_) | (with_reducible exact Is.new _ _ _) | (with_reducible refine Is.row ?_) | (with_reducible refine Is.gx ?_) | ((with_reducible refine Is.new' ?_); focus (simp; done)) | (with_reducible refine Is.alloc ?_) | (with_reducible refine Is.drew ?_)))); (focus (with_reducible (first | exact hl | exact hl1 | exact hl2 | exact hl3 | exact hl4 | exact zeroF_len)))) | (refine store_fr rfl _ _ rfl _ rfl _ rfl ?_ ?_ ?_ ?_ ?_; rotate_left; (focus (repeat (first | (with_reducible assumption) | (with_reducible exact At.new _ _) | (with_reducible refine At.row ?_) | (with_reducible refine At.app ?_) | (with_reducible refine At.tick ?_) | (with_reducible refine At.gx ?_) | ((with_reducible refine At.new' ?_); focus (simp; done)) | (with_reducible refine At.alloc ?_) | (with_reducible refine At.drew ?_) | (with_reducible exact Is.new _ _ _) | (with_reducible refine Is.row ?_) | (with_reducible refine Is.gx ?_) | ((with_reducible refine Is.new' ?_); focus (simp; done)) | (with_reducible refine Is.alloc ?_) | (with_reducible refine Is.drew ?_)))); (focus (with_reducible (first | exact hl | exact hl1 | exact hl2 | exact hl3 | exact hl4 | exact zeroF_len))); (focus (with_reducible (first | exact hl | exact hl1 | exact hl2 | exact hl3 | exact hl4 | exact zeroF_len)))) | (go_at_call 39; refine (Mend_any F hF _ ?_).mono ?_; (focus (repeat (first | (with_reducible exact hT) | (with_reducible assumption) | (with_reducible refine Tab.gx ?_ _) | (with_reducible refine Tab.alloc ?_ _)))); rintro e w' ⟨v1, z, rfl, rfl, hO1⟩; obtain ⟨A1, c1, rfl, -, -, -, hS1⟩ := hO1.is; clear hO1; (try simp only [gx_gx] at hS1)) | (go_at_call 40; refine (RMend_any F hF _).mono ?_; rintro e w' ⟨v2, z2, rfl, rfl, hO2⟩; obtain ⟨A2, c2, rfl, -, -, -, hS2⟩ := hO2.is; clear hO2; (try simp only [gx_gx] at hS2)) | (go_at_call 28; refine (EqualI_shows (mdP F) _ rfl (by omega) _ _ _ _ _ ?_ ?_).mono ?_; (focus (repeat (first | (with_reducible assumption) | ((with_reducible apply Shows.whole); focus ((focus (repeat (first | (with_reducible assumption) | (with_reducible exact At.new _ _) | (with_reducible refine At.row ?_) | (with_reducible refine At.app ?_) | (with_reducible refine At.tick ?_) | (with_reducible refine At.gx ?_) | ((with_reducible refine At.new' ?_); focus (simp; done)) | (with_reducible refine At.alloc ?_) | (with_reducible refine At.drew ?_) | (with_reducible exact Is.new _ _ _) | (with_reducible refine Is.row ?_) | (with_reducible refine Is.gx ?_) | ((with_reducible refine Is.new' ?_); focus (simp; done)) | (with_reducible refine Is.alloc ?_) | (with_reducible refine Is.drew ?_)))); done)) | (with_reducible refine Shows.app ?_) | (with_reducible refine Shows.tick ?_) | (with_reducible refine Shows.gx ?_) | (with_reducible refine Shows.alloc ?_) | (with_reducible refine Shows.drew ?_)))); (focus (repeat (first | (with_reducible assumption) | ((with_reducible apply Shows.whole); focus ((focus (repeat (first | (with_reducible assumption) | (with_reducible exact At.new _ _) | (with_reducible refine At.row ?_) | (with_reducible refine At.app ?_) | (with_reducible refine At.tick ?_) | (with_reducible refine At.gx ?_) | ((with_reducible refine At.new' ?_); focus (simp; done)) | (with_reducible refine At.alloc ?_) | (with_reducible refine At.drew ?_) | (with_reducible exact Is.new _ _ _) | (with_reducible refine Is.row ?_) | (with_reducible refine Is.gx ?_) | ((with_reducible refine Is.new' ?_); focus (simp; done)) | (with_reducible refine Is.alloc ?_) | (with_reducible refine Is.drew ?_)))); done)) | (with_reducible refine Shows.app ?_) | (with_reducible refine Shows.tick ?_) | (with_reducible refine Shows.gx ?_) | (with_reducible refine Shows.alloc ?_) | (with_reducible refine Shows.drew ?_)))); rintro e w' ⟨rfl, z3, rfl⟩) | (go_at_call 22; refine (framed_any _ ?_).mono ?_; (focus (repeat (first | (with_reducible exact hT) | (with_reducible assumption) | (with_reducible refine Tab.gx ?_ _) | (with_reducible refine Tab.alloc ?_ _)))); rintro e w' ⟨rfl, z4, rfl⟩))
  go_ret
  exact ⟨rfl, (by repeat (first | (with_reducible exact Gx.refl _) | (with_reducible assumption) | (with_reducible refine Gx.gx ?_) | (with_reducible refine Gx.alloc ?_) | (with_reducible refine Gx.drew ?_) | (with_reducible refine Gx.drewN ?_) | (with_reducible refine Gx.setRow ?_ (by simp)) | (with_reducible refine Gx.setCell ?_ (by simp))))⟩
end Go.Proofs.YtemgjiajpgepiaaDoor
