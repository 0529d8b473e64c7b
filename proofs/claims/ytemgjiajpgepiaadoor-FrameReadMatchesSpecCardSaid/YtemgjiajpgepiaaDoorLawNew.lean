/-
  FrameNewMatchesSpec: the walk.
-/
import Derived.Test.YtemgjiajpgepiaaDoorMakeWalk
namespace Go.Proofs.YtemgjiajpgepiaaDoor
open Go.RowKit

theorem newF_len (number : Int) (D : List Int) : (newF zeroF number D).length = 64 := by
  unfold newF
  split
  · rw [sealI_len, newTo_len, zeroF_len]
  · exact zeroF_len
/-- If there are 58 numbers at all, the cells of the slice hold them. -/
@[irreducible] def Held (D : List Int) (A : Option Addr) (w : World) : Prop :=
  D.length = 58 → ∃ b o, A = some ⟨b, o, none⟩ ∧ ∀ j, j < 58 → w.cell? ⟨b, o + j, none⟩ = some (.int .i64 (gw D j))
theorem Held.gx {D : List Int} {A : Option Addr} {w : World} {x : Ext} (h : Held D A w) : Held D A (gx w x) := by
  unfold Held at *
  intro hD
  obtain ⟨b, o, h1, h2⟩ := h hD
  exact ⟨b, o, h1, fun j hj => cell_keep_gx (h2 j hj)⟩
theorem Held.alloc {D : List Int} {A : Option Addr} {w : World} {o : Obj} (h : Held D A w) : Held D A (w.alloc o) := by
  unfold Held at *
  intro hD
  obtain ⟨b, o, h1, h2⟩ := h hD
  exact ⟨b, o, h1, fun j hj => cell_keep_alloc (h2 j hj)⟩
theorem valTo_made {number : Int} {D F : List Int} (m : Made number D F) (hD : D.length = 58) : valTo F 58 = D :=
  ext_gw (by rw [valTo_len, hD]) fun k hk => by rw [valTo_len] at hk; rw [gw_valTo F 58 (by omega) k hk, m.val k hk]
theorem lcells_of_at {w : World} {g : Nat} {B : List Bool} (hA : At w g (.cells (lc B) 4 (0, 0))) (n : Nat) (h : n ≤ B.length) (hB : ∀ j, j < n → gb B j = true) : ∀ j, j < n → w.cell? ⟨g, 0 + j, none⟩ = some (.bool true) := by
  intro j hj
  rw [Nat.zero_add, cell_of_row w g j _ _ _ hA, lc_get B j (by omega), hB j hj]
theorem Values_made {number : Int} {D F : List Int} (m : Made number D F) (hD : D.length = 58) (w : World) :
    Calls Tryd.prog 26 #[.agg (fc F)] w fun e w' => e = .returned (.tuple #[.slice (some ⟨w.heap.size + 1, 0, none⟩) 58 58, .slice (some ⟨w.heap.size + 1 + 1, 0, none⟩) 58 58]) ∧
      ∃ x, w' = gx (((w.alloc (.cells (fc F) 32)).alloc (.cells (ic D) 3)).alloc (.cells (lc (rightTo F 58)) 4)) x := by
  have h := Values_any F m.fr m.narrow m.odd w
  rw [valTo_made m hD] at h
  exact h
theorem Number_made {number : Int} {D F : List Int} (m : Made number D F) (w : World) :
    Calls Tryd.prog 25 #[.agg (fc F)] w fun e w' => e = .returned (.tuple #[.int .i64 number, .bool true]) ∧ ∃ x, w' = gx w x := by
  have h := Number_any F m.fr m.narrow (m.odd 1 (by omega) (by omega)) (m.odd 2 (by omega) (by omega)) w
  rw [m.num] at h
  exact h
theorem Seal_made {number : Int} {D F : List Int} (m : Made number D F) (w : World) (hT : Tab w) :
    Calls Tryd.prog 27 #[.agg (fc F)] w fun e w' => e = .returned (.tuple #[.agg (fc F), .int .i64 0]) ∧ ∃ x, w' = gx w x := by
  have h := Seal_any F m.fr w hT
  have hw := wideB_false.2 m.narrow
  have e1 : sealF F zeroF = F := by unfold sealF; rw [hw]; exact m.again
  have e2 : wideE F = 0 := by unfold wideE; rw [hw]; rfl
  rw [e1, e2] at h
  exact h

set_option maxHeartbeats 1000000 in
set_option maxRecDepth 100000 in
theorem newLaw_bad (number : Int) (D : List Int) (A : Option Addr) (c : Nat) (w : World) (hT : Tab w) (hH : Held D A w) (hE : newE number D ≠ 0) :
    Calls Tryd.prog 4 #[.int .i64 number, .slice A D.length c] w fun e w' => e = .returned (.bool true) ∧ ∃ x, w' = gx w x := by
  have hN : ∀ w, Tab w → Held D A w → Calls Tryd.prog 23 #[.int .i64 number, .slice A D.length c] w fun e w' => e = .returned (.tuple #[.agg (fc (newF zeroF number D)), .int .i64 (newE number D)]) ∧ ∃ x, w' = gx w x := fun w hT h => New_any number D A c w hT (by unfold Held at h; exact h)
  have hR : ∀ w, Tab w → Held D A w → Calls Tryd.prog 24 #[.int .i64 number, .slice A D.length c] w fun e w' => e = .returned (.tuple #[.agg (fc (newF zeroF number D)), .int .i64 (newE number D)]) ∧ ∃ x, w' = gx w x := fun w hT h => RNew_any number D A c w hT (by unfold Held at h; exact h)
  have hl : (newF zeroF number D).length = 64 := newF_len number D
  have e1 : (newE number D != 0) = true := by rw [bne_iff_ne]; exact hE
  have q := eqF_self (newF zeroF number D)
  generalize newE number D = E at *
  generalize newF zeroF number D = F at *
  generalize D.length = n at *
  have HN := Lib.hid hN
  have HR := Lib.hid hR
  clear hN hR hE
  go_enter Tryd.func4, Tryd.ntmps4
  go_wp2_with (first | (refine load_fr rfl _ rfl _ rfl ?_ ?_ ?_ ?_; rotate_left; (focus (repeat (first | (with_reducible exact At.new _ _) | (with_reducible refine At.row ?_) | (with_reducible refine At.gx ?_) | ((with_reducible refine At.new' ?_); focus (simp; done)) | (with_reducible refine At.alloc ?_) | (with_reducible refine At.drew ?_) | (with_reducible exact Is.new _ _ _) | (with_reducible refine Is.row ?_) | (with_reducible refine Is.gx ?_) | ((with_reducible refine Is.new' ?_); focus (simp; done)) | (with_reducible refine Is.alloc ?_) | (with_reducible refine Is.drew ?_)))); (focus (with_reducible (first | exact hl | exact hl1 | exact hl2 | exact hl3 | exact hl4 | exact zeroF_len)))) | (refine store_fr rfl _ _ rfl _ rfl _ rfl ?_ ?_ ?_ ?_ ?_; rotate_left; (focus (repeat (first | (with_reducible exact At.new _ _) | (with_reducible refine At.row ?_) | (with_reducible refine At.gx ?_) | ((with_reducible refine At.new' ?_); focus (simp; done)) | (with_reducible refine At.alloc ?_) | (with_reducible refine At.drew ?_) | (with_reducible exact Is.new _ _ _) | (with_reducible refine Is.row ?_) | (with_reducible refine Is.gx ?_) | ((with_reducible refine Is.new' ?_); focus (simp; done)) | (with_reducible refine Is.alloc ?_) | (with_reducible refine Is.drew ?_)))); (focus (with_reducible (first | exact hl | exact hl1 | exact hl2 | exact hl3 | exact hl4 | exact zeroF_len))); (focus (with_reducible (first | exact hl | exact hl1 | exact hl2 | exact hl3 | exact hl4 | exact zeroF_len)))) | (go_at_call 23; refine (HN.out _ ?_ ?_).mono ?_; (focus (repeat (first | (with_reducible exact hT) | (with_reducible assumption) | (with_reducible refine Tab.gx ?_ _) | (with_reducible refine Tab.alloc ?_ _)))); (focus (repeat (first | (with_reducible exact hH) | (with_reducible refine Held.gx ?_) | (with_reducible refine Held.alloc ?_)))); rintro e w' ⟨rfl, z, rfl⟩) | (go_at_call 24; refine (HR.out _ ?_ ?_).mono ?_; (focus (repeat (first | (with_reducible exact hT) | (with_reducible assumption) | (with_reducible refine Tab.gx ?_ _) | (with_reducible refine Tab.alloc ?_ _)))); (focus (repeat (first | (with_reducible exact hH) | (with_reducible refine Held.gx ?_) | (with_reducible refine Held.alloc ?_)))); rintro e w' ⟨rfl, z, rfl⟩) | (go_at_call 22; refine (framed_any _ ?_).mono ?_; (focus (repeat (first | (with_reducible exact hT) | (with_reducible assumption) | (with_reducible refine Tab.gx ?_ _) | (with_reducible refine Tab.alloc ?_ _)))); rintro e w' ⟨rfl, z, rfl⟩))
  go_ret
  exact ⟨rfl, (by repeat (first | (with_reducible exact Gx.refl _) | (with_reducible assumption) | (with_reducible refine Gx.gx ?_) | (with_reducible refine Gx.alloc ?_) | (with_reducible refine Gx.drew ?_) | (with_reducible refine Gx.drewN ?_) | (with_reducible refine Gx.setRow ?_ (by simp)) | (with_reducible refine Gx.setCell ?_ (by simp))))⟩

set_option maxHeartbeats 2000000 in
set_option maxRecDepth 100000 in
theorem newLaw_good (number : Int) (D F : List Int) (m : Made number D F) (hD : D.length = 58) (b o c : Nat) (w : World) (hT : Tab w) (hc : ∀ j, j < 58 → w.cell? ⟨b, o + j, none⟩ = some (.int .i64 (gw D j)))
    (hN : ∀ w, Tab w → (∀ j, j < 58 → w.cell? ⟨b, o + j, none⟩ = some (.int .i64 (gw D j))) → Calls Tryd.prog 23 #[.int .i64 number, .slice (some ⟨b, o, none⟩) 58 c] w fun e w' => e = .returned (.tuple #[.agg (fc F), .int .i64 0]) ∧ ∃ x, w' = gx w x)
    (hR : ∀ w, Tab w → (∀ j, j < 58 → w.cell? ⟨b, o + j, none⟩ = some (.int .i64 (gw D j))) → Calls Tryd.prog 24 #[.int .i64 number, .slice (some ⟨b, o, none⟩) 58 c] w fun e w' => e = .returned (.tuple #[.agg (fc F), .int .i64 0]) ∧ ∃ x, w' = gx w x) :
    Calls Tryd.prog 4 #[.int .i64 number, .slice (some ⟨b, o, none⟩) 58 c] w fun e w' => e = .returned (.bool true) ∧ ∃ x, w' = gx w x := by
  have hl := m.fr.len
  have q := eqF_self F
  have hc' := Lib.hid hc
  have HN := Lib.hid hN
  have HR := Lib.hid hR
  have HD := Lib.hid hD
  clear hN hR hc hD
  go_enter Tryd.func4, Tryd.ntmps4
  go_wp2_with (first | (refine load_fr rfl _ rfl _ rfl ?_ ?_ ?_ ?_; rotate_left; (focus (repeat (first | (with_reducible exact At.new _ _) | (with_reducible refine At.row ?_) | (with_reducible refine At.gx ?_) | ((with_reducible refine At.new' ?_); focus (simp; done)) | (with_reducible refine At.alloc ?_) | (with_reducible refine At.drew ?_) | (with_reducible exact Is.new _ _ _) | (with_reducible refine Is.row ?_) | (with_reducible refine Is.gx ?_) | ((with_reducible refine Is.new' ?_); focus (simp; done)) | (with_reducible refine Is.alloc ?_) | (with_reducible refine Is.drew ?_)))); (focus (with_reducible (first | exact hl | exact hl1 | exact hl2 | exact hl3 | exact hl4 | exact zeroF_len)))) | (refine store_fr rfl _ _ rfl _ rfl _ rfl ?_ ?_ ?_ ?_ ?_; rotate_left; (focus (repeat (first | (with_reducible exact At.new _ _) | (with_reducible refine At.row ?_) | (with_reducible refine At.gx ?_) | ((with_reducible refine At.new' ?_); focus (simp; done)) | (with_reducible refine At.alloc ?_) | (with_reducible refine At.drew ?_) | (with_reducible exact Is.new _ _ _) | (with_reducible refine Is.row ?_) | (with_reducible refine Is.gx ?_) | ((with_reducible refine Is.new' ?_); focus (simp; done)) | (with_reducible refine Is.alloc ?_) | (with_reducible refine Is.drew ?_)))); (focus (with_reducible (first | exact hl | exact hl1 | exact hl2 | exact hl3 | exact hl4 | exact zeroF_len))); (focus (with_reducible (first | exact hl | exact hl1 | exact hl2 | exact hl3 | exact hl4 | exact zeroF_len)))) | (go_at_call 23; refine (HN.out _ ?_ ?_).mono ?_; (focus (repeat (first | (with_reducible exact hT) | (with_reducible assumption) | (with_reducible refine Tab.gx ?_ _) | (with_reducible refine Tab.alloc ?_ _)))); (focus (intro j hj; repeat (first | (with_reducible exact hc'.out j hj) | (with_reducible refine cell_keep_gx ?_) | (with_reducible refine cell_keep_alloc ?_)))); rintro e w' ⟨rfl, z, rfl⟩) | (go_at_call 24; refine (HR.out _ ?_ ?_).mono ?_; (focus (repeat (first | (with_reducible exact hT) | (with_reducible assumption) | (with_reducible refine Tab.gx ?_ _) | (with_reducible refine Tab.alloc ?_ _)))); (focus (intro j hj; repeat (first | (with_reducible exact hc'.out j hj) | (with_reducible refine cell_keep_gx ?_) | (with_reducible refine cell_keep_alloc ?_)))); rintro e w' ⟨rfl, z, rfl⟩) | (go_at_call 22; refine (framed_any _ ?_).mono ?_; (focus (repeat (first | (with_reducible exact hT) | (with_reducible assumption) | (with_reducible refine Tab.gx ?_ _) | (with_reducible refine Tab.alloc ?_ _)))); rintro e w' ⟨rfl, z, rfl⟩) | (go_at_call 25; refine (Number_made m _).mono ?_; rintro e w' ⟨rfl, z, rfl⟩) | (go_at_call 26; refine (Values_made m HD.out _).mono ?_; rintro e w' ⟨rfl, z, rfl⟩) | (go_at_call 27; refine (Seal_made m _ ?_).mono ?_; (focus (repeat (first | (with_reducible exact hT) | (with_reducible assumption) | (with_reducible refine Tab.gx ?_ _) | (with_reducible refine Tab.alloc ?_ _)))); rintro e w' ⟨rfl, z, rfl⟩) | (go_at_call 28; refine (EqualI_same D 58 _ _ _ _ _ _ (by decide) _ (icells_of_at ?_ 58 (by rw [HD.out]; decide)) ?_).mono ?_; (focus (repeat (first | (with_reducible exact At.new _ _) | (with_reducible refine At.row ?_) | (with_reducible refine At.gx ?_) | ((with_reducible refine At.new' ?_); focus (simp; done)) | (with_reducible refine At.alloc ?_) | (with_reducible refine At.drew ?_) | (with_reducible exact Is.new _ _ _) | (with_reducible refine Is.row ?_) | (with_reducible refine Is.gx ?_) | ((with_reducible refine Is.new' ?_); focus (simp; done)) | (with_reducible refine Is.alloc ?_) | (with_reducible refine Is.drew ?_)))); (focus (intro j hj; repeat (first | (with_reducible exact hc'.out j hj) | (with_reducible refine cell_keep_gx ?_) | (with_reducible refine cell_keep_alloc ?_)))); rintro e w' ⟨rfl, z, rfl⟩) | (go_at_call 29; refine (ContainsB_none 58 _ _ (by decide) _ (lcells_of_at ?_ 58 (by rw [rightTo_len]; decide) (gb_rightTo F 58 (by decide)))).mono ?_; (focus (repeat (first | (with_reducible exact At.new _ _) | (with_reducible refine At.row ?_) | (with_reducible refine At.gx ?_) | ((with_reducible refine At.new' ?_); focus (simp; done)) | (with_reducible refine At.alloc ?_) | (with_reducible refine At.drew ?_) | (with_reducible exact Is.new _ _ _) | (with_reducible refine Is.row ?_) | (with_reducible refine Is.gx ?_) | ((with_reducible refine Is.new' ?_); focus (simp; done)) | (with_reducible refine Is.alloc ?_) | (with_reducible refine Is.drew ?_)))); rintro e w' ⟨rfl, rfl⟩) | (go_at_call 30; refine (Flaws_sound F m.fr m.narrow m.sound _ ?_).mono ?_; (focus (repeat (first | (with_reducible exact hT) | (with_reducible assumption) | (with_reducible refine Tab.gx ?_ _) | (with_reducible refine Tab.alloc ?_ _)))); rintro e w' ⟨rfl, z, rfl⟩))
  go_ret
  exact ⟨rfl, (by repeat (first | (with_reducible exact Gx.refl _) | (with_reducible assumption) | (with_reducible refine Gx.gx ?_) | (with_reducible refine Gx.alloc ?_) | (with_reducible refine Gx.drew ?_) | (with_reducible refine Gx.drewN ?_) | (with_reducible refine Gx.setRow ?_ (by simp)) | (with_reducible refine Gx.setCell ?_ (by simp))))⟩

theorem newLaw (number : Int) (D : List Int) (A : Option Addr) (c : Nat) (w : World) (hT : Tab w) (hH : Held D A w) :
    Calls Tryd.prog 4 #[.int .i64 number, .slice A D.length c] w fun e w' => e = .returned (.bool true) ∧ ∃ x, w' = gx w x := by
  by_cases hE : newE number D = 0
  · obtain ⟨m, hD, h0, h1⟩ := made_of hE
    have hH' := hH
    unfold Held at hH'
    obtain ⟨b, o, rfl, hc⟩ := hH' hD
    rw [hD]
    refine newLaw_good number D _ m hD b o c w hT hc (fun w hT hc => ?_) (fun w hT hc => ?_)
    · have := New_go number D b o c h0 h1 hD w hT hc
      rw [hE] at this
      exact this
    · have := RNew_go number D b o c h0 h1 hD w hT hc
      rw [hE] at this
      exact this
  · exact newLaw_bad number D A c w hT hH hE
end Go.Proofs.YtemgjiajpgepiaaDoor
