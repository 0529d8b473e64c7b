/-
  FrameSpoiltWordIsMended: the walk.
-/
import Derived.Test.YtemgjiajpgepiaaDoorLawMend
namespace Go.Proofs.YtemgjiajpgepiaaDoor
open Go.RowKit
-- AT2

theorem load_frq {ops : Array Oper} {rest : List Oper} {o : Oper} {a : Act} {w : World} {Q : Exit → Act → World → Prop} (x : Operand) (ho : o.op = .load 32 x) (hw : Region.wanted o (yielded ops a.tmps) = true)
    (g : Nat) (hx : a.eval x = .pointer (some ⟨g, 0, none⟩)) (F : List Int) (hg : At w g (.cells (fc F) 32 (0, 0))) (hl : F.length = 64)
    (h : wpList Tryd.prog ops Q rest (a.put o.dst (.agg (fc F))) w) : wpList Tryd.prog ops Q (o :: rest) a w := load_fr hw x ho g hx F hg hl h
theorem New_held (number : Int) (D : List Int) (A : Option Addr) (c : Nat) (w : World) (hT : Tab w) (h : Held D A w) : Calls Tryd.prog 23 #[.int .i64 number, .slice A D.length c] w fun e w' => e = .returned (.tuple #[.agg (fc (newF zeroF number D)), .int .i64 (newE number D)]) ∧ ∃ x, w' = gx w x :=
  New_any number D A c w hT (by unfold Held at h; exact h)
/-- Is a place no place of a frame, or a number no word? -/
def awayB (i v : Int) : Bool := decide (i < 0) || (decide (63 < i) || (decide (v < 0) || decide (4095 < v)))
theorem newF_len' (number : Int) (D : List Int) : (newF zeroF number D).length = 64 := newF_len number D
theorem made_snd {number : Int} {D F : List Int} (m : Made number D F) : Snd F := snd_of m.fr m.narrow m.sound

set_option maxHeartbeats 600000 in
set_option maxRecDepth 100000 in
theorem spoilt_bad (number : Int) (D : List Int) (A : Option Addr) (c : Nat) (at_ v : Int) (w : World) (hT : Tab w) (hH : Held D A w) (hE : newE number D ≠ 0) :
    Calls Tryd.prog 8 #[.int .i64 number, .slice A D.length c, .int .i64 at_, .int .i64 v] w fun e w' => e = .returned (.bool true) ∧ ∃ x, w' = gx w x := by
  have hN := fun w hT h => New_held number D A c w hT h
  have hl : (newF zeroF number D).length = 64 := newF_len number D
  have e1 : (newE number D != 0) = true := by rw [bne_iff_ne]; exact hE
  generalize newE number D = E at *
  generalize newF zeroF number D = F at *
  generalize D.length = n at *
  have HN := Lib.hid hN
  clear hN hE
  go_enter Tryd.func8, Tryd.ntmps8
  go_wp2_with (first | (refine load_fr rfl _ rfl _ rfl ?_ ?_ ?_ ?_; rotate_left; (focus (repeat (first | (with_reducible assumption) | (with_reducible exact At.new _ _) | (with_reducible refine At.row ?_) | (with_reducible refine At.app ?_) | (with_reducible refine At.tick ?_) | (with_reducible refine At.gx ?_) | ((with_reducible refine At.new' ?_); focus (simp; done)) | (with_reducible refine At.alloc ?_) | (with_reducible refine At.drew ?_) | (with_reducible exact Is.new _ _ _) | (with_reducible refine Is.row ?_) | (with_reducible refine Is.gx ?_) | ((with_reducible refine Is.new' ?_); focus (simp; done)) | (with_reducible refine Is.alloc ?_) | (with_reducible refine Is.drew ?_)))); (focus (with_reducible (first | exact hl | exact hl1 | exact hl2 | exact hl3 | exact hl4 | exact zeroF_len)))) | (refine store_fr rfl _ _ rfl _ rfl _ rfl ?_ ?_ ?_ ?_ ?_; rotate_left; (focus (repeat (first | (with_reducible assumption) | (with_reducible exact At.new _ _) | (with_reducible refine At.row ?_) | (with_reducible refine At.app ?_) | (with_reducible refine At.tick ?_) | (with_reducible refine At.gx ?_) | ((with_reducible refine At.new' ?_); focus (simp; done)) | (with_reducible refine At.alloc ?_) | (with_reducible refine At.drew ?_) | (with_reducible exact Is.new _ _ _) | (with_reducible refine Is.row ?_) | (with_reducible refine Is.gx ?_) | ((with_reducible refine Is.new' ?_); focus (simp; done)) | (with_reducible refine Is.alloc ?_) | (with_reducible refine Is.drew ?_)))); (focus (with_reducible (first | exact hl | exact hl1 | exact hl2 | exact hl3 | exact hl4 | exact zeroF_len))); (focus (with_reducible (first | exact hl | exact hl1 | exact hl2 | exact hl3 | exact hl4 | exact zeroF_len)))) | (go_at_call 23; refine (HN.out _ ?_ ?_).mono ?_; (focus (repeat (first | (with_reducible exact hT) | (with_reducible assumption) | (with_reducible refine Tab.gx ?_ _) | (with_reducible refine Tab.alloc ?_ _)))); (focus (repeat (first | (with_reducible exact hH) | (with_reducible refine Held.gx ?_) | (with_reducible refine Held.alloc ?_)))); rintro e w' ⟨rfl, z, rfl⟩) | (go_at_call 22; refine (framed_any _ ?_).mono ?_; (focus (repeat (first | (with_reducible exact hT) | (with_reducible assumption) | (with_reducible refine Tab.gx ?_ _) | (with_reducible refine Tab.alloc ?_ _)))); rintro e w' ⟨rfl, z, rfl⟩))
  go_ret
  exact ⟨rfl, (by repeat (first | (with_reducible exact Gx.refl _) | (with_reducible assumption) | (with_reducible refine Gx.gx ?_) | (with_reducible refine Gx.alloc ?_) | (with_reducible refine Gx.drew ?_) | (with_reducible refine Gx.drewN ?_) | (with_reducible refine Gx.setRow ?_ (by simp)) | (with_reducible refine Gx.setCell ?_ (by simp))))⟩

set_option maxHeartbeats 1000000 in
set_option maxRecDepth 100000 in
theorem spoilt_off (number : Int) (D : List Int) (A : Option Addr) (c : Nat) (at_ v : Int) (w : World) (hT : Tab w) (hH : Held D A w) (hE : newE number D = 0) (hb : awayB at_ v = true) :
    Calls Tryd.prog 8 #[.int .i64 number, .slice A D.length c, .int .i64 at_, .int .i64 v] w fun e w' => e = .returned (.bool true) ∧ ∃ x, w' = gx w x := by
  have hN := fun w hT h => New_held number D A c w hT h
  have hl : (newF zeroF number D).length = 64 := newF_len number D
  rw [hE] at hN
  generalize newF zeroF number D = F at *
  generalize D.length = n at *
  have HN := Lib.hid hN
  clear hN hE
  unfold awayB at hb
  simp only [Bool.or_eq_true, decide_eq_true_eq] at hb
  by_cases h0 : at_ < 0
  · clear hb
    go_enter Tryd.func8, Tryd.ntmps8
    go_wp2_with (first | (refine load_fr rfl _ rfl _ rfl ?_ ?_ ?_ ?_; rotate_left; (focus (repeat (first | (with_reducible assumption) | (with_reducible exact At.new _ _) | (with_reducible refine At.row ?_) | (with_reducible refine At.app ?_) | (with_reducible refine At.tick ?_) | (with_reducible refine At.gx ?_) | ((with_reducible refine At.new' ?_); focus (simp; done)) | (with_reducible refine At.alloc ?_) | (with_reducible refine At.drew ?_) | (with_reducible exact Is.new _ _ _) | (with_reducible refine Is.row ?_) | (with_reducible refine Is.gx ?_) | ((with_reducible refine Is.new' ?_); focus (simp; done)) | (with_reducible refine Is.alloc ?_) | (with_reducible refine Is.drew ?_)))); (focus (with_reducible (first | exact hl | exact hl1 | exact hl2 | exact hl3 | exact hl4 | exact zeroF_len)))) | (refine store_fr rfl _ _ rfl _ rfl _ rfl ?_ ?_ ?_ ?_ ?_; rotate_left; (focus (repeat (first | (with_reducible assumption) | (with_reducible exact At.new _ _) | (with_reducible refine At.row ?_) | (with_reducible refine At.app ?_) | (with_reducible refine At.tick ?_) | (with_reducible refine At.gx ?_) | ((with_reducible refine At.new' ?_); focus (simp; done)) | (with_reducible refine At.alloc ?_) | (with_reducible refine At.drew ?_) | (with_reducible exact Is.new _ _ _) | (with_reducible refine Is.row ?_) | (with_reducible refine Is.gx ?_) | ((with_reducible refine Is.new' ?_); focus (simp; done)) | (with_reducible refine Is.alloc ?_) | (with_reducible refine Is.drew ?_)))); (focus (with_reducible (first | exact hl | exact hl1 | exact hl2 | exact hl3 | exact hl4 | exact zeroF_len))); (focus (with_reducible (first | exact hl | exact hl1 | exact hl2 | exact hl3 | exact hl4 | exact zeroF_len)))) | (go_at_call 23; refine (HN.out _ ?_ ?_).mono ?_; (focus (repeat (first | (with_reducible exact hT) | (with_reducible assumption) | (with_reducible refine Tab.gx ?_ _) | (with_reducible refine Tab.alloc ?_ _)))); (focus (repeat (first | (with_reducible exact hH) | (with_reducible refine Held.gx ?_) | (with_reducible refine Held.alloc ?_)))); rintro e w' ⟨rfl, z, rfl⟩) | (go_at_call 22; refine (framed_any _ ?_).mono ?_; (focus (repeat (first | (with_reducible exact hT) | (with_reducible assumption) | (with_reducible refine Tab.gx ?_ _) | (with_reducible refine Tab.alloc ?_ _)))); rintro e w' ⟨rfl, z, rfl⟩))
    go_ret
    exact ⟨rfl, (by repeat (first | (with_reducible exact Gx.refl _) | (with_reducible assumption) | (with_reducible refine Gx.gx ?_) | (with_reducible refine Gx.alloc ?_) | (with_reducible refine Gx.drew ?_) | (with_reducible refine Gx.drewN ?_) | (with_reducible refine Gx.setRow ?_ (by simp)) | (with_reducible refine Gx.setCell ?_ (by simp))))⟩
  · by_cases h1 : 63 < at_
    · clear hb
      go_enter Tryd.func8, Tryd.ntmps8
      go_wp2_with (first | (refine load_fr rfl _ rfl _ rfl ?_ ?_ ?_ ?_; rotate_left; (focus (repeat (first | (with_reducible assumption) | (with_reducible exact At.new _ _) | (with_reducible refine At.row ?_) | (with_reducible refine At.app ?_) | (with_reducible refine At.tick ?_) | (with_reducible refine At.gx ?_) | ((with_reducible refine At.new' ?_); focus (simp; done)) | (with_reducible refine At.alloc ?_) | (with_reducible refine At.drew ?_) | (with_reducible exact Is.new _ _ _) | (with_reducible refine Is.row ?_) | (with_reducible refine Is.gx ?_) | ((with_reducible refine Is.new' ?_); focus (simp; done)) | (with_reducible refine Is.alloc ?_) | (with_reducible refine Is.drew ?_)))); (focus (with_reducible (first | exact hl | exact hl1 | exact hl2 | exact hl3 | exact hl4 | exact zeroF_len)))) | (refine store_fr rfl _ _ rfl _ rfl _ rfl ?_ ?_ ?_ ?_ ?_; rotate_left; (focus (repeat (first | (with_reducible assumption) | (with_reducible exact At.new _ _) | (with_reducible refine At.row ?_) | (with_reducible refine At.app ?_) | (with_reducible refine At.tick ?_) | (with_reducible refine At.gx ?_) | ((with_reducible refine At.new' ?_); focus (simp; done)) | (with_reducible refine At.alloc ?_) | (with_reducible refine At.drew ?_) | (with_reducible exact Is.new _ _ _) | (with_reducible refine Is.row ?_) | (with_reducible refine Is.gx ?_) | ((with_reducible refine Is.new' ?_); focus (simp; done)) | (with_reducible refine Is.alloc ?_) | (with_reducible refine Is.drew ?_)))); (focus (with_reducible (first | exact hl | exact hl1 | exact hl2 | exact hl3 | exact hl4 | exact zeroF_len))); (focus (with_reducible (first | exact hl | exact hl1 | exact hl2 | exact hl3 | exact hl4 | exact zeroF_len)))) | (go_at_call 23; refine (HN.out _ ?_ ?_).mono ?_; (focus (repeat (first | (with_reducible exact hT) | (with_reducible assumption) | (with_reducible refine Tab.gx ?_ _) | (with_reducible refine Tab.alloc ?_ _)))); (focus (repeat (first | (with_reducible exact hH) | (with_reducible refine Held.gx ?_) | (with_reducible refine Held.alloc ?_)))); rintro e w' ⟨rfl, z, rfl⟩) | (go_at_call 22; refine (framed_any _ ?_).mono ?_; (focus (repeat (first | (with_reducible exact hT) | (with_reducible assumption) | (with_reducible refine Tab.gx ?_ _) | (with_reducible refine Tab.alloc ?_ _)))); rintro e w' ⟨rfl, z, rfl⟩))
      go_ret
      exact ⟨rfl, (by repeat (first | (with_reducible exact Gx.refl _) | (with_reducible assumption) | (with_reducible refine Gx.gx ?_) | (with_reducible refine Gx.alloc ?_) | (with_reducible refine Gx.drew ?_) | (with_reducible refine Gx.drewN ?_) | (with_reducible refine Gx.setRow ?_ (by simp)) | (with_reducible refine Gx.setCell ?_ (by simp))))⟩
    · by_cases h2 : v < 0
      · clear hb
        go_enter Tryd.func8, Tryd.ntmps8
        go_wp2_with (first | (refine load_fr rfl _ rfl _ rfl ?_ ?_ ?_ ?_; rotate_left; (focus (repeat (first | (with_reducible assumption) | (with_reducible exact At.new _ _) | (with_reducible refine At.row ?_) | (with_reducible refine At.app ?_) | (with_reducible refine At.tick ?_) | (with_reducible refine At.gx ?_) | ((with_reducible refine At.new' ?_); focus (simp; done)) | (with_reducible refine At.alloc ?_) | (with_reducible refine At.drew ?_) | (with_reducible exact Is.new _ _ _) | (with_reducible refine Is.row ?_) | (with_reducible refine Is.gx ?_) | ((with_reducible refine Is.new' ?_); focus (simp; done)) | (with_reducible refine Is.alloc ?_) | (with_reducible refine Is.drew ?_)))); (focus (with_reducible (first | exact hl | exact hl1 | exact hl2 | exact hl3 | exact hl4 | exact zeroF_len)))) | (refine store_fr rfl _ _ rfl _ rfl _ rfl ?_ ?_ ?_ ?_ ?_; rotate_left; (focus (repeat (first | (with_reducible assumption) | (with_reducible exact At.new _ _) | (with_reducible refine At.row ?_) | (with_reducible refine At.app ?_) | (with_reducible refine At.tick ?_) | (with_reducible refine At.gx ?_) | ((with_reducible refine At.new' ?_); focus (simp; done)) | (with_reducible refine At.alloc ?_) | (with_reducible refine At.drew ?_) | (with_reducible exact Is.new _ _ _) | (with_reducible refine Is.row ?_) | (with_reducible refine Is.gx ?_) | ((with_reducible refine Is.new' ?_); focus (simp; done)) | (with_reducible refine Is.alloc ?_) | (with_reducible refine Is.drew ?_)))); (focus (with_reducible (first | exact hl | exact hl1 | exact hl2 | exact hl3 | exact hl4 | exact zeroF_len))); (focus (with_reducible (first | exact hl | exact hl1 | exact hl2 | exact hl3 | exact hl4 | exact zeroF_len)))) | (go_at_call 23; refine (HN.out _ ?_ ?_).mono ?_; (focus (repeat (first | (with_reducible exact hT) | (with_reducible assumption) | (with_reducible refine Tab.gx ?_ _) | (with_reducible refine Tab.alloc ?_ _)))); (focus (repeat (first | (with_reducible exact hH) | (with_reducible refine Held.gx ?_) | (with_reducible refine Held.alloc ?_)))); rintro e w' ⟨rfl, z, rfl⟩) | (go_at_call 22; refine (framed_any _ ?_).mono ?_; (focus (repeat (first | (with_reducible exact hT) | (with_reducible assumption) | (with_reducible refine Tab.gx ?_ _) | (with_reducible refine Tab.alloc ?_ _)))); rintro e w' ⟨rfl, z, rfl⟩))
        go_ret
        exact ⟨rfl, (by repeat (first | (with_reducible exact Gx.refl _) | (with_reducible assumption) | (with_reducible refine Gx.gx ?_) | (with_reducible refine Gx.alloc ?_) | (with_reducible refine Gx.drew ?_) | (with_reducible refine Gx.drewN ?_) | (with_reducible refine Gx.setRow ?_ (by simp)) | (with_reducible refine Gx.setCell ?_ (by simp))))⟩
      · have h3 : 4095 < v := by omega
        clear hb
        go_enter Tryd.func8, Tryd.ntmps8
        go_wp2_with (first | (refine load_fr rfl _ rfl _ rfl ?_ ?_ ?_ ?_; rotate_left; (focus (repeat (first | (with_reducible assumption) | (with_reducible exact At.new _ _) | (with_reducible refine At.row ?_) | (with_reducible refine At.app ?_) | (with_reducible refine At.tick ?_) | (with_reducible refine At.gx ?_) | ((with_reducible refine At.new' ?_); focus (simp; done)) | (with_reducible refine At.alloc ?_) | (with_reducible refine At.drew ?_) | (with_reducible exact Is.new _ _ _) | (with_reducible refine Is.row ?_) | (with_reducible refine Is.gx ?_) | ((with_reducible refine Is.new' ?_); focus (simp; done)) | (with_reducible refine Is.alloc ?_) | (with_reducible refine Is.drew ?_)))); (focus (with_reducible (first | exact hl | exact hl1 | exact hl2 | exact hl3 | exact hl4 | exact zeroF_len)))) | (refine store_fr rfl _ _ rfl _ rfl _ rfl ?_ ?_ ?_ ?_ ?_; rotate_left; (focus (repeat (first | (with_reducible assumption) | (with_reducible exact At.new _ _) | (with_reducible refine At.row ?_) | (with_reducible refine At.app ?_) | (with_reducible refine At.tick ?_) | (with_reducible refine At.gx ?_) | ((with_reducible refine At.new' ?_); focus (simp; done)) | (with_reducible refine At.alloc ?_) | (with_reducible refine At.drew ?_) | (with_reducible exact Is.new _ _ _) | (with_reducible refine Is.row ?_) | (with_reducible refine Is.gx ?_) | ((with_reducible refine Is.new' ?_); focus (simp; done)) | (with_reducible refine Is.alloc ?_) | (with_reducible refine Is.drew ?_)))); (focus (with_reducible (first | exact hl | exact hl1 | exact hl2 | exact hl3 | exact hl4 | exact zeroF_len))); (focus (with_reducible (first | exact hl | exact hl1 | exact hl2 | exact hl3 | exact hl4 | exact zeroF_len)))) | (go_at_call 23; refine (HN.out _ ?_ ?_).mono ?_; (focus (repeat (first | (with_reducible exact hT) | (with_reducible assumption) | (with_reducible refine Tab.gx ?_ _) | (with_reducible refine Tab.alloc ?_ _)))); (focus (repeat (first | (with_reducible exact hH) | (with_reducible refine Held.gx ?_) | (with_reducible refine Held.alloc ?_)))); rintro e w' ⟨rfl, z, rfl⟩) | (go_at_call 22; refine (framed_any _ ?_).mono ?_; (focus (repeat (first | (with_reducible exact hT) | (with_reducible assumption) | (with_reducible refine Tab.gx ?_ _) | (with_reducible refine Tab.alloc ?_ _)))); rintro e w' ⟨rfl, z, rfl⟩))
        go_ret
        exact ⟨rfl, (by repeat (first | (with_reducible exact Gx.refl _) | (with_reducible assumption) | (with_reducible refine Gx.gx ?_) | (with_reducible refine Gx.alloc ?_) | (with_reducible refine Gx.drew ?_) | (with_reducible refine Gx.drewN ?_) | (with_reducible refine Gx.setRow ?_ (by simp)) | (with_reducible refine Gx.setCell ?_ (by simp))))⟩

theorem Mend_nil (G H : List Int) (o : Bool) (hG : Fr G) (hF : mdF G = H) (hP : mdP G = []) (hB : mdB G = o) (w : World) (hT : Tab w) :
    Calls Tryd.prog 39 #[.agg (fc G)] w fun e w' => ∃ A c x, e = .returned (.tuple #[.agg (fc H), .slice A 0 c, .bool o]) ∧ w' = gx w x := by
  subst hF hB
  refine (Mend_any G hG w hT).mono fun e w' ⟨v, x, he, hx, hO⟩ => ?_
  rw [hP] at hO
  obtain ⟨A, c, rfl, -⟩ := hO.is
  exact ⟨A, c, x, he, hx⟩
theorem Mend_one (G H : List Int) (i : Int) (hG : Fr G) (hF : mdF G = H) (hP : mdP G = [i]) (hB : mdB G = true) (w : World) (hT : Tab w) :
    Calls Tryd.prog 39 #[.agg (fc G)] w fun e w' => ∃ g q c x, e = .returned (.tuple #[.agg (fc H), .slice (some ⟨g, q, none⟩) 1 c, .bool true]) ∧ w' = gx w x ∧ (gx w x).cell? ⟨g, q, none⟩ = some (.int .i64 i) := by
  subst hF
  refine (Mend_any G hG w hT).mono fun e w' ⟨v, x, he, hx, hO⟩ => ?_
  rw [hP] at hO
  obtain ⟨A, c, rfl, -, -, -, hS⟩ := hO.is
  obtain ⟨g, q, rfl, hc⟩ := shows_ints hS (by simp)
  rw [hB] at he
  have h0 := hc 0 (by simp)
  have e : gw [i] 0 = i := by unfold gw; rfl
  rw [Nat.add_zero, e] at h0
  exact ⟨g, q, c, x, he, hx, h0⟩
theorem mend_ways (F : List Int) (sF : Snd F) (i : Nat) (hi : i < 64) (v : Int) (v0 : 0 ≤ v) (v1 : v ≤ 4095) :
    (F.set i v = F ∧ mdF (F.set i v) = F ∧ mdP (F.set i v) = [] ∧ mdB (F.set i v) = true) ∨
    (F.set i v ≠ F ∧ ((mdF (F.set i v) = F ∧ mdP (F.set i v) = [(i : Int)] ∧ mdB (F.set i v) = true) ∨ (mdF (F.set i v) = zeroF ∧ mdP (F.set i v) = [] ∧ mdB (F.set i v) = false))) := by
  have hl := sF.fr.len
  have gf : Fr (F.set i v) := sF.fr.set i v hi v0 (by omega)
  have gn : Narrow (F.set i v) := sF.narrow.set hl i v hi v1
  have hw := wideB_false.2 gn
  have sb : soundB F = true := by
    rw [soundB_true]
    unfold syncOk sumOk chkOk hiOk loOk
    rw [sF.sync.symm, sF.sum, sF.hi, sF.lo]
    simp
    exact (parOk_true F 63).2 sF.odd
  cases hs : soundB (F.set i v)
  · refine .inr ⟨fun e => (by rw [e, sb] at hs; cases hs), ?_⟩
    unfold mdF mdP mdB
    rw [hw, hs]
    simp only [Bool.false_eq_true, if_false]
    by_cases h1 : (placesTo (F.set i v) 64).length = 1
    · have m := mend_spoilt (Z := zeroF) sF i hi v v0 v1 h1
      rw [if_pos h1, if_pos h1]
      exact .inl ⟨m.1, m.2, decide_eq_true h1⟩
    · rw [if_neg h1, if_neg h1]
      exact .inr ⟨rfl, rfl, decide_eq_false h1⟩
  · have e := one_word sF (snd_of gf gn hs) (j := i) (by omega) fun k _ hk => by rw [gw_set _ _ _ _ (by omega), if_neg hk]
    refine .inl ⟨e, ?_, ?_, ?_⟩
    · unfold mdF; rw [hw, hs]; exact e
    · unfold mdP; rw [hw, hs]; rfl
    · unfold mdB; rw [hw, hs]; rfl

set_option maxHeartbeats 2000000 in
set_option maxRecDepth 100000 in
theorem spoilt_good (number : Int) (D F : List Int) (hF : newF zeroF number D = F) (sF : Snd F) (A : Option Addr) (c : Nat) (i : Nat) (hi : i < 64) (v : Int) (v0 : 0 ≤ v) (v1 : v ≤ 4095) (w : World) (hT : Tab w) (hH : Held D A w) (hE : newE number D = 0) :
    Calls Tryd.prog 8 #[.int .i64 number, .slice A D.length c, .int .i64 i, .int .i64 v] w fun e w' => e = .returned (.bool true) ∧ ∃ x, w' = gx w x := by
  have hN := fun w hT h => New_held number D A c w hT h
  have hl : F.length = 64 := sF.fr.len
  have gf : Fr (F.set i v) := sF.fr.set i v hi v0 (by omega)
  have hl1 := gf.len
  have ways := mend_ways F sF i hi v v0 v1
  have e2 : F.set i v = F ↔ eqF (F.set i v) F = true := (eqF_iff hl1 hl).symm
  have q1 := eqF_self F
  have q2 := eqF_self zeroF
  have hl2 := zeroF_len
  have d0 : decide ((i : Int) < 0) = false := decide_eq_false (by omega)
  have d1 : decide (63 < (i : Int)) = false := decide_eq_false (by omega)
  have d2 : decide (v < 0) = false := decide_eq_false (by omega)
  have d3 : decide (4095 < v) = false := decide_eq_false (by omega)
  rw [hE, hF] at hN
  generalize hG : F.set i v = G at *
  generalize D.length = n at *
  have HN := Lib.hid hN
  clear hN hE hF
  rcases ways with ⟨g1, g2, g3, g4⟩ | ⟨g1, ⟨g2, g3, g4⟩ | ⟨g2, g3, g4⟩⟩
  · have q3 : eqF G F = true := e2.1 g1
    have hM := fun w hT => Mend_nil G F true gf g2 g3 g4 w hT
    have HM := Lib.hid hM
    clear hM g1 g2 g3 g4 e2
    go_enter Tryd.func8, Tryd.ntmps8
    go_wp2_with (first | go_skip | (refine load_fr rfl _ rfl _ rfl ?_ ?_ ?_ ?_; rotate_left; (focus (repeat (first | (with_reducible assumption) | (with_reducible exact At.new _ _) | (with_reducible refine At.row ?_) | (with_reducible refine At.app ?_) | (with_reducible refine At.tick ?_) | (with_reducible refine At.gx ?_) | ((with_reducible refine At.new' ?_); focus (simp; done)) | (with_reducible refine At.alloc ?_) | (with_reducible refine At.drew ?_) | (with_reducible exact Is.new _ _ _) | (with_reducible refine Is.row ?_) | (with_reducible refine Is.gx ?_) | ((with_reducible refine Is.new' ?_); focus (simp; done)) | (with_reducible refine Is.alloc ?_) | (with_reducible refine Is.drew ?_)))); (focus (with_reducible (first | exact hl | exact hl1 | exact hl2 | exact hl3 | exact hl4 | exact zeroF_len)))) | (refine store_fr rfl _ _ rfl _ rfl _ rfl ?_ ?_ ?_ ?_ ?_; rotate_left; (focus (repeat (first | (with_reducible assumption) | (with_reducible exact At.new _ _) | (with_reducible refine At.row ?_) | (with_reducible refine At.app ?_) | (with_reducible refine At.tick ?_) | (with_reducible refine At.gx ?_) | ((with_reducible refine At.new' ?_); focus (simp; done)) | (with_reducible refine At.alloc ?_) | (with_reducible refine At.drew ?_) | (with_reducible exact Is.new _ _ _) | (with_reducible refine Is.row ?_) | (with_reducible refine Is.gx ?_) | ((with_reducible refine Is.new' ?_); focus (simp; done)) | (with_reducible refine Is.alloc ?_) | (with_reducible refine Is.drew ?_)))); (focus (with_reducible (first | exact hl | exact hl1 | exact hl2 | exact hl3 | exact hl4 | exact zeroF_len))); (focus (with_reducible (first | exact hl | exact hl1 | exact hl2 | exact hl3 | exact hl4 | exact zeroF_len)))) | (go_at_call 23; refine (HN.out _ ?_ ?_).mono ?_; (focus (repeat (first | (with_reducible exact hT) | (with_reducible assumption) | (with_reducible refine Tab.gx ?_ _) | (with_reducible refine Tab.alloc ?_ _)))); (focus (repeat (first | (with_reducible exact hH) | (with_reducible refine Held.gx ?_) | (with_reducible refine Held.alloc ?_)))); rintro e w' ⟨rfl, z, rfl⟩) | (go_at_call 39; refine (HM.out _ ?_).mono ?_; (focus (repeat (first | (with_reducible exact hT) | (with_reducible assumption) | (with_reducible refine Tab.gx ?_ _) | (with_reducible refine Tab.alloc ?_ _)))); rintro e w' ⟨A1, c1, z, rfl, rfl⟩) | (go_at_call 22; refine (framed_any _ ?_).mono ?_; (focus (repeat (first | (with_reducible exact hT) | (with_reducible assumption) | (with_reducible refine Tab.gx ?_ _) | (with_reducible refine Tab.alloc ?_ _)))); rintro e w' ⟨rfl, z, rfl⟩))
    go_ret
    exact ⟨rfl, (by repeat (first | (with_reducible exact Gx.refl _) | (with_reducible assumption) | (with_reducible refine Gx.gx ?_) | (with_reducible refine Gx.alloc ?_) | (with_reducible refine Gx.drew ?_) | (with_reducible refine Gx.drewN ?_) | (with_reducible refine Gx.setRow ?_ (by simp)) | (with_reducible refine Gx.setCell ?_ (by simp))))⟩
  · have q3 : eqF G F = false := by
      cases h : eqF G F with
      | false => rfl
      | true => exact absurd (e2.2 h) g1
    have hM := fun w hT => Mend_one G F i gf g2 g3 g4 w hT
    have HM := Lib.hid hM
    clear hM g1 g2 g3 g4 e2
    go_enter Tryd.func8, Tryd.ntmps8
    go_wp2_with (first | go_skip | (refine load_fr rfl _ rfl _ rfl ?_ ?_ ?_ ?_; rotate_left; (focus (repeat (first | (with_reducible assumption) | (with_reducible exact At.new _ _) | (with_reducible refine At.row ?_) | (with_reducible refine At.app ?_) | (with_reducible refine At.tick ?_) | (with_reducible refine At.gx ?_) | ((with_reducible refine At.new' ?_); focus (simp; done)) | (with_reducible refine At.alloc ?_) | (with_reducible refine At.drew ?_) | (with_reducible exact Is.new _ _ _) | (with_reducible refine Is.row ?_) | (with_reducible refine Is.gx ?_) | ((with_reducible refine Is.new' ?_); focus (simp; done)) | (with_reducible refine Is.alloc ?_) | (with_reducible refine Is.drew ?_)))); (focus (with_reducible (first | exact hl | exact hl1 | exact hl2 | exact hl3 | exact hl4 | exact zeroF_len)))) | (refine store_fr rfl _ _ rfl _ rfl _ rfl ?_ ?_ ?_ ?_ ?_; rotate_left; (focus (repeat (first | (with_reducible assumption) | (with_reducible exact At.new _ _) | (with_reducible refine At.row ?_) | (with_reducible refine At.app ?_) | (with_reducible refine At.tick ?_) | (with_reducible refine At.gx ?_) | ((with_reducible refine At.new' ?_); focus (simp; done)) | (with_reducible refine At.alloc ?_) | (with_reducible refine At.drew ?_) | (with_reducible exact Is.new _ _ _) | (with_reducible refine Is.row ?_) | (with_reducible refine Is.gx ?_) | ((with_reducible refine Is.new' ?_); focus (simp; done)) | (with_reducible refine Is.alloc ?_) | (with_reducible refine Is.drew ?_)))); (focus (with_reducible (first | exact hl | exact hl1 | exact hl2 | exact hl3 | exact hl4 | exact zeroF_len))); (focus (with_reducible (first | exact hl | exact hl1 | exact hl2 | exact hl3 | exact hl4 | exact zeroF_len)))) | (go_at_call 23; refine (HN.out _ ?_ ?_).mono ?_; (focus (repeat (first | (with_reducible exact hT) | (with_reducible assumption) | (with_reducible refine Tab.gx ?_ _) | (with_reducible refine Tab.alloc ?_ _)))); (focus (repeat (first | (with_reducible exact hH) | (with_reducible refine Held.gx ?_) | (with_reducible refine Held.alloc ?_)))); rintro e w' ⟨rfl, z, rfl⟩) | (go_at_call 39; refine (HM.out _ ?_).mono ?_; (focus (repeat (first | (with_reducible exact hT) | (with_reducible assumption) | (with_reducible refine Tab.gx ?_ _) | (with_reducible refine Tab.alloc ?_ _)))); rintro e w' ⟨g1, o1, c1, z, rfl, rfl, hc1⟩; (try simp only [gx_gx] at hc1); have hc2 := fun ob => cell_keep_alloc (ob := ob) hc1) | (go_at_call 22; refine (framed_any _ ?_).mono ?_; (focus (repeat (first | (with_reducible exact hT) | (with_reducible assumption) | (with_reducible refine Tab.gx ?_ _) | (with_reducible refine Tab.alloc ?_ _)))); rintro e w' ⟨rfl, z, rfl⟩))
    go_ret
    exact ⟨rfl, (by repeat (first | (with_reducible exact Gx.refl _) | (with_reducible assumption) | (with_reducible refine Gx.gx ?_) | (with_reducible refine Gx.alloc ?_) | (with_reducible refine Gx.drew ?_) | (with_reducible refine Gx.drewN ?_) | (with_reducible refine Gx.setRow ?_ (by simp)) | (with_reducible refine Gx.setCell ?_ (by simp))))⟩
  · have q3 : eqF G F = false := by
      cases h : eqF G F with
      | false => rfl
      | true => exact absurd (e2.2 h) g1
    have hM := fun w hT => Mend_nil G zeroF false gf g2 g3 g4 w hT
    have HM := Lib.hid hM
    clear hM g1 g2 g3 g4 e2
    go_enter Tryd.func8, Tryd.ntmps8
    go_wp2_with (first | go_skip | (refine load_fr rfl _ rfl _ rfl ?_ ?_ ?_ ?_; rotate_left; (focus (repeat (first | (with_reducible assumption) | (with_reducible exact At.new _ _) | (with_reducible refine At.row ?_) | (with_reducible refine At.app ?_) | (with_reducible refine At.tick ?_) | (with_reducible refine At.gx ?_) | ((with_reducible refine At.new' ?_); focus (simp; done)) | (with_reducible refine At.alloc ?_) | (with_reducible refine At.drew ?_) | (with_reducible exact Is.new _ _ _) | (with_reducible refine Is.row ?_) | (with_reducible refine Is.gx ?_) | ((with_reducible refine Is.new' ?_); focus (simp; done)) | (with_reducible refine Is.alloc ?_) | (with_reducible refine Is.drew ?_)))); (focus (with_reducible (first | exact hl | exact hl1 | exact hl2 | exact hl3 | exact hl4 | exact zeroF_len)))) | (refine store_fr rfl _ _ rfl _ rfl _ rfl ?_ ?_ ?_ ?_ ?_; rotate_left; (focus (repeat (first | (with_reducible assumption) | (with_reducible exact At.new _ _) | (with_reducible refine At.row ?_) | (with_reducible refine At.app ?_) | (with_reducible refine At.tick ?_) | (with_reducible refine At.gx ?_) | ((with_reducible refine At.new' ?_); focus (simp; done)) | (with_reducible refine At.alloc ?_) | (with_reducible refine At.drew ?_) | (with_reducible exact Is.new _ _ _) | (with_reducible refine Is.row ?_) | (with_reducible refine Is.gx ?_) | ((with_reducible refine Is.new' ?_); focus (simp; done)) | (with_reducible refine Is.alloc ?_) | (with_reducible refine Is.drew ?_)))); (focus (with_reducible (first | exact hl | exact hl1 | exact hl2 | exact hl3 | exact hl4 | exact zeroF_len))); (focus (with_reducible (first | exact hl | exact hl1 | exact hl2 | exact hl3 | exact hl4 | exact zeroF_len)))) | (go_at_call 23; refine (HN.out _ ?_ ?_).mono ?_; (focus (repeat (first | (with_reducible exact hT) | (with_reducible assumption) | (with_reducible refine Tab.gx ?_ _) | (with_reducible refine Tab.alloc ?_ _)))); (focus (repeat (first | (with_reducible exact hH) | (with_reducible refine Held.gx ?_) | (with_reducible refine Held.alloc ?_)))); rintro e w' ⟨rfl, z, rfl⟩) | (go_at_call 39; refine (HM.out _ ?_).mono ?_; (focus (repeat (first | (with_reducible exact hT) | (with_reducible assumption) | (with_reducible refine Tab.gx ?_ _) | (with_reducible refine Tab.alloc ?_ _)))); rintro e w' ⟨A1, c1, z, rfl, rfl⟩) | (go_at_call 22; refine (framed_any _ ?_).mono ?_; (focus (repeat (first | (with_reducible exact hT) | (with_reducible assumption) | (with_reducible refine Tab.gx ?_ _) | (with_reducible refine Tab.alloc ?_ _)))); rintro e w' ⟨rfl, z, rfl⟩))
    go_ret
    exact ⟨rfl, (by repeat (first | (with_reducible exact Gx.refl _) | (with_reducible assumption) | (with_reducible refine Gx.gx ?_) | (with_reducible refine Gx.alloc ?_) | (with_reducible refine Gx.drew ?_) | (with_reducible refine Gx.drewN ?_) | (with_reducible refine Gx.setRow ?_ (by simp)) | (with_reducible refine Gx.setCell ?_ (by simp))))⟩

theorem spoiltLaw (number : Int) (D : List Int) (A : Option Addr) (c : Nat) (at_ v : Int) (w : World) (hT : Tab w) (hH : Held D A w) :
    Calls Tryd.prog 8 #[.int .i64 number, .slice A D.length c, .int .i64 at_, .int .i64 v] w fun e w' => e = .returned (.bool true) ∧ ∃ x, w' = gx w x := by
  by_cases hE : newE number D = 0
  · cases hb : awayB at_ v
    · unfold awayB at hb
      simp only [Bool.or_eq_false_iff, decide_eq_false_iff_not] at hb
      obtain ⟨k, rfl⟩ : ∃ k : Nat, at_ = k := ⟨at_.toNat, by omega⟩
      exact spoilt_good number D _ rfl (made_snd (made_of hE).1) A c k (by omega) v (by omega) (by omega) w hT hH hE
    · exact spoilt_off number D A c at_ v w hT hH hE hb
  · exact spoilt_bad number D A c at_ v w hT hH hE
end Go.Proofs.YtemgjiajpgepiaaDoor
