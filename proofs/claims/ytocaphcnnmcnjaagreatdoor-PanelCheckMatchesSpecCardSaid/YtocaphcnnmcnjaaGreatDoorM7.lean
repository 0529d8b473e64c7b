/-
  Texts that this claim leans on, merged: PLawD, PDl, PRDl.
-/
import Derived.Test.YtocaphcnnmcnjaaGreatDoorM5
import Derived.Test.YtocaphcnnmcnjaaGreatDoorM6
import Derived.Test.YtocaphcnnmcnjaaGreatDoorM2

/-
  PanelDigitsMatchSpec: the law's walk.
-/
namespace Go.Proofs.YtocaphcnnmcnjaaGreatDoor
open Go.RowKit
-- AT2
-- AT3

theorem pNumber_any (n : Int) (b : Bool) (hb : (b = true ∧ -1125899906842624 ≤ n ∧ n ≤ 1125899906842624) ∨ (b = false ∧ n < -1125899906842624) ∨ (b = false ∧ 1125899906842624 < n)) (w : World) : Calls Tryz.prog 51 #[.int .i64 n] w fun e w' => e = .returned (.bool b) ∧ w = w' := by
  rcases hb with ⟨rfl, h1, h2⟩ | ⟨rfl, h1⟩ | ⟨rfl, h1⟩
  · have k1 : decide (-1125899906842624 ≤ n) = true := decide_eq_true h1
    have k2 : decide (n ≤ 1125899906842624) = true := decide_eq_true h2
    clear h1 h2
    go_enter Tryz.func51, Tryz.ntmps51
    go_wp2_with go_skip
    go_ret
    exact ⟨rfl, rfl⟩
  · have k1 : decide (-1125899906842624 ≤ n) = false := decide_eq_false (by omega)
    clear h1
    go_enter Tryz.func51, Tryz.ntmps51
    go_wp2_with go_skip
    go_ret
    exact ⟨rfl, rfl⟩
  · have k1 : decide (-1125899906842624 ≤ n) = true := decide_eq_true (by omega)
    have k2 : decide (n ≤ 1125899906842624) = false := decide_eq_false (by omega)
    clear h1
    go_enter Tryz.func51, Tryz.ntmps51
    go_wp2_with go_skip
    go_ret
    exact ⟨rfl, rfl⟩
theorem outsideP_any (n lo hi : Int) (b : Bool) (hb : (b = false ∧ lo ≤ n ∧ n ≤ hi) ∨ (b = true ∧ n < lo) ∨ (b = true ∧ lo ≤ n ∧ hi < n)) (w : World) : Calls Tryz.prog 30 #[.int .i64 n, .int .i64 lo, .int .i64 hi] w fun e w' => e = .returned (.bool b) ∧ w = w' := by
  rcases hb with ⟨rfl, h1, h2⟩ | ⟨rfl, h1⟩ | ⟨rfl, h1, h2⟩
  · have k1 : decide (n < lo) = false := decide_eq_false (by omega)
    have k2 : decide (hi < n) = false := decide_eq_false (by omega)
    clear h1 h2
    go_enter Tryz.func30, Tryz.ntmps30
    go_wp2_with go_skip
    go_ret
    exact ⟨rfl, rfl⟩
  · have k1 : decide (n < lo) = true := decide_eq_true h1
    clear h1
    go_enter Tryz.func30, Tryz.ntmps30
    go_wp2_with go_skip
    go_ret
    exact ⟨rfl, rfl⟩
  · have k1 : decide (n < lo) = false := decide_eq_false (by omega)
    have k2 : decide (hi < n) = true := decide_eq_true h2
    clear h1 h2
    go_enter Tryz.func30, Tryz.ntmps30
    go_wp2_with go_skip
    go_ret
    exact ⟨rfl, rfl⟩
theorem isOp_any (op : Int) (b : Bool) (hb : (b = true ∧ 1 ≤ op ∧ op ≤ 6) ∨ (b = false ∧ op < 1) ∨ (b = false ∧ 6 < op)) (w : World) : Calls Tryz.prog 54 #[.int .i64 op] w fun e w' => e = .returned (.bool b) ∧ w = w' := by
  rcases hb with ⟨rfl, h1, h2⟩ | ⟨rfl, h1⟩ | ⟨rfl, h1⟩
  · have k1 : decide (1 ≤ op) = true := decide_eq_true h1
    have k2 : decide (op ≤ 6) = true := decide_eq_true h2
    clear h1 h2
    go_enter Tryz.func54, Tryz.ntmps54
    go_wp2_with go_skip
    go_ret
    exact ⟨rfl, rfl⟩
  · have k1 : decide (1 ≤ op) = false := decide_eq_false (by omega)
    clear h1
    go_enter Tryz.func54, Tryz.ntmps54
    go_wp2_with go_skip
    go_ret
    exact ⟨rfl, rfl⟩
  · have k1 : decide (1 ≤ op) = true := decide_eq_true (by omega)
    have k2 : decide (op ≤ 6) = false := decide_eq_false (by omega)
    clear h1
    go_enter Tryz.func54, Tryz.ntmps54
    go_wp2_with go_skip
    go_ret
    exact ⟨rfl, rfl⟩
/-- Holds of both sides. -/
theorem Holds_both (op a b : Int) : ∃ (B : Bool) (E : Int), (∀ W, Calls Tryz.prog 23 #[.int .i64 op, .int .i64 a, .int .i64 b] W fun e w' => e = .returned (.tuple #[.bool B, .int .i64 E]) ∧ W = w') ∧ (∀ W, Calls Tryz.prog 24 #[.int .i64 op, .int .i64 a, .int .i64 b] W fun e w' => e = .returned (.tuple #[.bool B, .int .i64 E]) ∧ W = w') := by
  obtain ⟨c, hc⟩ : ∃ c : Int, (a < b ∧ c = -1) ∨ (b < a ∧ c = 1) ∨ (a = b ∧ c = 0) := by
    rcases Int.lt_trichotomy a b with h | h | h
    · exact ⟨-1, .inl ⟨h, rfl⟩⟩
    · exact ⟨0, .inr (.inr ⟨h, rfl⟩)⟩
    · exact ⟨1, .inr (.inl ⟨h, rfl⟩)⟩
  by_cases ho : 1 ≤ op ∧ op ≤ 6
  · refine ⟨opB op c, 0, fun W => ?_, fun W => ?_⟩
    · have H1 := Lib.hid (fun W => isOp_any op true (.inl ⟨rfl, ho.1, ho.2⟩) W)
      have H2 := Lib.hid (fun W => holds_any' op a b c ho hc W)
      clear ho hc
      go_enter Tryz.func23, Tryz.ntmps23
      go_wp2_with (first | (go_at_call 54; refine (H1.out _).mono ?_; rintro e w' ⟨rfl, rfl⟩) | (go_at_call 55; refine (H2.out _).mono ?_; rintro e w' ⟨rfl, rfl⟩))
      exact bodyPost_ret (v := .tuple #[.bool (opB op c), .int .i64 0]) (by simp [results, Tryz.results23, go_sem]) rfl ⟨rfl, rfl⟩
    · have H1 := Lib.hid (fun W => outsideP_any op 1 6 false (.inl ⟨rfl, ho.1, ho.2⟩) W)
      have H2 := Lib.hid (fun W => rholds_any op a b c ho hc W)
      clear ho hc
      go_enter Tryz.func24, Tryz.ntmps24
      go_wp2_with (first | (go_at_call 30; refine (H1.out _).mono ?_; rintro e w' ⟨rfl, rfl⟩) | (go_at_call 56; refine (H2.out _).mono ?_; rintro e w' ⟨rfl, rfl⟩))
      exact bodyPost_ret (v := .tuple #[.bool (opB op c), .int .i64 0]) (by simp [results, Tryz.results24, go_sem]) rfl ⟨rfl, rfl⟩
  · refine ⟨false, 7, fun W => ?_, fun W => ?_⟩
    · have H1 := Lib.hid (fun W => isOp_any op false ((by omega : op < 1 ∨ 6 < op).elim (fun h => .inr (.inl ⟨rfl, h⟩)) (fun h => .inr (.inr ⟨rfl, h⟩))) W)
      clear ho hc
      go_enter Tryz.func23, Tryz.ntmps23
      go_wp2_with (first | (go_at_call 54; refine (H1.out _).mono ?_; rintro e w' ⟨rfl, rfl⟩))
      exact bodyPost_ret (v := .tuple #[.bool false, .int .i64 7]) (by simp [results, Tryz.results23, go_sem]) rfl ⟨rfl, rfl⟩
    · have H1 := Lib.hid (fun W => outsideP_any op 1 6 true ((by omega : op < 1 ∨ (1 ≤ op ∧ 6 < op)).elim (fun h => .inr (.inl ⟨rfl, h⟩)) (fun h => .inr (.inr ⟨rfl, h.1, h.2⟩))) W)
      clear ho hc
      go_enter Tryz.func24, Tryz.ntmps24
      go_wp2_with (first | (go_at_call 30; refine (H1.out _).mono ?_; rintro e w' ⟨rfl, rfl⟩))
      exact bodyPost_ret (v := .tuple #[.bool false, .int .i64 7]) (by simp [results, Tryz.results24, go_sem]) rfl ⟨rfl, rfl⟩
/-- Digits of both sides. -/
theorem Digits_both (n den pl : Int) : ∃ (R : ByteArray) (E : Int), (∀ W, Pow W → Calls Tryz.prog 21 #[.int .i64 n, .int .i64 den, .int .i64 pl] W fun e w' => e = .returned (.tuple #[.string R, .int .i64 E]) ∧ ∃ x, w' = gx W x) ∧ (∀ W, Pow W → Calls Tryz.prog 22 #[.int .i64 n, .int .i64 den, .int .i64 pl] W fun e w' => e = .returned (.tuple #[.string R, .int .i64 E]) ∧ ∃ x, w' = gx W x) := by
  have hw : ((-1125899906842624 ≤ n ∧ n ≤ 1125899906842624) ∧ (1 ≤ den ∧ den ≤ 1000000) ∧ 0 ≤ pl ∧ pl ≤ 6) ∨ (n < -1125899906842624) ∨ (1125899906842624 < n) ∨ ((-1125899906842624 ≤ n ∧ n ≤ 1125899906842624) ∧ den < 1) ∨ ((-1125899906842624 ≤ n ∧ n ≤ 1125899906842624) ∧ 1 ≤ den ∧ 1000000 < den) ∨ ((-1125899906842624 ≤ n ∧ n ≤ 1125899906842624) ∧ (1 ≤ den ∧ den ≤ 1000000) ∧ pl < 0) ∨ ((-1125899906842624 ≤ n ∧ n ≤ 1125899906842624) ∧ (1 ≤ den ∧ den ≤ 1000000) ∧ 0 ≤ pl ∧ 6 < pl) := by omega
  rcases hw with ⟨hn, hd, h0, h6⟩ | h | h | ⟨hn, h⟩ | ⟨hn, h, h'⟩ | ⟨hn, hd, h⟩ | ⟨hn, hd, h, h'⟩
  · obtain ⟨p, rfl⟩ : ∃ p : Nat, pl = (p : Int) := ⟨pl.toNat, by omega⟩
    obtain ⟨R, D1, D2⟩ := digits_both n den p hn hd (by omega)
    refine ⟨R, 0, fun W hP => ?_, fun W hP => ?_⟩
    · have H1 := Lib.hid (fun W => pNumber_any n true (.inl ⟨rfl, hn.1, hn.2⟩) W)
      have H2 := Lib.hid (D1 W hP)
      have k1 : decide (den < 1) = false := decide_eq_false (by omega)
      have k2 : decide (1000000 < den) = false := decide_eq_false (by omega)
      have k3 : decide ((p : Int) < 0) = false := decide_eq_false (by omega)
      have k4 : decide (6 < (p : Int)) = false := decide_eq_false (by omega)
      have k5 : decide (6 < p) = false := decide_eq_false (by omega)
      clear hn hd h0 h6 D1 D2
      go_enter Tryz.func21, Tryz.ntmps21
      go_wp2_with (first | go_skip | (go_at_call 51; refine (H1.out _).mono ?_; rintro e w' ⟨rfl, rfl⟩) | (go_at_call 52; refine H2.out.mono ?_; rintro e w' ⟨rfl, x1, rfl⟩))
      exact bodyPost_ret (v := .tuple #[.string R, .int .i64 0]) (by simp [results, Tryz.results21, go_sem]) rfl ⟨rfl, (by repeat (first | (with_reducible exact Gx.refl _) | (with_reducible assumption) | (with_reducible refine Gx.gx ?_) | (with_reducible refine Gx.alloc ?_) | (with_reducible refine Gx.drew ?_) | (with_reducible refine Gx.drewN ?_) | (with_reducible refine Gx.setRow ?_ (by first | omega | (simp; done) | (simp <;> omega))) | (with_reducible refine Gx.setCell ?_ (by first | omega | (simp; done) | (simp <;> omega)))))⟩
    · have H1 := Lib.hid (fun W => outsideP_any n (-1125899906842624) 1125899906842624 false (.inl ⟨rfl, hn.1, hn.2⟩) W)
      have H2 := Lib.hid (fun W => outsideP_any den 1 1000000 false (.inl ⟨rfl, hd.1, hd.2⟩) W)
      have H3 := Lib.hid (fun W => outsideP_any (p : Int) 0 6 false (.inl ⟨rfl, h0, h6⟩) W)
      have H4 := Lib.hid (D2 W hP)
      clear hn hd h0 h6 D1 D2
      go_enter Tryz.func22, Tryz.ntmps22
      go_wp2_with (first | go_skip | (go_at_call 30; with_reducible refine (H1.out _).mono ?_; rintro e w' ⟨rfl, rfl⟩) | (go_at_call 30; with_reducible refine (H2.out _).mono ?_; rintro e w' ⟨rfl, rfl⟩) | (go_at_call 30; with_reducible refine (H3.out _).mono ?_; rintro e w' ⟨rfl, rfl⟩) | (go_at_call 53; refine H4.out.mono ?_; rintro e w' ⟨rfl, x1, rfl⟩))
      exact bodyPost_ret (v := .tuple #[.string R, .int .i64 0]) (by simp [results, Tryz.results22, go_sem]) rfl ⟨rfl, (by repeat (first | (with_reducible exact Gx.refl _) | (with_reducible assumption) | (with_reducible refine Gx.gx ?_) | (with_reducible refine Gx.alloc ?_) | (with_reducible refine Gx.drew ?_) | (with_reducible refine Gx.drewN ?_) | (with_reducible refine Gx.setRow ?_ (by first | omega | (simp; done) | (simp <;> omega))) | (with_reducible refine Gx.setCell ?_ (by first | omega | (simp; done) | (simp <;> omega)))))⟩
  · refine ⟨⟨#[]⟩, 9, fun W _ => ?_, fun W _ => ?_⟩
    · have H1 := Lib.hid (fun W => pNumber_any n false (.inr (.inl ⟨rfl, h⟩)) W)
      clear h
      go_enter Tryz.func21, Tryz.ntmps21
      go_wp2_with (first | go_skip | (go_at_call 51; refine (H1.out _).mono ?_; rintro e w' ⟨rfl, rfl⟩))
      exact bodyPost_ret (v := .tuple #[.string ⟨#[]⟩, .int .i64 9]) (by simp [results, Tryz.results21, go_sem]) rfl ⟨rfl, (by repeat (first | (with_reducible exact Gx.refl _) | (with_reducible assumption) | (with_reducible refine Gx.gx ?_) | (with_reducible refine Gx.alloc ?_) | (with_reducible refine Gx.drew ?_) | (with_reducible refine Gx.drewN ?_) | (with_reducible refine Gx.setRow ?_ (by first | omega | (simp; done) | (simp <;> omega))) | (with_reducible refine Gx.setCell ?_ (by first | omega | (simp; done) | (simp <;> omega)))))⟩
    · have H0 := Lib.hid (fun W => outsideP_any n (-1125899906842624) 1125899906842624 true (.inr (.inl ⟨rfl, h⟩)) W)
      clear h
      go_enter Tryz.func22, Tryz.ntmps22
      go_wp2_with (first | go_skip | (go_at_call 30; with_reducible refine (H0.out _).mono ?_; rintro e w' ⟨rfl, rfl⟩))
      exact bodyPost_ret (v := .tuple #[.string ⟨#[]⟩, .int .i64 9]) (by simp [results, Tryz.results22, go_sem]) rfl ⟨rfl, (by repeat (first | (with_reducible exact Gx.refl _) | (with_reducible assumption) | (with_reducible refine Gx.gx ?_) | (with_reducible refine Gx.alloc ?_) | (with_reducible refine Gx.drew ?_) | (with_reducible refine Gx.drewN ?_) | (with_reducible refine Gx.setRow ?_ (by first | omega | (simp; done) | (simp <;> omega))) | (with_reducible refine Gx.setCell ?_ (by first | omega | (simp; done) | (simp <;> omega)))))⟩
  · refine ⟨⟨#[]⟩, 9, fun W _ => ?_, fun W _ => ?_⟩
    · have H1 := Lib.hid (fun W => pNumber_any n false (.inr (.inr ⟨rfl, h⟩)) W)
      clear h
      go_enter Tryz.func21, Tryz.ntmps21
      go_wp2_with (first | go_skip | (go_at_call 51; refine (H1.out _).mono ?_; rintro e w' ⟨rfl, rfl⟩))
      exact bodyPost_ret (v := .tuple #[.string ⟨#[]⟩, .int .i64 9]) (by simp [results, Tryz.results21, go_sem]) rfl ⟨rfl, (by repeat (first | (with_reducible exact Gx.refl _) | (with_reducible assumption) | (with_reducible refine Gx.gx ?_) | (with_reducible refine Gx.alloc ?_) | (with_reducible refine Gx.drew ?_) | (with_reducible refine Gx.drewN ?_) | (with_reducible refine Gx.setRow ?_ (by first | omega | (simp; done) | (simp <;> omega))) | (with_reducible refine Gx.setCell ?_ (by first | omega | (simp; done) | (simp <;> omega)))))⟩
    · have H0 := Lib.hid (fun W => outsideP_any n (-1125899906842624) 1125899906842624 true (.inr (.inr ⟨rfl, by omega, h⟩)) W)
      clear h
      go_enter Tryz.func22, Tryz.ntmps22
      go_wp2_with (first | go_skip | (go_at_call 30; with_reducible refine (H0.out _).mono ?_; rintro e w' ⟨rfl, rfl⟩))
      exact bodyPost_ret (v := .tuple #[.string ⟨#[]⟩, .int .i64 9]) (by simp [results, Tryz.results22, go_sem]) rfl ⟨rfl, (by repeat (first | (with_reducible exact Gx.refl _) | (with_reducible assumption) | (with_reducible refine Gx.gx ?_) | (with_reducible refine Gx.alloc ?_) | (with_reducible refine Gx.drew ?_) | (with_reducible refine Gx.drewN ?_) | (with_reducible refine Gx.setRow ?_ (by first | omega | (simp; done) | (simp <;> omega))) | (with_reducible refine Gx.setCell ?_ (by first | omega | (simp; done) | (simp <;> omega)))))⟩
  · refine ⟨⟨#[]⟩, 9, fun W _ => ?_, fun W _ => ?_⟩
    · have H1 := Lib.hid (fun W => pNumber_any n true (.inl ⟨rfl, hn.1, hn.2⟩) W)
      have k0 : decide (den < 1) = true := decide_eq_true h
      clear hn h
      go_enter Tryz.func21, Tryz.ntmps21
      go_wp2_with (first | go_skip | (go_at_call 51; refine (H1.out _).mono ?_; rintro e w' ⟨rfl, rfl⟩))
      exact bodyPost_ret (v := .tuple #[.string ⟨#[]⟩, .int .i64 9]) (by simp [results, Tryz.results21, go_sem]) rfl ⟨rfl, (by repeat (first | (with_reducible exact Gx.refl _) | (with_reducible assumption) | (with_reducible refine Gx.gx ?_) | (with_reducible refine Gx.alloc ?_) | (with_reducible refine Gx.drew ?_) | (with_reducible refine Gx.drewN ?_) | (with_reducible refine Gx.setRow ?_ (by first | omega | (simp; done) | (simp <;> omega))) | (with_reducible refine Gx.setCell ?_ (by first | omega | (simp; done) | (simp <;> omega)))))⟩
    · have H0 := Lib.hid (fun W => outsideP_any n (-1125899906842624) 1125899906842624 false (.inl ⟨rfl, hn.1, hn.2⟩) W)
      have H1 := Lib.hid (fun W => outsideP_any den 1 1000000 true (.inr (.inl ⟨rfl, h⟩)) W)
      clear hn h
      go_enter Tryz.func22, Tryz.ntmps22
      go_wp2_with (first | go_skip | (go_at_call 30; with_reducible refine (H0.out _).mono ?_; rintro e w' ⟨rfl, rfl⟩) | (go_at_call 30; with_reducible refine (H1.out _).mono ?_; rintro e w' ⟨rfl, rfl⟩))
      exact bodyPost_ret (v := .tuple #[.string ⟨#[]⟩, .int .i64 9]) (by simp [results, Tryz.results22, go_sem]) rfl ⟨rfl, (by repeat (first | (with_reducible exact Gx.refl _) | (with_reducible assumption) | (with_reducible refine Gx.gx ?_) | (with_reducible refine Gx.alloc ?_) | (with_reducible refine Gx.drew ?_) | (with_reducible refine Gx.drewN ?_) | (with_reducible refine Gx.setRow ?_ (by first | omega | (simp; done) | (simp <;> omega))) | (with_reducible refine Gx.setCell ?_ (by first | omega | (simp; done) | (simp <;> omega)))))⟩
  · refine ⟨⟨#[]⟩, 9, fun W _ => ?_, fun W _ => ?_⟩
    · have H1 := Lib.hid (fun W => pNumber_any n true (.inl ⟨rfl, hn.1, hn.2⟩) W)
      have k0 : decide (den < 1) = false := decide_eq_false (by omega)
      have k1 : decide (1000000 < den) = true := decide_eq_true h'
      clear hn h h'
      go_enter Tryz.func21, Tryz.ntmps21
      go_wp2_with (first | go_skip | (go_at_call 51; refine (H1.out _).mono ?_; rintro e w' ⟨rfl, rfl⟩))
      exact bodyPost_ret (v := .tuple #[.string ⟨#[]⟩, .int .i64 9]) (by simp [results, Tryz.results21, go_sem]) rfl ⟨rfl, (by repeat (first | (with_reducible exact Gx.refl _) | (with_reducible assumption) | (with_reducible refine Gx.gx ?_) | (with_reducible refine Gx.alloc ?_) | (with_reducible refine Gx.drew ?_) | (with_reducible refine Gx.drewN ?_) | (with_reducible refine Gx.setRow ?_ (by first | omega | (simp; done) | (simp <;> omega))) | (with_reducible refine Gx.setCell ?_ (by first | omega | (simp; done) | (simp <;> omega)))))⟩
    · have H0 := Lib.hid (fun W => outsideP_any n (-1125899906842624) 1125899906842624 false (.inl ⟨rfl, hn.1, hn.2⟩) W)
      have H1 := Lib.hid (fun W => outsideP_any den 1 1000000 true (.inr (.inr ⟨rfl, h, h'⟩)) W)
      clear hn h h'
      go_enter Tryz.func22, Tryz.ntmps22
      go_wp2_with (first | go_skip | (go_at_call 30; with_reducible refine (H0.out _).mono ?_; rintro e w' ⟨rfl, rfl⟩) | (go_at_call 30; with_reducible refine (H1.out _).mono ?_; rintro e w' ⟨rfl, rfl⟩))
      exact bodyPost_ret (v := .tuple #[.string ⟨#[]⟩, .int .i64 9]) (by simp [results, Tryz.results22, go_sem]) rfl ⟨rfl, (by repeat (first | (with_reducible exact Gx.refl _) | (with_reducible assumption) | (with_reducible refine Gx.gx ?_) | (with_reducible refine Gx.alloc ?_) | (with_reducible refine Gx.drew ?_) | (with_reducible refine Gx.drewN ?_) | (with_reducible refine Gx.setRow ?_ (by first | omega | (simp; done) | (simp <;> omega))) | (with_reducible refine Gx.setCell ?_ (by first | omega | (simp; done) | (simp <;> omega)))))⟩
  · refine ⟨⟨#[]⟩, 9, fun W _ => ?_, fun W _ => ?_⟩
    · have H1 := Lib.hid (fun W => pNumber_any n true (.inl ⟨rfl, hn.1, hn.2⟩) W)
      have k0 : decide (den < 1) = false := decide_eq_false (by omega)
      have k1 : decide (1000000 < den) = false := decide_eq_false (by omega)
      have k2 : decide (pl < 0) = true := decide_eq_true h
      clear hn hd h
      go_enter Tryz.func21, Tryz.ntmps21
      go_wp2_with (first | go_skip | (go_at_call 51; refine (H1.out _).mono ?_; rintro e w' ⟨rfl, rfl⟩))
      exact bodyPost_ret (v := .tuple #[.string ⟨#[]⟩, .int .i64 9]) (by simp [results, Tryz.results21, go_sem]) rfl ⟨rfl, (by repeat (first | (with_reducible exact Gx.refl _) | (with_reducible assumption) | (with_reducible refine Gx.gx ?_) | (with_reducible refine Gx.alloc ?_) | (with_reducible refine Gx.drew ?_) | (with_reducible refine Gx.drewN ?_) | (with_reducible refine Gx.setRow ?_ (by first | omega | (simp; done) | (simp <;> omega))) | (with_reducible refine Gx.setCell ?_ (by first | omega | (simp; done) | (simp <;> omega)))))⟩
    · have H0 := Lib.hid (fun W => outsideP_any n (-1125899906842624) 1125899906842624 false (.inl ⟨rfl, hn.1, hn.2⟩) W)
      have H1 := Lib.hid (fun W => outsideP_any den 1 1000000 false (.inl ⟨rfl, hd.1, hd.2⟩) W)
      have H2 := Lib.hid (fun W => outsideP_any pl 0 6 true (.inr (.inl ⟨rfl, h⟩)) W)
      clear hn hd h
      go_enter Tryz.func22, Tryz.ntmps22
      go_wp2_with (first | go_skip | (go_at_call 30; with_reducible refine (H0.out _).mono ?_; rintro e w' ⟨rfl, rfl⟩) | (go_at_call 30; with_reducible refine (H1.out _).mono ?_; rintro e w' ⟨rfl, rfl⟩) | (go_at_call 30; with_reducible refine (H2.out _).mono ?_; rintro e w' ⟨rfl, rfl⟩))
      exact bodyPost_ret (v := .tuple #[.string ⟨#[]⟩, .int .i64 9]) (by simp [results, Tryz.results22, go_sem]) rfl ⟨rfl, (by repeat (first | (with_reducible exact Gx.refl _) | (with_reducible assumption) | (with_reducible refine Gx.gx ?_) | (with_reducible refine Gx.alloc ?_) | (with_reducible refine Gx.drew ?_) | (with_reducible refine Gx.drewN ?_) | (with_reducible refine Gx.setRow ?_ (by first | omega | (simp; done) | (simp <;> omega))) | (with_reducible refine Gx.setCell ?_ (by first | omega | (simp; done) | (simp <;> omega)))))⟩
  · refine ⟨⟨#[]⟩, 9, fun W _ => ?_, fun W _ => ?_⟩
    · have H1 := Lib.hid (fun W => pNumber_any n true (.inl ⟨rfl, hn.1, hn.2⟩) W)
      have k0 : decide (den < 1) = false := decide_eq_false (by omega)
      have k1 : decide (1000000 < den) = false := decide_eq_false (by omega)
      have k2 : decide (pl < 0) = false := decide_eq_false (by omega)
      have k3 : decide (6 < pl) = true := decide_eq_true h'
      clear hn hd h h'
      go_enter Tryz.func21, Tryz.ntmps21
      go_wp2_with (first | go_skip | (go_at_call 51; refine (H1.out _).mono ?_; rintro e w' ⟨rfl, rfl⟩))
      exact bodyPost_ret (v := .tuple #[.string ⟨#[]⟩, .int .i64 9]) (by simp [results, Tryz.results21, go_sem]) rfl ⟨rfl, (by repeat (first | (with_reducible exact Gx.refl _) | (with_reducible assumption) | (with_reducible refine Gx.gx ?_) | (with_reducible refine Gx.alloc ?_) | (with_reducible refine Gx.drew ?_) | (with_reducible refine Gx.drewN ?_) | (with_reducible refine Gx.setRow ?_ (by first | omega | (simp; done) | (simp <;> omega))) | (with_reducible refine Gx.setCell ?_ (by first | omega | (simp; done) | (simp <;> omega)))))⟩
    · have H0 := Lib.hid (fun W => outsideP_any n (-1125899906842624) 1125899906842624 false (.inl ⟨rfl, hn.1, hn.2⟩) W)
      have H1 := Lib.hid (fun W => outsideP_any den 1 1000000 false (.inl ⟨rfl, hd.1, hd.2⟩) W)
      have H2 := Lib.hid (fun W => outsideP_any pl 0 6 true (.inr (.inr ⟨rfl, h, h'⟩)) W)
      clear hn hd h h'
      go_enter Tryz.func22, Tryz.ntmps22
      go_wp2_with (first | go_skip | (go_at_call 30; with_reducible refine (H0.out _).mono ?_; rintro e w' ⟨rfl, rfl⟩) | (go_at_call 30; with_reducible refine (H1.out _).mono ?_; rintro e w' ⟨rfl, rfl⟩) | (go_at_call 30; with_reducible refine (H2.out _).mono ?_; rintro e w' ⟨rfl, rfl⟩))
      exact bodyPost_ret (v := .tuple #[.string ⟨#[]⟩, .int .i64 9]) (by simp [results, Tryz.results22, go_sem]) rfl ⟨rfl, (by repeat (first | (with_reducible exact Gx.refl _) | (with_reducible assumption) | (with_reducible refine Gx.gx ?_) | (with_reducible refine Gx.alloc ?_) | (with_reducible refine Gx.drew ?_) | (with_reducible refine Gx.drewN ?_) | (with_reducible refine Gx.setRow ?_ (by first | omega | (simp; done) | (simp <;> omega))) | (with_reducible refine Gx.setCell ?_ (by first | omega | (simp; done) | (simp <;> omega)))))⟩
end Go.Proofs.YtocaphcnnmcnjaaGreatDoor

/-
  Dials: what is wrong with one, and the program's checkDial.
-/
namespace Go.Proofs.YtocaphcnnmcnjaaGreatDoor
open Go.RowKit
-- AT2
-- AT3

structure Zn where
  fr : Int
  to : Int
  nm : ByteArray
/-- The zones z 0 .. z (n - 1) lie at A. -/
@[irreducible] def ZnAt (w : World) (z : Nat → Zn) (n : Nat) (A : Option Addr) : Prop := 0 < n → ∃ b o, A = some ⟨b, o, none⟩ ∧ ∀ k, k < n → w.cell? ⟨b, o + k * 3, none⟩ = some (.int .i64 (z k).fr) ∧ w.cell? ⟨b, o + k * 3 + 1, none⟩ = some (.int .i64 (z k).to) ∧ w.cell? ⟨b, o + k * 3 + 2, none⟩ = some (.string (z k).nm)
theorem ZnAt.get {w : World} {z : Nat → Zn} {n : Nat} {A : Option Addr} (h : ZnAt w z n A) (h0 : 0 < n) : ∃ b o, A = some ⟨b, o, none⟩ ∧ b < w.heap.size ∧ Hid (∀ k, k < n → w.cell? ⟨b, o + k * 3, none⟩ = some (.int .i64 (z k).fr) ∧ w.cell? ⟨b, o + k * 3 + 1, none⟩ = some (.int .i64 (z k).to) ∧ w.cell? ⟨b, o + k * 3 + 2, none⟩ = some (.string (z k).nm)) := by
  unfold ZnAt at h
  obtain ⟨b, o, e, hc⟩ := h h0
  exact ⟨b, o, e, World.block_lt_of_cell? w _ (hc 0 h0).1, Lib.hid hc⟩
theorem ZnAt.mk {w : World} {z : Nat → Zn} {n : Nat} {A : Option Addr} (h : 0 < n → ∃ b o, A = some ⟨b, o, none⟩ ∧ ∀ k, k < n → w.cell? ⟨b, o + k * 3, none⟩ = some (.int .i64 (z k).fr) ∧ w.cell? ⟨b, o + k * 3 + 1, none⟩ = some (.int .i64 (z k).to) ∧ w.cell? ⟨b, o + k * 3 + 2, none⟩ = some (.string (z k).nm)) : ZnAt w z n A := by
  unfold ZnAt; exact h
theorem ZnAt.gx {w : World} {z : Nat → Zn} {n : Nat} {A : Option Addr} {x : Ext} (h : ZnAt w z n A) : ZnAt (gx w x) z n A := by
  unfold ZnAt at *
  intro h0
  obtain ⟨b, o, e, hc⟩ := h h0
  refine ⟨b, o, e, fun k hk => ?_⟩
  obtain ⟨c1, c2, c3⟩ := hc k hk
  exact ⟨cell_keep_gx c1, cell_keep_gx c2, cell_keep_gx c3⟩
/-- What is wrong with the zone k, nothing being wrong with those before; with a dial. -/
def badZ (z : Nat → Zn) (NB : Nat → Bool) (k : Nat) : Int := if NB k = false then 8 else if (z k).to < (z k).fr then 9 else if 0 < k ∧ (z k).fr ≤ (z (k - 1)).to then 10 else 0
theorem badZ_8 {z : Nat → Zn} {NB : Nat → Bool} {k : Nat} (h : NB k = false) : badZ z NB k = 8 := by unfold badZ; rw [if_pos h]
theorem badZ_9 {z : Nat → Zn} {NB : Nat → Bool} {k : Nat} (h : NB k = true) (h2 : (z k).to < (z k).fr) : badZ z NB k = 9 := by unfold badZ; rw [if_neg (by rw [h]; decide), if_pos h2]
theorem badZ_10 {z : Nat → Zn} {NB : Nat → Bool} {k : Nat} (h : NB k = true) (h2 : ¬ (z k).to < (z k).fr) (h3 : 0 < k ∧ (z k).fr ≤ (z (k - 1)).to) : badZ z NB k = 10 := by unfold badZ; rw [if_neg (by rw [h]; decide), if_neg h2, if_pos h3]
theorem badZ_0 {z : Nat → Zn} {NB : Nat → Bool} {k : Nat} (h : NB k = true) (h2 : ¬ (z k).to < (z k).fr) (h3 : ¬ (0 < k ∧ (z k).fr ≤ (z (k - 1)).to)) : badZ z NB k = 0 := by unfold badZ; rw [if_neg (by rw [h]; decide), if_neg h2, if_neg h3]
@[irreducible] def dialE (z : Nat → Zn) (NB : Nat → Bool) (n : Nat) (lo hi st : Int) : Int :=
  if hi ≤ lo ∨ lo < -1125899906842624 ∨ 1125899906842624 < lo ∨ hi < -1125899906842624 ∨ 1125899906842624 < hi ∨ st < 1 ∨ 1000 < st then 9 else if 10 < n then 3 else firstOf (badZ z NB) n
set_option maxHeartbeats 2000000 in
set_option maxRecDepth 100000 in
theorem checkDial_1 (kd : Int) (nm tr : ByteArray) (pl lo hi st : Int) (Z : Option Addr) (zn zc : Nat) (op nn : Int) (lt : Bool) (sz : Int) (w : World) (hc : hi ≤ lo) :
    Calls Tryz.prog 28 #[inV kd nm tr pl lo hi st Z zn zc op nn lt sz] w fun e w' => e = .returned (.int .i64 9) ∧ ∃ x, w' = gx w x := by
  have k0 : decide (hi ≤ lo) = true := decide_eq_true hc
  clear hc
  go_enter Tryz.func28, Tryz.ntmps28
  go_wp2_with (first | go_skip)
  go_ret
  exact ⟨rfl, (by repeat (first | (with_reducible exact Gx.refl _) | (with_reducible assumption) | (with_reducible refine Gx.gx ?_) | (with_reducible refine Gx.alloc ?_) | (with_reducible refine Gx.drew ?_) | (with_reducible refine Gx.drewN ?_) | (with_reducible refine Gx.setRow ?_ (by first | omega | (simp; done) | (simp <;> omega))) | (with_reducible refine Gx.setCell ?_ (by first | omega | (simp; done) | (simp <;> omega)))))⟩
set_option maxHeartbeats 2000000 in
set_option maxRecDepth 100000 in
theorem checkDial_2 (kd : Int) (nm tr : ByteArray) (pl lo hi st : Int) (Z : Option Addr) (zn zc : Nat) (op nn : Int) (lt : Bool) (sz : Int) (w : World) (hc : lo < hi ∧ lo < -1125899906842624) :
    Calls Tryz.prog 28 #[inV kd nm tr pl lo hi st Z zn zc op nn lt sz] w fun e w' => e = .returned (.int .i64 9) ∧ ∃ x, w' = gx w x := by
  have G0 := Lib.hid (fun W => pNumber_any lo false (.inr (.inl ⟨rfl, by omega⟩)) W)
  have k0 : decide (hi ≤ lo) = false := decide_eq_false (by omega)
  clear hc
  go_enter Tryz.func28, Tryz.ntmps28
  go_wp2_with (first | go_skip | (go_at_call 51; with_reducible refine (G0.out _).mono ?_; rintro e w' ⟨rfl, rfl⟩))
  go_ret
  exact ⟨rfl, (by repeat (first | (with_reducible exact Gx.refl _) | (with_reducible assumption) | (with_reducible refine Gx.gx ?_) | (with_reducible refine Gx.alloc ?_) | (with_reducible refine Gx.drew ?_) | (with_reducible refine Gx.drewN ?_) | (with_reducible refine Gx.setRow ?_ (by first | omega | (simp; done) | (simp <;> omega))) | (with_reducible refine Gx.setCell ?_ (by first | omega | (simp; done) | (simp <;> omega)))))⟩
set_option maxHeartbeats 2000000 in
set_option maxRecDepth 100000 in
theorem checkDial_3 (kd : Int) (nm tr : ByteArray) (pl lo hi st : Int) (Z : Option Addr) (zn zc : Nat) (op nn : Int) (lt : Bool) (sz : Int) (w : World) (hc : lo < hi ∧ 1125899906842624 < lo) :
    Calls Tryz.prog 28 #[inV kd nm tr pl lo hi st Z zn zc op nn lt sz] w fun e w' => e = .returned (.int .i64 9) ∧ ∃ x, w' = gx w x := by
  have G0 := Lib.hid (fun W => pNumber_any lo false (.inr (.inr ⟨rfl, by omega⟩)) W)
  have k0 : decide (hi ≤ lo) = false := decide_eq_false (by omega)
  clear hc
  go_enter Tryz.func28, Tryz.ntmps28
  go_wp2_with (first | go_skip | (go_at_call 51; with_reducible refine (G0.out _).mono ?_; rintro e w' ⟨rfl, rfl⟩))
  go_ret
  exact ⟨rfl, (by repeat (first | (with_reducible exact Gx.refl _) | (with_reducible assumption) | (with_reducible refine Gx.gx ?_) | (with_reducible refine Gx.alloc ?_) | (with_reducible refine Gx.drew ?_) | (with_reducible refine Gx.drewN ?_) | (with_reducible refine Gx.setRow ?_ (by first | omega | (simp; done) | (simp <;> omega))) | (with_reducible refine Gx.setCell ?_ (by first | omega | (simp; done) | (simp <;> omega)))))⟩
set_option maxHeartbeats 2000000 in
set_option maxRecDepth 100000 in
theorem checkDial_4 (kd : Int) (nm tr : ByteArray) (pl lo hi st : Int) (Z : Option Addr) (zn zc : Nat) (op nn : Int) (lt : Bool) (sz : Int) (w : World) (hc : lo < hi ∧ -1125899906842624 ≤ lo ∧ lo ≤ 1125899906842624 ∧ hi < -1125899906842624) :
    Calls Tryz.prog 28 #[inV kd nm tr pl lo hi st Z zn zc op nn lt sz] w fun e w' => e = .returned (.int .i64 9) ∧ ∃ x, w' = gx w x := by
  have G0 := Lib.hid (fun W => pNumber_any lo true (.inl ⟨rfl, by omega, by omega⟩) W)
  have G1 := Lib.hid (fun W => pNumber_any hi false (.inr (.inl ⟨rfl, by omega⟩)) W)
  have k0 : decide (hi ≤ lo) = false := decide_eq_false (by omega)
  clear hc
  go_enter Tryz.func28, Tryz.ntmps28
  go_wp2_with (first | go_skip | (go_at_call 51; with_reducible refine (G0.out _).mono ?_; rintro e w' ⟨rfl, rfl⟩) | (go_at_call 51; with_reducible refine (G1.out _).mono ?_; rintro e w' ⟨rfl, rfl⟩))
  go_ret
  exact ⟨rfl, (by repeat (first | (with_reducible exact Gx.refl _) | (with_reducible assumption) | (with_reducible refine Gx.gx ?_) | (with_reducible refine Gx.alloc ?_) | (with_reducible refine Gx.drew ?_) | (with_reducible refine Gx.drewN ?_) | (with_reducible refine Gx.setRow ?_ (by first | omega | (simp; done) | (simp <;> omega))) | (with_reducible refine Gx.setCell ?_ (by first | omega | (simp; done) | (simp <;> omega)))))⟩
set_option maxHeartbeats 2000000 in
set_option maxRecDepth 100000 in
theorem checkDial_5 (kd : Int) (nm tr : ByteArray) (pl lo hi st : Int) (Z : Option Addr) (zn zc : Nat) (op nn : Int) (lt : Bool) (sz : Int) (w : World) (hc : lo < hi ∧ -1125899906842624 ≤ lo ∧ lo ≤ 1125899906842624 ∧ 1125899906842624 < hi) :
    Calls Tryz.prog 28 #[inV kd nm tr pl lo hi st Z zn zc op nn lt sz] w fun e w' => e = .returned (.int .i64 9) ∧ ∃ x, w' = gx w x := by
  have G0 := Lib.hid (fun W => pNumber_any lo true (.inl ⟨rfl, by omega, by omega⟩) W)
  have G1 := Lib.hid (fun W => pNumber_any hi false (.inr (.inr ⟨rfl, by omega⟩)) W)
  have k0 : decide (hi ≤ lo) = false := decide_eq_false (by omega)
  clear hc
  go_enter Tryz.func28, Tryz.ntmps28
  go_wp2_with (first | go_skip | (go_at_call 51; with_reducible refine (G0.out _).mono ?_; rintro e w' ⟨rfl, rfl⟩) | (go_at_call 51; with_reducible refine (G1.out _).mono ?_; rintro e w' ⟨rfl, rfl⟩))
  go_ret
  exact ⟨rfl, (by repeat (first | (with_reducible exact Gx.refl _) | (with_reducible assumption) | (with_reducible refine Gx.gx ?_) | (with_reducible refine Gx.alloc ?_) | (with_reducible refine Gx.drew ?_) | (with_reducible refine Gx.drewN ?_) | (with_reducible refine Gx.setRow ?_ (by first | omega | (simp; done) | (simp <;> omega))) | (with_reducible refine Gx.setCell ?_ (by first | omega | (simp; done) | (simp <;> omega)))))⟩
set_option maxHeartbeats 2000000 in
set_option maxRecDepth 100000 in
theorem checkDial_6 (kd : Int) (nm tr : ByteArray) (pl lo hi st : Int) (Z : Option Addr) (zn zc : Nat) (op nn : Int) (lt : Bool) (sz : Int) (w : World) (hc : lo < hi ∧ -1125899906842624 ≤ lo ∧ hi ≤ 1125899906842624 ∧ st < 1) :
    Calls Tryz.prog 28 #[inV kd nm tr pl lo hi st Z zn zc op nn lt sz] w fun e w' => e = .returned (.int .i64 9) ∧ ∃ x, w' = gx w x := by
  have G0 := Lib.hid (fun W => pNumber_any lo true (.inl ⟨rfl, by omega, by omega⟩) W)
  have G1 := Lib.hid (fun W => pNumber_any hi true (.inl ⟨rfl, by omega, by omega⟩) W)
  have k0 : decide (hi ≤ lo) = false := decide_eq_false (by omega)
  have k1 : decide (st < 1) = true := decide_eq_true (by omega)
  clear hc
  go_enter Tryz.func28, Tryz.ntmps28
  go_wp2_with (first | go_skip | (go_at_call 51; with_reducible refine (G0.out _).mono ?_; rintro e w' ⟨rfl, rfl⟩) | (go_at_call 51; with_reducible refine (G1.out _).mono ?_; rintro e w' ⟨rfl, rfl⟩))
  go_ret
  exact ⟨rfl, (by repeat (first | (with_reducible exact Gx.refl _) | (with_reducible assumption) | (with_reducible refine Gx.gx ?_) | (with_reducible refine Gx.alloc ?_) | (with_reducible refine Gx.drew ?_) | (with_reducible refine Gx.drewN ?_) | (with_reducible refine Gx.setRow ?_ (by first | omega | (simp; done) | (simp <;> omega))) | (with_reducible refine Gx.setCell ?_ (by first | omega | (simp; done) | (simp <;> omega)))))⟩
set_option maxHeartbeats 2000000 in
set_option maxRecDepth 100000 in
theorem checkDial_7 (kd : Int) (nm tr : ByteArray) (pl lo hi st : Int) (Z : Option Addr) (zn zc : Nat) (op nn : Int) (lt : Bool) (sz : Int) (w : World) (hc : lo < hi ∧ -1125899906842624 ≤ lo ∧ hi ≤ 1125899906842624 ∧ 1000 < st) :
    Calls Tryz.prog 28 #[inV kd nm tr pl lo hi st Z zn zc op nn lt sz] w fun e w' => e = .returned (.int .i64 9) ∧ ∃ x, w' = gx w x := by
  have G0 := Lib.hid (fun W => pNumber_any lo true (.inl ⟨rfl, by omega, by omega⟩) W)
  have G1 := Lib.hid (fun W => pNumber_any hi true (.inl ⟨rfl, by omega, by omega⟩) W)
  have k0 : decide (hi ≤ lo) = false := decide_eq_false (by omega)
  have k1 : decide (st < 1) = false := decide_eq_false (by omega)
  have k2 : decide (1000 < st) = true := decide_eq_true (by omega)
  clear hc
  go_enter Tryz.func28, Tryz.ntmps28
  go_wp2_with (first | go_skip | (go_at_call 51; with_reducible refine (G0.out _).mono ?_; rintro e w' ⟨rfl, rfl⟩) | (go_at_call 51; with_reducible refine (G1.out _).mono ?_; rintro e w' ⟨rfl, rfl⟩))
  go_ret
  exact ⟨rfl, (by repeat (first | (with_reducible exact Gx.refl _) | (with_reducible assumption) | (with_reducible refine Gx.gx ?_) | (with_reducible refine Gx.alloc ?_) | (with_reducible refine Gx.drew ?_) | (with_reducible refine Gx.drewN ?_) | (with_reducible refine Gx.setRow ?_ (by first | omega | (simp; done) | (simp <;> omega))) | (with_reducible refine Gx.setCell ?_ (by first | omega | (simp; done) | (simp <;> omega)))))⟩
set_option maxHeartbeats 2000000 in
set_option maxRecDepth 100000 in
theorem checkDial_8 (kd : Int) (nm tr : ByteArray) (pl lo hi st : Int) (Z : Option Addr) (zn zc : Nat) (op nn : Int) (lt : Bool) (sz : Int) (w : World) (hc : lo < hi ∧ -1125899906842624 ≤ lo ∧ hi ≤ 1125899906842624 ∧ 1 ≤ st ∧ st ≤ 1000) (h3 : 10 < zn) :
    Calls Tryz.prog 28 #[inV kd nm tr pl lo hi st Z zn zc op nn lt sz] w fun e w' => e = .returned (.int .i64 3) ∧ ∃ x, w' = gx w x := by
  have G0 := Lib.hid (fun W => pNumber_any lo true (.inl ⟨rfl, by omega, by omega⟩) W)
  have G1 := Lib.hid (fun W => pNumber_any hi true (.inl ⟨rfl, by omega, by omega⟩) W)
  have k0 : decide (hi ≤ lo) = false := decide_eq_false (by omega)
  have k1 : decide (st < 1) = false := decide_eq_false (by omega)
  have k2 : decide (1000 < st) = false := decide_eq_false (by omega)
  clear hc
  have kz : decide (10 < (zn : Int)) = true := decide_eq_true (by omega)
  clear h3
  go_enter Tryz.func28, Tryz.ntmps28
  go_wp2_with (first | go_skip | (go_at_call 51; with_reducible refine (G0.out _).mono ?_; rintro e w' ⟨rfl, rfl⟩) | (go_at_call 51; with_reducible refine (G1.out _).mono ?_; rintro e w' ⟨rfl, rfl⟩))
  go_ret
  exact ⟨rfl, (by repeat (first | (with_reducible exact Gx.refl _) | (with_reducible assumption) | (with_reducible refine Gx.gx ?_) | (with_reducible refine Gx.alloc ?_) | (with_reducible refine Gx.drew ?_) | (with_reducible refine Gx.drewN ?_) | (with_reducible refine Gx.setRow ?_ (by first | omega | (simp; done) | (simp <;> omega))) | (with_reducible refine Gx.setCell ?_ (by first | omega | (simp; done) | (simp <;> omega)))))⟩
set_option maxHeartbeats 4000000 in
set_option maxRecDepth 100000 in
theorem checkDial_9 (kd : Int) (nm tr : ByteArray) (pl lo hi st : Int) (Z : Option Addr) (zn zc : Nat) (op nn : Int) (lt : Bool) (sz : Int) (z : Nat → Zn) (NB : Nat → Bool) (w : World) (hL : ZnAt w z zn Z) (HB : Hid (∀ k, k < zn → ∀ W, Calls Tryz.prog 25 #[.string (z k).nm] W fun e W' => e = .returned (.bool (NB k)) ∧ ∃ x, W' = gx W x)) (hc : lo < hi ∧ -1125899906842624 ≤ lo ∧ hi ≤ 1125899906842624 ∧ 1 ≤ st ∧ st ≤ 1000) (h3 : zn ≤ 10) :
    Calls Tryz.prog 28 #[inV kd nm tr pl lo hi st Z zn zc op nn lt sz] w fun e w' => e = .returned (.int .i64 (firstOf (badZ z NB) zn)) ∧ ∃ x, w' = gx w x := by
  have G0 := Lib.hid (fun W => pNumber_any lo true (.inl ⟨rfl, by omega, by omega⟩) W)
  have G1 := Lib.hid (fun W => pNumber_any hi true (.inl ⟨rfl, by omega, by omega⟩) W)
  have k0 : decide (hi ≤ lo) = false := decide_eq_false (by omega)
  have k1 : decide (st < 1) = false := decide_eq_false (by omega)
  have k2 : decide (1000 < st) = false := decide_eq_false (by omega)
  clear hc
  have kz : decide (10 < (zn : Int)) = false := decide_eq_false (by omega)
  go_enter Tryz.func28, Tryz.ntmps28
  go_wp2_with (first | go_skip | (go_at_call 51; with_reducible refine (G0.out _).mono ?_; rintro e w' ⟨rfl, rfl⟩) | (go_at_call 51; with_reducible refine (G1.out _).mono ?_; rintro e w' ⟨rfl, rfl⟩))
  clear k0 k1 k2 kz
  go_loopw [39] (fun i wr => ∃ k : Nat, k ≤ zn ∧ i = .int .i64 k ∧ firstOf (badZ z NB) k = 0 ∧ ∃ x, wr = gx (w.alloc (.cells #[.int .i64 kd, .string nm, .string tr, .int .i64 pl, .int .i64 lo, .int .i64 hi, .int .i64 st, .slice Z zn zc, .int .i64 op, .int .i64 nn, .bool lt, .int .i64 sz] 27)) x) (fun i _ => zn - (intOf i).toNat)
  case atStart => exact ⟨0, Nat.zero_le _, rfl, firstOf_0 _, Gx.refl _⟩
  case round =>
    obtain ⟨k, hk, rfl, hck, y, rfl⟩ := hrel
    have HCK := Lib.hid hck
    clear hck
    by_cases hlt : k < zn
    · obtain ⟨b, o, rfl, hbw, HC⟩ := hL.get (by omega)
      obtain ⟨c1, c2, c3⟩ := HC.out k hlt
      have HBk := Lib.hid (HB.out k hlt)
      cases hb : NB k with
      | false =>
        have HE := Lib.hid (firstOf_bad HCK.out hlt (badZ_8 (z := z) hb) (by decide))
        rw [hb] at HBk
        clear hb
        go_wp2_with (first | (go_at_call 25; refine (HBk.out _).mono ?_; rintro e w' ⟨rfl, x1, rfl⟩))
        go_ret
        exact ⟨by rw [HE.out]; first | done | rfl, (by repeat (first | (with_reducible exact Gx.refl _) | (with_reducible assumption) | (with_reducible refine Gx.gx ?_) | (with_reducible refine Gx.alloc ?_) | (with_reducible refine Gx.drew ?_) | (with_reducible refine Gx.drewN ?_) | (with_reducible refine Gx.setRow ?_ (by first | omega | (simp; done) | (simp <;> omega))) | (with_reducible refine Gx.setCell ?_ (by first | omega | (simp; done) | (simp <;> omega)))))⟩
      | true =>
        rw [hb] at HBk
        by_cases h2 : (z k).to < (z k).fr
        · have HE := Lib.hid (firstOf_bad HCK.out hlt (badZ_9 (z := z) hb h2) (by decide))
          have d2 : decide ((z k).to < (z k).fr) = true := decide_eq_true h2
          clear hb h2
          go_wp2_with (first | (go_at_call 25; refine (HBk.out _).mono ?_; rintro e w' ⟨rfl, x1, rfl⟩))
          go_ret
          exact ⟨by rw [HE.out]; first | done | rfl, (by repeat (first | (with_reducible exact Gx.refl _) | (with_reducible assumption) | (with_reducible refine Gx.gx ?_) | (with_reducible refine Gx.alloc ?_) | (with_reducible refine Gx.drew ?_) | (with_reducible refine Gx.drewN ?_) | (with_reducible refine Gx.setRow ?_ (by first | omega | (simp; done) | (simp <;> omega))) | (with_reducible refine Gx.setCell ?_ (by first | omega | (simp; done) | (simp <;> omega)))))⟩
        · have d2 : decide ((z k).to < (z k).fr) = false := decide_eq_false h2
          rcases Nat.eq_zero_or_pos k with h00 | h00
          · have HE := Lib.hid ((firstOf_succ HCK.out).trans (badZ_0 (z := z) hb h2 (fun h => by omega)))
            have dk : decide (0 < k) = false := decide_eq_false (by omega)
            clear hb h2 h00
            go_wp2_with (first | (go_at_call 25; refine (HBk.out _).mono ?_; rintro e w' ⟨rfl, x1, rfl⟩))
            go_quiet (fail)
            go_wp2
            go_roundw
            case rel => exact ⟨k + 1, by omega, by go_num, HE.out, (by repeat (first | (with_reducible exact Gx.refl _) | (with_reducible assumption) | (with_reducible refine Gx.gx ?_) | (with_reducible refine Gx.alloc ?_) | (with_reducible refine Gx.drew ?_) | (with_reducible refine Gx.drewN ?_) | (with_reducible refine Gx.setRow ?_ (by first | omega | (simp; done) | (simp <;> omega))) | (with_reducible refine Gx.setCell ?_ (by first | omega | (simp; done) | (simp <;> omega)))))⟩
            case measure => simp [intOf]; omega
          · obtain ⟨j, hj⟩ : ∃ j, k = j + 1 := ⟨k - 1, by omega⟩
            obtain ⟨a1, a2, a3⟩ := HC.out j (by omega)
            have hjn : j < zn := by omega
            have ej : k - 1 = j := by omega
            by_cases hr : (z k).fr ≤ (z j).to
            · have dk : decide (0 < k) = true := decide_eq_true (by omega)
              have hs1 : w.heap.size < w.heap.size + 1 + y.n := by omega
              have hb1 : b < w.heap.size + 1 + y.n := by omega
              have HE := Lib.hid (firstOf_bad HCK.out hlt (badZ_10 (z := z) hb h2 ⟨h00, by rw [ej]; exact hr⟩) (by decide))
              have dr : decide ((z k).fr ≤ (z j).to) = true := decide_eq_true hr
              have e1 : IntKind.i64.wrap ((k : Int) - 1) = (j : Int) := by rw [IntWalk.i64_in _ (by omega)]; omega
              clear hb h2 hr ej hj h00
              go_wp2_with (first | (go_at_call 25; refine (HBk.out _).mono ?_; rintro e w' ⟨rfl, x1, rfl⟩))
              have hs2 : w.heap.size < w.heap.size + 1 + y.n + 1 + x1.n := by omega
              have hb2 : b < w.heap.size + 1 + y.n + 1 + x1.n := by omega
              go_quiet (fail)
              go_wp2
              go_ret
              exact ⟨by rw [HE.out]; first | done | rfl, (by repeat (first | (with_reducible exact Gx.refl _) | (with_reducible assumption) | (with_reducible refine Gx.gx ?_) | (with_reducible refine Gx.alloc ?_) | (with_reducible refine Gx.drew ?_) | (with_reducible refine Gx.drewN ?_) | (with_reducible refine Gx.setRow ?_ (by first | omega | (simp; done) | (simp <;> omega))) | (with_reducible refine Gx.setCell ?_ (by first | omega | (simp; done) | (simp <;> omega)))))⟩
            · have dk : decide (0 < k) = true := decide_eq_true (by omega)
              have hs1 : w.heap.size < w.heap.size + 1 + y.n := by omega
              have hb1 : b < w.heap.size + 1 + y.n := by omega
              have HE := Lib.hid ((firstOf_succ HCK.out).trans (badZ_0 (z := z) hb h2 (fun h => hr (by rw [← ej]; exact h.2))))
              have dr : decide ((z k).fr ≤ (z j).to) = false := decide_eq_false hr
              have e1 : IntKind.i64.wrap ((k : Int) - 1) = (j : Int) := by rw [IntWalk.i64_in _ (by omega)]; omega
              clear hb h2 hr ej hj h00
              go_wp2_with (first | (go_at_call 25; refine (HBk.out _).mono ?_; rintro e w' ⟨rfl, x1, rfl⟩))
              have hs2 : w.heap.size < w.heap.size + 1 + y.n + 1 + x1.n := by omega
              have hb2 : b < w.heap.size + 1 + y.n + 1 + x1.n := by omega
              go_quiet (fail)
              go_wp2
              go_roundw
              case rel => exact ⟨k + 1, by omega, by go_num, HE.out, (by repeat (first | (with_reducible exact Gx.refl _) | (with_reducible assumption) | (with_reducible refine Gx.gx ?_) | (with_reducible refine Gx.alloc ?_) | (with_reducible refine Gx.drew ?_) | (with_reducible refine Gx.drewN ?_) | (with_reducible refine Gx.setRow ?_ (by first | omega | (simp; done) | (simp <;> omega))) | (with_reducible refine Gx.setCell ?_ (by first | omega | (simp; done) | (simp <;> omega)))))⟩
              case measure => simp [intOf]; omega
    · obtain rfl : k = zn := by omega
      go_wp2
      go_ret
      exact ⟨by rw [HCK.out]; first | done | rfl, (by repeat (first | (with_reducible exact Gx.refl _) | (with_reducible assumption) | (with_reducible refine Gx.gx ?_) | (with_reducible refine Gx.alloc ?_) | (with_reducible refine Gx.drew ?_) | (with_reducible refine Gx.drewN ?_) | (with_reducible refine Gx.setRow ?_ (by first | omega | (simp; done) | (simp <;> omega))) | (with_reducible refine Gx.setCell ?_ (by first | omega | (simp; done) | (simp <;> omega)))))⟩
theorem checkDial_any (kd : Int) (nm tr : ByteArray) (pl lo hi st : Int) (Z : Option Addr) (zn zc : Nat) (op nn : Int) (lt : Bool) (sz : Int) (z : Nat → Zn) (NB : Nat → Bool) (w : World) (hL : ZnAt w z zn Z) (HB : Hid (∀ k, k < zn → ∀ W, Calls Tryz.prog 25 #[.string (z k).nm] W fun e W' => e = .returned (.bool (NB k)) ∧ ∃ x, W' = gx W x)) :
    Calls Tryz.prog 28 #[inV kd nm tr pl lo hi st Z zn zc op nn lt sz] w fun e w' => e = .returned (.int .i64 (dialE z NB zn lo hi st)) ∧ ∃ x, w' = gx w x := by
  by_cases hg : lo < hi ∧ -1125899906842624 ≤ lo ∧ hi ≤ 1125899906842624 ∧ 1 ≤ st ∧ st ≤ 1000
  · by_cases h3 : 10 < zn
    · have e : dialE z NB zn lo hi st = 3 := by unfold dialE; rw [if_neg (by omega), if_pos h3]
      rw [e]; exact checkDial_8 kd nm tr pl lo hi st Z zn zc op nn lt sz w hg h3
    · have e : dialE z NB zn lo hi st = firstOf (badZ z NB) zn := by unfold dialE; rw [if_neg (by omega), if_neg h3]
      rw [e]; exact checkDial_9 kd nm tr pl lo hi st Z zn zc op nn lt sz z NB w hL HB hg (by omega)
  · have e : dialE z NB zn lo hi st = 9 := by unfold dialE; rw [if_pos (by omega)]
    rw [e]
    by_cases g1 : hi ≤ lo
    · exact checkDial_1 kd nm tr pl lo hi st Z zn zc op nn lt sz w g1
    by_cases g2 : lo < -1125899906842624
    · exact checkDial_2 kd nm tr pl lo hi st Z zn zc op nn lt sz w (by omega)
    by_cases g3 : 1125899906842624 < lo
    · exact checkDial_3 kd nm tr pl lo hi st Z zn zc op nn lt sz w (by omega)
    by_cases g4 : hi < -1125899906842624
    · exact checkDial_4 kd nm tr pl lo hi st Z zn zc op nn lt sz w (by omega)
    by_cases g5 : 1125899906842624 < hi
    · exact checkDial_5 kd nm tr pl lo hi st Z zn zc op nn lt sz w (by omega)
    by_cases g6 : st < 1
    · exact checkDial_6 kd nm tr pl lo hi st Z zn zc op nn lt sz w (by omega)
    · exact checkDial_7 kd nm tr pl lo hi st Z zn zc op nn lt sz w (by omega)
end Go.Proofs.YtocaphcnnmcnjaaGreatDoor

/-
  Dials: the reference's dialFault.
-/
namespace Go.Proofs.YtocaphcnnmcnjaaGreatDoor
open Go.RowKit
-- AT2
-- AT3

set_option maxHeartbeats 2000000 in
set_option maxRecDepth 100000 in
theorem dialFault_1 (kd : Int) (nm tr : ByteArray) (pl lo hi st : Int) (Z : Option Addr) (zn zc : Nat) (op nn : Int) (lt : Bool) (sz : Int) (w : World) (hc : hi ≤ lo) :
    Calls Tryz.prog 33 #[inV kd nm tr pl lo hi st Z zn zc op nn lt sz] w fun e w' => e = .returned (.int .i64 9) ∧ ∃ x, w' = gx w x := by
  have k0 : decide (hi ≤ lo) = true := decide_eq_true hc
  clear hc
  go_enter Tryz.func33, Tryz.ntmps33
  go_wp2_with (first | go_skip)
  go_ret
  exact ⟨rfl, (by repeat (first | (with_reducible exact Gx.refl _) | (with_reducible assumption) | (with_reducible refine Gx.gx ?_) | (with_reducible refine Gx.alloc ?_) | (with_reducible refine Gx.drew ?_) | (with_reducible refine Gx.drewN ?_) | (with_reducible refine Gx.setRow ?_ (by first | omega | (simp; done) | (simp <;> omega))) | (with_reducible refine Gx.setCell ?_ (by first | omega | (simp; done) | (simp <;> omega)))))⟩
set_option maxHeartbeats 2000000 in
set_option maxRecDepth 100000 in
theorem dialFault_2 (kd : Int) (nm tr : ByteArray) (pl lo hi st : Int) (Z : Option Addr) (zn zc : Nat) (op nn : Int) (lt : Bool) (sz : Int) (w : World) (hc : lo < hi ∧ lo < -1125899906842624) :
    Calls Tryz.prog 33 #[inV kd nm tr pl lo hi st Z zn zc op nn lt sz] w fun e w' => e = .returned (.int .i64 9) ∧ ∃ x, w' = gx w x := by
  have G0 := Lib.hid (fun W => outsideP_any lo (-1125899906842624) 1125899906842624 true (.inr (.inl ⟨rfl, by omega⟩)) W)
  have k0 : decide (hi ≤ lo) = false := decide_eq_false (by omega)
  clear hc
  go_enter Tryz.func33, Tryz.ntmps33
  go_wp2_with (first | go_skip | (go_at_call 30; with_reducible refine (G0.out _).mono ?_; rintro e w' ⟨rfl, rfl⟩))
  go_ret
  exact ⟨rfl, (by repeat (first | (with_reducible exact Gx.refl _) | (with_reducible assumption) | (with_reducible refine Gx.gx ?_) | (with_reducible refine Gx.alloc ?_) | (with_reducible refine Gx.drew ?_) | (with_reducible refine Gx.drewN ?_) | (with_reducible refine Gx.setRow ?_ (by first | omega | (simp; done) | (simp <;> omega))) | (with_reducible refine Gx.setCell ?_ (by first | omega | (simp; done) | (simp <;> omega)))))⟩
set_option maxHeartbeats 2000000 in
set_option maxRecDepth 100000 in
theorem dialFault_3 (kd : Int) (nm tr : ByteArray) (pl lo hi st : Int) (Z : Option Addr) (zn zc : Nat) (op nn : Int) (lt : Bool) (sz : Int) (w : World) (hc : lo < hi ∧ 1125899906842624 < lo) :
    Calls Tryz.prog 33 #[inV kd nm tr pl lo hi st Z zn zc op nn lt sz] w fun e w' => e = .returned (.int .i64 9) ∧ ∃ x, w' = gx w x := by
  have G0 := Lib.hid (fun W => outsideP_any lo (-1125899906842624) 1125899906842624 true (.inr (.inr ⟨rfl, by omega, by omega⟩)) W)
  have k0 : decide (hi ≤ lo) = false := decide_eq_false (by omega)
  clear hc
  go_enter Tryz.func33, Tryz.ntmps33
  go_wp2_with (first | go_skip | (go_at_call 30; with_reducible refine (G0.out _).mono ?_; rintro e w' ⟨rfl, rfl⟩))
  go_ret
  exact ⟨rfl, (by repeat (first | (with_reducible exact Gx.refl _) | (with_reducible assumption) | (with_reducible refine Gx.gx ?_) | (with_reducible refine Gx.alloc ?_) | (with_reducible refine Gx.drew ?_) | (with_reducible refine Gx.drewN ?_) | (with_reducible refine Gx.setRow ?_ (by first | omega | (simp; done) | (simp <;> omega))) | (with_reducible refine Gx.setCell ?_ (by first | omega | (simp; done) | (simp <;> omega)))))⟩
set_option maxHeartbeats 2000000 in
set_option maxRecDepth 100000 in
theorem dialFault_4 (kd : Int) (nm tr : ByteArray) (pl lo hi st : Int) (Z : Option Addr) (zn zc : Nat) (op nn : Int) (lt : Bool) (sz : Int) (w : World) (hc : lo < hi ∧ -1125899906842624 ≤ lo ∧ lo ≤ 1125899906842624 ∧ hi < -1125899906842624) :
    Calls Tryz.prog 33 #[inV kd nm tr pl lo hi st Z zn zc op nn lt sz] w fun e w' => e = .returned (.int .i64 9) ∧ ∃ x, w' = gx w x := by
  have G0 := Lib.hid (fun W => outsideP_any lo (-1125899906842624) 1125899906842624 false (.inl ⟨rfl, by omega, by omega⟩) W)
  have G1 := Lib.hid (fun W => outsideP_any hi (-1125899906842624) 1125899906842624 true (.inr (.inl ⟨rfl, by omega⟩)) W)
  have k0 : decide (hi ≤ lo) = false := decide_eq_false (by omega)
  clear hc
  go_enter Tryz.func33, Tryz.ntmps33
  go_wp2_with (first | go_skip | (go_at_call 30; with_reducible refine (G0.out _).mono ?_; rintro e w' ⟨rfl, rfl⟩) | (go_at_call 30; with_reducible refine (G1.out _).mono ?_; rintro e w' ⟨rfl, rfl⟩))
  go_ret
  exact ⟨rfl, (by repeat (first | (with_reducible exact Gx.refl _) | (with_reducible assumption) | (with_reducible refine Gx.gx ?_) | (with_reducible refine Gx.alloc ?_) | (with_reducible refine Gx.drew ?_) | (with_reducible refine Gx.drewN ?_) | (with_reducible refine Gx.setRow ?_ (by first | omega | (simp; done) | (simp <;> omega))) | (with_reducible refine Gx.setCell ?_ (by first | omega | (simp; done) | (simp <;> omega)))))⟩
set_option maxHeartbeats 2000000 in
set_option maxRecDepth 100000 in
theorem dialFault_5 (kd : Int) (nm tr : ByteArray) (pl lo hi st : Int) (Z : Option Addr) (zn zc : Nat) (op nn : Int) (lt : Bool) (sz : Int) (w : World) (hc : lo < hi ∧ -1125899906842624 ≤ lo ∧ lo ≤ 1125899906842624 ∧ 1125899906842624 < hi) :
    Calls Tryz.prog 33 #[inV kd nm tr pl lo hi st Z zn zc op nn lt sz] w fun e w' => e = .returned (.int .i64 9) ∧ ∃ x, w' = gx w x := by
  have G0 := Lib.hid (fun W => outsideP_any lo (-1125899906842624) 1125899906842624 false (.inl ⟨rfl, by omega, by omega⟩) W)
  have G1 := Lib.hid (fun W => outsideP_any hi (-1125899906842624) 1125899906842624 true (.inr (.inr ⟨rfl, by omega, by omega⟩)) W)
  have k0 : decide (hi ≤ lo) = false := decide_eq_false (by omega)
  clear hc
  go_enter Tryz.func33, Tryz.ntmps33
  go_wp2_with (first | go_skip | (go_at_call 30; with_reducible refine (G0.out _).mono ?_; rintro e w' ⟨rfl, rfl⟩) | (go_at_call 30; with_reducible refine (G1.out _).mono ?_; rintro e w' ⟨rfl, rfl⟩))
  go_ret
  exact ⟨rfl, (by repeat (first | (with_reducible exact Gx.refl _) | (with_reducible assumption) | (with_reducible refine Gx.gx ?_) | (with_reducible refine Gx.alloc ?_) | (with_reducible refine Gx.drew ?_) | (with_reducible refine Gx.drewN ?_) | (with_reducible refine Gx.setRow ?_ (by first | omega | (simp; done) | (simp <;> omega))) | (with_reducible refine Gx.setCell ?_ (by first | omega | (simp; done) | (simp <;> omega)))))⟩
set_option maxHeartbeats 2000000 in
set_option maxRecDepth 100000 in
theorem dialFault_6 (kd : Int) (nm tr : ByteArray) (pl lo hi st : Int) (Z : Option Addr) (zn zc : Nat) (op nn : Int) (lt : Bool) (sz : Int) (w : World) (hc : lo < hi ∧ -1125899906842624 ≤ lo ∧ hi ≤ 1125899906842624 ∧ st < 1) :
    Calls Tryz.prog 33 #[inV kd nm tr pl lo hi st Z zn zc op nn lt sz] w fun e w' => e = .returned (.int .i64 9) ∧ ∃ x, w' = gx w x := by
  have G0 := Lib.hid (fun W => outsideP_any lo (-1125899906842624) 1125899906842624 false (.inl ⟨rfl, by omega, by omega⟩) W)
  have G1 := Lib.hid (fun W => outsideP_any hi (-1125899906842624) 1125899906842624 false (.inl ⟨rfl, by omega, by omega⟩) W)
  have G2 := Lib.hid (fun W => outsideP_any st 1 1000 true (.inr (.inl ⟨rfl, by omega⟩)) W)
  have k0 : decide (hi ≤ lo) = false := decide_eq_false (by omega)
  have k1 : decide (st < 1) = true := decide_eq_true (by omega)
  clear hc
  go_enter Tryz.func33, Tryz.ntmps33
  go_wp2_with (first | go_skip | (go_at_call 30; with_reducible refine (G0.out _).mono ?_; rintro e w' ⟨rfl, rfl⟩) | (go_at_call 30; with_reducible refine (G1.out _).mono ?_; rintro e w' ⟨rfl, rfl⟩) | (go_at_call 30; with_reducible refine (G2.out _).mono ?_; rintro e w' ⟨rfl, rfl⟩))
  go_ret
  exact ⟨rfl, (by repeat (first | (with_reducible exact Gx.refl _) | (with_reducible assumption) | (with_reducible refine Gx.gx ?_) | (with_reducible refine Gx.alloc ?_) | (with_reducible refine Gx.drew ?_) | (with_reducible refine Gx.drewN ?_) | (with_reducible refine Gx.setRow ?_ (by first | omega | (simp; done) | (simp <;> omega))) | (with_reducible refine Gx.setCell ?_ (by first | omega | (simp; done) | (simp <;> omega)))))⟩
set_option maxHeartbeats 2000000 in
set_option maxRecDepth 100000 in
theorem dialFault_7 (kd : Int) (nm tr : ByteArray) (pl lo hi st : Int) (Z : Option Addr) (zn zc : Nat) (op nn : Int) (lt : Bool) (sz : Int) (w : World) (hc : lo < hi ∧ -1125899906842624 ≤ lo ∧ hi ≤ 1125899906842624 ∧ 1000 < st) :
    Calls Tryz.prog 33 #[inV kd nm tr pl lo hi st Z zn zc op nn lt sz] w fun e w' => e = .returned (.int .i64 9) ∧ ∃ x, w' = gx w x := by
  have G0 := Lib.hid (fun W => outsideP_any lo (-1125899906842624) 1125899906842624 false (.inl ⟨rfl, by omega, by omega⟩) W)
  have G1 := Lib.hid (fun W => outsideP_any hi (-1125899906842624) 1125899906842624 false (.inl ⟨rfl, by omega, by omega⟩) W)
  have G2 := Lib.hid (fun W => outsideP_any st 1 1000 true (.inr (.inr ⟨rfl, by omega, by omega⟩)) W)
  have k0 : decide (hi ≤ lo) = false := decide_eq_false (by omega)
  have k1 : decide (st < 1) = false := decide_eq_false (by omega)
  have k2 : decide (1000 < st) = true := decide_eq_true (by omega)
  clear hc
  go_enter Tryz.func33, Tryz.ntmps33
  go_wp2_with (first | go_skip | (go_at_call 30; with_reducible refine (G0.out _).mono ?_; rintro e w' ⟨rfl, rfl⟩) | (go_at_call 30; with_reducible refine (G1.out _).mono ?_; rintro e w' ⟨rfl, rfl⟩) | (go_at_call 30; with_reducible refine (G2.out _).mono ?_; rintro e w' ⟨rfl, rfl⟩))
  go_ret
  exact ⟨rfl, (by repeat (first | (with_reducible exact Gx.refl _) | (with_reducible assumption) | (with_reducible refine Gx.gx ?_) | (with_reducible refine Gx.alloc ?_) | (with_reducible refine Gx.drew ?_) | (with_reducible refine Gx.drewN ?_) | (with_reducible refine Gx.setRow ?_ (by first | omega | (simp; done) | (simp <;> omega))) | (with_reducible refine Gx.setCell ?_ (by first | omega | (simp; done) | (simp <;> omega)))))⟩
set_option maxHeartbeats 2000000 in
set_option maxRecDepth 100000 in
theorem dialFault_8 (kd : Int) (nm tr : ByteArray) (pl lo hi st : Int) (Z : Option Addr) (zn zc : Nat) (op nn : Int) (lt : Bool) (sz : Int) (w : World) (hc : lo < hi ∧ -1125899906842624 ≤ lo ∧ hi ≤ 1125899906842624 ∧ 1 ≤ st ∧ st ≤ 1000) (h3 : 10 < zn) :
    Calls Tryz.prog 33 #[inV kd nm tr pl lo hi st Z zn zc op nn lt sz] w fun e w' => e = .returned (.int .i64 3) ∧ ∃ x, w' = gx w x := by
  have G0 := Lib.hid (fun W => outsideP_any lo (-1125899906842624) 1125899906842624 false (.inl ⟨rfl, by omega, by omega⟩) W)
  have G1 := Lib.hid (fun W => outsideP_any hi (-1125899906842624) 1125899906842624 false (.inl ⟨rfl, by omega, by omega⟩) W)
  have G2 := Lib.hid (fun W => outsideP_any st 1 1000 false (.inl ⟨rfl, by omega, by omega⟩) W)
  have k0 : decide (hi ≤ lo) = false := decide_eq_false (by omega)
  have k1 : decide (st < 1) = false := decide_eq_false (by omega)
  have k2 : decide (1000 < st) = false := decide_eq_false (by omega)
  clear hc
  have kz : decide (10 < (zn : Int)) = true := decide_eq_true (by omega)
  clear h3
  go_enter Tryz.func33, Tryz.ntmps33
  go_wp2_with (first | go_skip | (go_at_call 30; with_reducible refine (G0.out _).mono ?_; rintro e w' ⟨rfl, rfl⟩) | (go_at_call 30; with_reducible refine (G1.out _).mono ?_; rintro e w' ⟨rfl, rfl⟩) | (go_at_call 30; with_reducible refine (G2.out _).mono ?_; rintro e w' ⟨rfl, rfl⟩))
  go_ret
  exact ⟨rfl, (by repeat (first | (with_reducible exact Gx.refl _) | (with_reducible assumption) | (with_reducible refine Gx.gx ?_) | (with_reducible refine Gx.alloc ?_) | (with_reducible refine Gx.drew ?_) | (with_reducible refine Gx.drewN ?_) | (with_reducible refine Gx.setRow ?_ (by first | omega | (simp; done) | (simp <;> omega))) | (with_reducible refine Gx.setCell ?_ (by first | omega | (simp; done) | (simp <;> omega)))))⟩
set_option maxHeartbeats 4000000 in
set_option maxRecDepth 100000 in
theorem dialFault_9 (kd : Int) (nm tr : ByteArray) (pl lo hi st : Int) (Z : Option Addr) (zn zc : Nat) (op nn : Int) (lt : Bool) (sz : Int) (z : Nat → Zn) (NB : Nat → Bool) (w : World) (hL : ZnAt w z zn Z) (HB : Hid (∀ k, k < zn → ∀ W, Calls Tryz.prog 31 #[.string (z k).nm] W fun e W' => e = .returned (.bool (NB k)) ∧ ∃ x, W' = gx W x)) (hc : lo < hi ∧ -1125899906842624 ≤ lo ∧ hi ≤ 1125899906842624 ∧ 1 ≤ st ∧ st ≤ 1000) (h3 : zn ≤ 10) :
    Calls Tryz.prog 33 #[inV kd nm tr pl lo hi st Z zn zc op nn lt sz] w fun e w' => e = .returned (.int .i64 (firstOf (badZ z NB) zn)) ∧ ∃ x, w' = gx w x := by
  have G0 := Lib.hid (fun W => outsideP_any lo (-1125899906842624) 1125899906842624 false (.inl ⟨rfl, by omega, by omega⟩) W)
  have G1 := Lib.hid (fun W => outsideP_any hi (-1125899906842624) 1125899906842624 false (.inl ⟨rfl, by omega, by omega⟩) W)
  have G2 := Lib.hid (fun W => outsideP_any st 1 1000 false (.inl ⟨rfl, by omega, by omega⟩) W)
  have k0 : decide (hi ≤ lo) = false := decide_eq_false (by omega)
  have k1 : decide (st < 1) = false := decide_eq_false (by omega)
  have k2 : decide (1000 < st) = false := decide_eq_false (by omega)
  clear hc
  have kz : decide (10 < (zn : Int)) = false := decide_eq_false (by omega)
  go_enter Tryz.func33, Tryz.ntmps33
  go_wp2_with (first | go_skip | (go_at_call 30; with_reducible refine (G0.out _).mono ?_; rintro e w' ⟨rfl, rfl⟩) | (go_at_call 30; with_reducible refine (G1.out _).mono ?_; rintro e w' ⟨rfl, rfl⟩) | (go_at_call 30; with_reducible refine (G2.out _).mono ?_; rintro e w' ⟨rfl, rfl⟩))
  clear k0 k1 k2 kz
  go_loopw [32] (fun i wr => ∃ k : Nat, k ≤ zn ∧ i = .int .i64 k ∧ firstOf (badZ z NB) k = 0 ∧ ∃ x, wr = gx (w.alloc (.cells #[.int .i64 kd, .string nm, .string tr, .int .i64 pl, .int .i64 lo, .int .i64 hi, .int .i64 st, .slice Z zn zc, .int .i64 op, .int .i64 nn, .bool lt, .int .i64 sz] 27)) x) (fun i _ => zn - (intOf i).toNat)
  case atStart => exact ⟨0, Nat.zero_le _, rfl, firstOf_0 _, Gx.refl _⟩
  case round =>
    obtain ⟨k, hk, rfl, hck, y, rfl⟩ := hrel
    have HCK := Lib.hid hck
    clear hck
    by_cases hlt : k < zn
    · obtain ⟨b, o, rfl, hbw, HC⟩ := hL.get (by omega)
      obtain ⟨c1, c2, c3⟩ := HC.out k hlt
      have HBk := Lib.hid (HB.out k hlt)
      cases hb : NB k with
      | false =>
        have HE := Lib.hid (firstOf_bad HCK.out hlt (badZ_8 (z := z) hb) (by decide))
        rw [hb] at HBk
        clear hb
        go_wp2_with (first | (go_at_call 31; refine (HBk.out _).mono ?_; rintro e w' ⟨rfl, x1, rfl⟩))
        go_ret
        exact ⟨by rw [HE.out]; first | done | rfl, (by repeat (first | (with_reducible exact Gx.refl _) | (with_reducible assumption) | (with_reducible refine Gx.gx ?_) | (with_reducible refine Gx.alloc ?_) | (with_reducible refine Gx.drew ?_) | (with_reducible refine Gx.drewN ?_) | (with_reducible refine Gx.setRow ?_ (by first | omega | (simp; done) | (simp <;> omega))) | (with_reducible refine Gx.setCell ?_ (by first | omega | (simp; done) | (simp <;> omega)))))⟩
      | true =>
        rw [hb] at HBk
        by_cases h2 : (z k).to < (z k).fr
        · have HE := Lib.hid (firstOf_bad HCK.out hlt (badZ_9 (z := z) hb h2) (by decide))
          have d2 : decide ((z k).to < (z k).fr) = true := decide_eq_true h2
          clear hb h2
          go_wp2_with (first | (go_at_call 31; refine (HBk.out _).mono ?_; rintro e w' ⟨rfl, x1, rfl⟩))
          go_ret
          exact ⟨by rw [HE.out]; first | done | rfl, (by repeat (first | (with_reducible exact Gx.refl _) | (with_reducible assumption) | (with_reducible refine Gx.gx ?_) | (with_reducible refine Gx.alloc ?_) | (with_reducible refine Gx.drew ?_) | (with_reducible refine Gx.drewN ?_) | (with_reducible refine Gx.setRow ?_ (by first | omega | (simp; done) | (simp <;> omega))) | (with_reducible refine Gx.setCell ?_ (by first | omega | (simp; done) | (simp <;> omega)))))⟩
        · have d2 : decide ((z k).to < (z k).fr) = false := decide_eq_false h2
          rcases Nat.eq_zero_or_pos k with h00 | h00
          · have HE := Lib.hid ((firstOf_succ HCK.out).trans (badZ_0 (z := z) hb h2 (fun h => by omega)))
            have dk : decide (0 < k) = false := decide_eq_false (by omega)
            clear hb h2 h00
            go_wp2_with (first | (go_at_call 31; refine (HBk.out _).mono ?_; rintro e w' ⟨rfl, x1, rfl⟩))
            go_quiet (fail)
            go_wp2
            go_roundw
            case rel => exact ⟨k + 1, by omega, by go_num, HE.out, (by repeat (first | (with_reducible exact Gx.refl _) | (with_reducible assumption) | (with_reducible refine Gx.gx ?_) | (with_reducible refine Gx.alloc ?_) | (with_reducible refine Gx.drew ?_) | (with_reducible refine Gx.drewN ?_) | (with_reducible refine Gx.setRow ?_ (by first | omega | (simp; done) | (simp <;> omega))) | (with_reducible refine Gx.setCell ?_ (by first | omega | (simp; done) | (simp <;> omega)))))⟩
            case measure => simp [intOf]; omega
          · obtain ⟨j, hj⟩ : ∃ j, k = j + 1 := ⟨k - 1, by omega⟩
            obtain ⟨a1, a2, a3⟩ := HC.out j (by omega)
            have hjn : j < zn := by omega
            have ej : k - 1 = j := by omega
            by_cases hr : (z k).fr ≤ (z j).to
            · have dk : decide (0 < k) = true := decide_eq_true (by omega)
              have hs1 : w.heap.size < w.heap.size + 1 + y.n := by omega
              have hb1 : b < w.heap.size + 1 + y.n := by omega
              have HE := Lib.hid (firstOf_bad HCK.out hlt (badZ_10 (z := z) hb h2 ⟨h00, by rw [ej]; exact hr⟩) (by decide))
              have dr : decide ((z k).fr ≤ (z j).to) = true := decide_eq_true hr
              have e1 : IntKind.i64.wrap ((k : Int) - 1) = (j : Int) := by rw [IntWalk.i64_in _ (by omega)]; omega
              clear hb h2 hr ej hj h00
              go_wp2_with (first | (go_at_call 31; refine (HBk.out _).mono ?_; rintro e w' ⟨rfl, x1, rfl⟩))
              have hs2 : w.heap.size < w.heap.size + 1 + y.n + 1 + x1.n := by omega
              have hb2 : b < w.heap.size + 1 + y.n + 1 + x1.n := by omega
              go_quiet (fail)
              go_wp2
              go_ret
              exact ⟨by rw [HE.out]; first | done | rfl, (by repeat (first | (with_reducible exact Gx.refl _) | (with_reducible assumption) | (with_reducible refine Gx.gx ?_) | (with_reducible refine Gx.alloc ?_) | (with_reducible refine Gx.drew ?_) | (with_reducible refine Gx.drewN ?_) | (with_reducible refine Gx.setRow ?_ (by first | omega | (simp; done) | (simp <;> omega))) | (with_reducible refine Gx.setCell ?_ (by first | omega | (simp; done) | (simp <;> omega)))))⟩
            · have dk : decide (0 < k) = true := decide_eq_true (by omega)
              have hs1 : w.heap.size < w.heap.size + 1 + y.n := by omega
              have hb1 : b < w.heap.size + 1 + y.n := by omega
              have HE := Lib.hid ((firstOf_succ HCK.out).trans (badZ_0 (z := z) hb h2 (fun h => hr (by rw [← ej]; exact h.2))))
              have dr : decide ((z k).fr ≤ (z j).to) = false := decide_eq_false hr
              have e1 : IntKind.i64.wrap ((k : Int) - 1) = (j : Int) := by rw [IntWalk.i64_in _ (by omega)]; omega
              clear hb h2 hr ej hj h00
              go_wp2_with (first | (go_at_call 31; refine (HBk.out _).mono ?_; rintro e w' ⟨rfl, x1, rfl⟩))
              have hs2 : w.heap.size < w.heap.size + 1 + y.n + 1 + x1.n := by omega
              have hb2 : b < w.heap.size + 1 + y.n + 1 + x1.n := by omega
              go_quiet (fail)
              go_wp2
              go_roundw
              case rel => exact ⟨k + 1, by omega, by go_num, HE.out, (by repeat (first | (with_reducible exact Gx.refl _) | (with_reducible assumption) | (with_reducible refine Gx.gx ?_) | (with_reducible refine Gx.alloc ?_) | (with_reducible refine Gx.drew ?_) | (with_reducible refine Gx.drewN ?_) | (with_reducible refine Gx.setRow ?_ (by first | omega | (simp; done) | (simp <;> omega))) | (with_reducible refine Gx.setCell ?_ (by first | omega | (simp; done) | (simp <;> omega)))))⟩
              case measure => simp [intOf]; omega
    · obtain rfl : k = zn := by omega
      go_wp2
      go_ret
      exact ⟨by rw [HCK.out]; first | done | rfl, (by repeat (first | (with_reducible exact Gx.refl _) | (with_reducible assumption) | (with_reducible refine Gx.gx ?_) | (with_reducible refine Gx.alloc ?_) | (with_reducible refine Gx.drew ?_) | (with_reducible refine Gx.drewN ?_) | (with_reducible refine Gx.setRow ?_ (by first | omega | (simp; done) | (simp <;> omega))) | (with_reducible refine Gx.setCell ?_ (by first | omega | (simp; done) | (simp <;> omega)))))⟩
theorem dialFault_any (kd : Int) (nm tr : ByteArray) (pl lo hi st : Int) (Z : Option Addr) (zn zc : Nat) (op nn : Int) (lt : Bool) (sz : Int) (z : Nat → Zn) (NB : Nat → Bool) (w : World) (hL : ZnAt w z zn Z) (HB : Hid (∀ k, k < zn → ∀ W, Calls Tryz.prog 31 #[.string (z k).nm] W fun e W' => e = .returned (.bool (NB k)) ∧ ∃ x, W' = gx W x)) :
    Calls Tryz.prog 33 #[inV kd nm tr pl lo hi st Z zn zc op nn lt sz] w fun e w' => e = .returned (.int .i64 (dialE z NB zn lo hi st)) ∧ ∃ x, w' = gx w x := by
  by_cases hg : lo < hi ∧ -1125899906842624 ≤ lo ∧ hi ≤ 1125899906842624 ∧ 1 ≤ st ∧ st ≤ 1000
  · by_cases h3 : 10 < zn
    · have e : dialE z NB zn lo hi st = 3 := by unfold dialE; rw [if_neg (by omega), if_pos h3]
      rw [e]; exact dialFault_8 kd nm tr pl lo hi st Z zn zc op nn lt sz w hg h3
    · have e : dialE z NB zn lo hi st = firstOf (badZ z NB) zn := by unfold dialE; rw [if_neg (by omega), if_neg h3]
      rw [e]; exact dialFault_9 kd nm tr pl lo hi st Z zn zc op nn lt sz z NB w hL HB hg (by omega)
  · have e : dialE z NB zn lo hi st = 9 := by unfold dialE; rw [if_pos (by omega)]
    rw [e]
    by_cases g1 : hi ≤ lo
    · exact dialFault_1 kd nm tr pl lo hi st Z zn zc op nn lt sz w g1
    by_cases g2 : lo < -1125899906842624
    · exact dialFault_2 kd nm tr pl lo hi st Z zn zc op nn lt sz w (by omega)
    by_cases g3 : 1125899906842624 < lo
    · exact dialFault_3 kd nm tr pl lo hi st Z zn zc op nn lt sz w (by omega)
    by_cases g4 : hi < -1125899906842624
    · exact dialFault_4 kd nm tr pl lo hi st Z zn zc op nn lt sz w (by omega)
    by_cases g5 : 1125899906842624 < hi
    · exact dialFault_5 kd nm tr pl lo hi st Z zn zc op nn lt sz w (by omega)
    by_cases g6 : st < 1
    · exact dialFault_6 kd nm tr pl lo hi st Z zn zc op nn lt sz w (by omega)
    · exact dialFault_7 kd nm tr pl lo hi st Z zn zc op nn lt sz w (by omega)
end Go.Proofs.YtocaphcnnmcnjaaGreatDoor
