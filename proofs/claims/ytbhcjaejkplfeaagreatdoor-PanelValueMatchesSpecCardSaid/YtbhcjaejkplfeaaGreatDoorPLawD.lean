/-
  PanelDigitsMatchSpec: the law's walk.
-/
import Derived.Test.YtbhcjaejkplfeaaGreatDoorPHol
import Derived.Test.YtbhcjaejkplfeaaGreatDoorPShow
namespace Go.Proofs.YtbhcjaejkplfeaaGreatDoor
open Go.RowKit
-- AT2
-- AT3

theorem pNumber_any (n : Int) (b : Bool) (hb : (b = true ∧ -1125899906842624 ≤ n ∧ n ≤ 1125899906842624) ∨ (b = false ∧ n < -1125899906842624) ∨ (b = false ∧ 1125899906842624 < n)) (w : World) : Calls Tryz.prog 51 #[.int .i64 n] w fun e w' => e = .returned (.bool b) ∧ w = w' := by
  rcases hb with ⟨rfl, h1, h2⟩ | ⟨rfl, h1⟩ | ⟨rfl, h1⟩
  · have k1 : decide (-1125899906842624 ≤ n) = true := decide_eq_true h1
    have k2 : decide (n ≤ 1125899906842624) = true := decide_eq_true h2
    clear h1 h2
    go_enter Tryz.func51, Tryz.ntmps51
    go_wp2_with go_skip
    go_ret
    exact ⟨rfl, rfl⟩
  · have k1 : decide (-1125899906842624 ≤ n) = false := decide_eq_false (by omega)
    clear h1
    go_enter Tryz.func51, Tryz.ntmps51
    go_wp2_with go_skip
    go_ret
    exact ⟨rfl, rfl⟩
  · have k1 : decide (-1125899906842624 ≤ n) = true := decide_eq_true (by omega)
    have k2 : decide (n ≤ 1125899906842624) = false := decide_eq_false (by omega)
    clear h1
    go_enter Tryz.func51, Tryz.ntmps51
    go_wp2_with go_skip
    go_ret
    exact ⟨rfl, rfl⟩
theorem outsideP_any (n lo hi : Int) (b : Bool) (hb : (b = false ∧ lo ≤ n ∧ n ≤ hi) ∨ (b = true ∧ n < lo) ∨ (b = true ∧ lo ≤ n ∧ hi < n)) (w : World) : Calls Tryz.prog 30 #[.int .i64 n, .int .i64 lo, .int .i64 hi] w fun e w' => e = .returned (.bool b) ∧ w = w' := by
  rcases hb with ⟨rfl, h1, h2⟩ | ⟨rfl, h1⟩ | ⟨rfl, h1, h2⟩
  · have k1 : decide (n < lo) = false := decide_eq_false (by omega)
    have k2 : decide (hi < n) = false := decide_eq_false (by omega)
    clear h1 h2
    go_enter Tryz.func30, Tryz.ntmps30
    go_wp2_with go_skip
    go_ret
    exact ⟨rfl, rfl⟩
  · have k1 : decide (n < lo) = true := decide_eq_true h1
    clear h1
    go_enter Tryz.func30, Tryz.ntmps30
    go_wp2_with go_skip
    go_ret
    exact ⟨rfl, rfl⟩
  · have k1 : decide (n < lo) = false := decide_eq_false (by omega)
    have k2 : decide (hi < n) = true := decide_eq_true h2
    clear h1 h2
    go_enter Tryz.func30, Tryz.ntmps30
    go_wp2_with go_skip
    go_ret
    exact ⟨rfl, rfl⟩
theorem isOp_any (op : Int) (b : Bool) (hb : (b = true ∧ 1 ≤ op ∧ op ≤ 6) ∨ (b = false ∧ op < 1) ∨ (b = false ∧ 6 < op)) (w : World) : Calls Tryz.prog 54 #[.int .i64 op] w fun e w' => e = .returned (.bool b) ∧ w = w' := by
  rcases hb with ⟨rfl, h1, h2⟩ | ⟨rfl, h1⟩ | ⟨rfl, h1⟩
  · have k1 : decide (1 ≤ op) = true := decide_eq_true h1
    have k2 : decide (op ≤ 6) = true := decide_eq_true h2
    clear h1 h2
    go_enter Tryz.func54, Tryz.ntmps54
    go_wp2_with go_skip
    go_ret
    exact ⟨rfl, rfl⟩
  · have k1 : decide (1 ≤ op) = false := decide_eq_false (by omega)
    clear h1
    go_enter Tryz.func54, Tryz.ntmps54
    go_wp2_with go_skip
    go_ret
    exact ⟨rfl, rfl⟩
  · have k1 : decide (1 ≤ op) = true := decide_eq_true (by omega)
    have k2 : decide (op ≤ 6) = false := decide_eq_false (by omega)
    clear h1
    go_enter Tryz.func54, Tryz.ntmps54
    go_wp2_with go_skip
    go_ret
    exact ⟨rfl, rfl⟩
/-- Holds of both sides. -/
theorem Holds_both (op a b : Int) : ∃ (B : Bool) (E : Int), (∀ W, Calls Tryz.prog 23 #[.int .i64 op, .int .i64 a, .int .i64 b] W fun e w' => e = .returned (.tuple #[.bool B, .int .i64 E]) ∧ W = w') ∧ (∀ W, Calls Tryz.prog 24 #[.int .i64 op, .int .i64 a, .int .i64 b] W fun e w' => e = .returned (.tuple #[.bool B, .int .i64 E]) ∧ W = w') := by
  obtain ⟨c, hc⟩ : ∃ c : Int, (a < b ∧ c = -1) ∨ (b < a ∧ c = 1) ∨ (a = b ∧ c = 0) := by
    rcases Int.lt_trichotomy a b with h | h | h
    · exact ⟨-1, .inl ⟨h, rfl⟩⟩
    · exact ⟨0, .inr (.inr ⟨h, rfl⟩)⟩
    · exact ⟨1, .inr (.inl ⟨h, rfl⟩)⟩
  by_cases ho : 1 ≤ op ∧ op ≤ 6
  · refine ⟨opB op c, 0, fun W => ?_, fun W => ?_⟩
    · have H1 := Lib.hid (fun W => isOp_any op true (.inl ⟨rfl, ho.1, ho.2⟩) W)
      have H2 := Lib.hid (fun W => holds_any' op a b c ho hc W)
      clear ho hc
      go_enter Tryz.func23, Tryz.ntmps23
      go_wp2_with (first | (go_at_call 54; refine (H1.out _).mono ?_; rintro e w' ⟨rfl, rfl⟩) | (go_at_call 55; refine (H2.out _).mono ?_; rintro e w' ⟨rfl, rfl⟩))
      exact bodyPost_ret (v := .tuple #[.bool (opB op c), .int .i64 0]) (by simp [results, Tryz.results23, go_sem]) rfl ⟨rfl, rfl⟩
    · have H1 := Lib.hid (fun W => outsideP_any op 1 6 false (.inl ⟨rfl, ho.1, ho.2⟩) W)
      have H2 := Lib.hid (fun W => rholds_any op a b c ho hc W)
      clear ho hc
      go_enter Tryz.func24, Tryz.ntmps24
      go_wp2_with (first | (go_at_call 30; refine (H1.out _).mono ?_; rintro e w' ⟨rfl, rfl⟩) | (go_at_call 56; refine (H2.out _).mono ?_; rintro e w' ⟨rfl, rfl⟩))
      exact bodyPost_ret (v := .tuple #[.bool (opB op c), .int .i64 0]) (by simp [results, Tryz.results24, go_sem]) rfl ⟨rfl, rfl⟩
  · refine ⟨false, 7, fun W => ?_, fun W => ?_⟩
    · have H1 := Lib.hid (fun W => isOp_any op false ((by omega : op < 1 ∨ 6 < op).elim (fun h => .inr (.inl ⟨rfl, h⟩)) (fun h => .inr (.inr ⟨rfl, h⟩))) W)
      clear ho hc
      go_enter Tryz.func23, Tryz.ntmps23
      go_wp2_with (first | (go_at_call 54; refine (H1.out _).mono ?_; rintro e w' ⟨rfl, rfl⟩))
      exact bodyPost_ret (v := .tuple #[.bool false, .int .i64 7]) (by simp [results, Tryz.results23, go_sem]) rfl ⟨rfl, rfl⟩
    · have H1 := Lib.hid (fun W => outsideP_any op 1 6 true ((by omega : op < 1 ∨ (1 ≤ op ∧ 6 < op)).elim (fun h => .inr (.inl ⟨rfl, h⟩)) (fun h => .inr (.inr ⟨rfl, h.1, h.2⟩))) W)
      clear ho hc
      go_enter Tryz.func24, Tryz.ntmps24
      go_wp2_with (first | (go_at_call 30; refine (H1.out _).mono ?_; rintro e w' ⟨rfl, rfl⟩))
      exact bodyPost_ret (v := .tuple #[.bool false, .int .i64 7]) (by simp [results, Tryz.results24, go_sem]) rfl ⟨rfl, rfl⟩
/-- Digits of both sides. -/
theorem Digits_both (n den pl : Int) : ∃ (R : ByteArray) (E : Int), (∀ W, Pow W → Calls Tryz.prog 21 #[.int .i64 n, .int .i64 den, .int .i64 pl] W fun e w' => e = .returned (.tuple #[.string R, .int .i64 E]) ∧ ∃ x, w' = gx W x) ∧ (∀ W, Pow W → Calls Tryz.prog 22 #[.int .i64 n, .int .i64 den, .int .i64 pl] W fun e w' => e = .returned (.tuple #[.string R, .int .i64 E]) ∧ ∃ x, w' = gx W x) := by
  have hw : ((-1125899906842624 ≤ n ∧ n ≤ 1125899906842624) ∧ (1 ≤ den ∧ den ≤ 1000000) ∧ 0 ≤ pl ∧ pl ≤ 6) ∨ (n < -1125899906842624) ∨ (1125899906842624 < n) ∨ ((-1125899906842624 ≤ n ∧ n ≤ 1125899906842624) ∧ den < 1) ∨ ((-1125899906842624 ≤ n ∧ n ≤ 1125899906842624) ∧ 1 ≤ den ∧ 1000000 < den) ∨ ((-1125899906842624 ≤ n ∧ n ≤ 1125899906842624) ∧ (1 ≤ den ∧ den ≤ 1000000) ∧ pl < 0) ∨ ((-1125899906842624 ≤ n ∧ n ≤ 1125899906842624) ∧ (1 ≤ den ∧ den ≤ 1000000) ∧ 0 ≤ pl ∧ 6 < pl) := by omega
  rcases hw with ⟨hn, hd, h0, h6⟩ | h | h | ⟨hn, h⟩ | ⟨hn, h, h'⟩ | ⟨hn, hd, h⟩ | ⟨hn, hd, h, h'⟩
  · obtain ⟨p, rfl⟩ : ∃ p : Nat, pl = (p : Int) := ⟨pl.toNat, by omega⟩
    obtain ⟨R, D1, D2⟩ := digits_both n den p hn hd (by omega)
    refine ⟨R, 0, fun W hP => ?_, fun W hP => ?_⟩
    · have H1 := Lib.hid (fun W => pNumber_any n true (.inl ⟨rfl, hn.1, hn.2⟩) W)
      have H2 := Lib.hid (D1 W hP)
      have k1 : decide (den < 1) = false := decide_eq_false (by omega)
      have k2 : decide (1000000 < den) = false := decide_eq_false (by omega)
      have k3 : decide ((p : Int) < 0) = false := decide_eq_false (by omega)
      have k4 : decide (6 < (p : Int)) = false := decide_eq_false (by omega)
      have k5 : decide (6 < p) = false := decide_eq_false (by omega)
      clear hn hd h0 h6 D1 D2
      go_enter Tryz.func21, Tryz.ntmps21
      go_wp2_with (first | go_skip | (go_at_call 51; refine (H1.out _).mono ?_; rintro e w' ⟨rfl, rfl⟩) | (go_at_call 52; refine H2.out.mono ?_; rintro e w' ⟨rfl, x1, rfl⟩))
      exact bodyPost_ret (v := .tuple #[.string R, .int .i64 0]) (by simp [results, Tryz.results21, go_sem]) rfl ⟨rfl, (by repeat (first | (with_reducible exact Gx.refl _) | (with_reducible assumption) | (with_reducible refine Gx.gx ?_) | (with_reducible refine Gx.alloc ?_) | (with_reducible refine Gx.drew ?_) | (with_reducible refine Gx.drewN ?_) | (with_reducible refine Gx.setRow ?_ (by first | omega | (simp; done) | (simp <;> omega))) | (with_reducible refine Gx.setCell ?_ (by first | omega | (simp; done) | (simp <;> omega)))))⟩
    · have H1 := Lib.hid (fun W => outsideP_any n (-1125899906842624) 1125899906842624 false (.inl ⟨rfl, hn.1, hn.2⟩) W)
      have H2 := Lib.hid (fun W => outsideP_any den 1 1000000 false (.inl ⟨rfl, hd.1, hd.2⟩) W)
      have H3 := Lib.hid (fun W => outsideP_any (p : Int) 0 6 false (.inl ⟨rfl, h0, h6⟩) W)
      have H4 := Lib.hid (D2 W hP)
      clear hn hd h0 h6 D1 D2
      go_enter Tryz.func22, Tryz.ntmps22
      go_wp2_with (first | go_skip | (go_at_call 30; with_reducible refine (H1.out _).mono ?_; rintro e w' ⟨rfl, rfl⟩) | (go_at_call 30; with_reducible refine (H2.out _).mono ?_; rintro e w' ⟨rfl, rfl⟩) | (go_at_call 30; with_reducible refine (H3.out _).mono ?_; rintro e w' ⟨rfl, rfl⟩) | (go_at_call 53; refine H4.out.mono ?_; rintro e w' ⟨rfl, x1, rfl⟩))
      exact bodyPost_ret (v := .tuple #[.string R, .int .i64 0]) (by simp [results, Tryz.results22, go_sem]) rfl ⟨rfl, (by repeat (first | (with_reducible exact Gx.refl _) | (with_reducible assumption) | (with_reducible refine Gx.gx ?_) | (with_reducible refine Gx.alloc ?_) | (with_reducible refine Gx.drew ?_) | (with_reducible refine Gx.drewN ?_) | (with_reducible refine Gx.setRow ?_ (by first | omega | (simp; done) | (simp <;> omega))) | (with_reducible refine Gx.setCell ?_ (by first | omega | (simp; done) | (simp <;> omega)))))⟩
  · refine ⟨⟨#[]⟩, 9, fun W _ => ?_, fun W _ => ?_⟩
    · have H1 := Lib.hid (fun W => pNumber_any n false (.inr (.inl ⟨rfl, h⟩)) W)
      clear h
      go_enter Tryz.func21, Tryz.ntmps21
      go_wp2_with (first | go_skip | (go_at_call 51; refine (H1.out _).mono ?_; rintro e w' ⟨rfl, rfl⟩))
      exact bodyPost_ret (v := .tuple #[.string ⟨#[]⟩, .int .i64 9]) (by simp [results, Tryz.results21, go_sem]) rfl ⟨rfl, (by repeat (first | (with_reducible exact Gx.refl _) | (with_reducible assumption) | (with_reducible refine Gx.gx ?_) | (with_reducible refine Gx.alloc ?_) | (with_reducible refine Gx.drew ?_) | (with_reducible refine Gx.drewN ?_) | (with_reducible refine Gx.setRow ?_ (by first | omega | (simp; done) | (simp <;> omega))) | (with_reducible refine Gx.setCell ?_ (by first | omega | (simp; done) | (simp <;> omega)))))⟩
    · have H0 := Lib.hid (fun W => outsideP_any n (-1125899906842624) 1125899906842624 true (.inr (.inl ⟨rfl, h⟩)) W)
      clear h
      go_enter Tryz.func22, Tryz.ntmps22
      go_wp2_with (first | go_skip | (go_at_call 30; with_reducible refine (H0.out _).mono ?_; rintro e w' ⟨rfl, rfl⟩))
      exact bodyPost_ret (v := .tuple #[.string ⟨#[]⟩, .int .i64 9]) (by simp [results, Tryz.results22, go_sem]) rfl ⟨rfl, (by repeat (first | (with_reducible exact Gx.refl _) | (with_reducible assumption) | (with_reducible refine Gx.gx ?_) | (with_reducible refine Gx.alloc ?_) | (with_reducible refine Gx.drew ?_) | (with_reducible refine Gx.drewN ?_) | (with_reducible refine Gx.setRow ?_ (by first | omega | (simp; done) | (simp <;> omega))) | (with_reducible refine Gx.setCell ?_ (by first | omega | (simp; done) | (simp <;> omega)))))⟩
  · refine ⟨⟨#[]⟩, 9, fun W _ => ?_, fun W _ => ?_⟩
    · have H1 := Lib.hid (fun W => pNumber_any n false (.inr (.inr ⟨rfl, h⟩)) W)
      clear h
      go_enter Tryz.func21, Tryz.ntmps21
      go_wp2_with (first | go_skip | (go_at_call 51; refine (H1.out _).mono ?_; rintro e w' ⟨rfl, rfl⟩))
      exact bodyPost_ret (v := .tuple #[.string ⟨#[]⟩, .int .i64 9]) (by simp [results, Tryz.results21, go_sem]) rfl ⟨rfl, (by repeat (first | (with_reducible exact Gx.refl _) | (with_reducible assumption) | (with_reducible refine Gx.gx ?_) | (with_reducible refine Gx.alloc ?_) | (with_reducible refine Gx.drew ?_) | (with_reducible refine Gx.drewN ?_) | (with_reducible refine Gx.setRow ?_ (by first | omega | (simp; done) | (simp <;> omega))) | (with_reducible refine Gx.setCell ?_ (by first | omega | (simp; done) | (simp <;> omega)))))⟩
    · have H0 := Lib.hid (fun W => outsideP_any n (-1125899906842624) 1125899906842624 true (.inr (.inr ⟨rfl, by omega, h⟩)) W)
      clear h
      go_enter Tryz.func22, Tryz.ntmps22
      go_wp2_with (first | go_skip | (go_at_call 30; with_reducible refine (H0.out _).mono ?_; rintro e w' ⟨rfl, rfl⟩))
      exact bodyPost_ret (v := .tuple #[.string ⟨#[]⟩, .int .i64 9]) (by simp [results, Tryz.results22, go_sem]) rfl ⟨rfl, (by repeat (first | (with_reducible exact Gx.refl _) | (with_reducible assumption) | (with_reducible refine Gx.gx ?_) | (with_reducible refine Gx.alloc ?_) | (with_reducible refine Gx.drew ?_) | (with_reducible refine Gx.drewN ?_) | (with_reducible refine Gx.setRow ?_ (by first | omega | (simp; done) | (simp <;> omega))) | (with_reducible refine Gx.setCell ?_ (by first | omega | (simp; done) | (simp <;> omega)))))⟩
  · refine ⟨⟨#[]⟩, 9, fun W _ => ?_, fun W _ => ?_⟩
    · have H1 := Lib.hid (fun W => pNumber_any n true (.inl ⟨rfl, hn.1, hn.2⟩) W)
      have k0 : decide (den < 1) = true := decide_eq_true h
      clear hn h
      go_enter Tryz.func21, Tryz.ntmps21
      go_wp2_with (first | go_skip | (go_at_call 51; refine (H1.out _).mono ?_; rintro e w' ⟨rfl, rfl⟩))
      exact bodyPost_ret (v := .tuple #[.string ⟨#[]⟩, .int .i64 9]) (by simp [results, Tryz.results21, go_sem]) rfl ⟨rfl, (by repeat (first | (with_reducible exact Gx.refl _) | (with_reducible assumption) | (with_reducible refine Gx.gx ?_) | (with_reducible refine Gx.alloc ?_) | (with_reducible refine Gx.drew ?_) | (with_reducible refine Gx.drewN ?_) | (with_reducible refine Gx.setRow ?_ (by first | omega | (simp; done) | (simp <;> omega))) | (with_reducible refine Gx.setCell ?_ (by first | omega | (simp; done) | (simp <;> omega)))))⟩
    · have H0 := Lib.hid (fun W => outsideP_any n (-1125899906842624) 1125899906842624 false (.inl ⟨rfl, hn.1, hn.2⟩) W)
      have H1 := Lib.hid (fun W => outsideP_any den 1 1000000 true (.inr (.inl ⟨rfl, h⟩)) W)
      clear hn h
      go_enter Tryz.func22, Tryz.ntmps22
      go_wp2_with (first | go_skip | (go_at_call 30; with_reducible refine (H0.out _).mono ?_; rintro e w' ⟨rfl, rfl⟩) | (go_at_call 30; with_reducible refine (H1.out _).mono ?_; rintro e w' ⟨rfl, rfl⟩))
      exact bodyPost_ret (v := .tuple #[.string ⟨#[]⟩, .int .i64 9]) (by simp [results, Tryz.results22, go_sem]) rfl ⟨rfl, (by repeat (first | (with_reducible exact Gx.refl _) | (with_reducible assumption) | (with_reducible refine Gx.gx ?_) | (with_reducible refine Gx.alloc ?_) | (with_reducible refine Gx.drew ?_) | (with_reducible refine Gx.drewN ?_) | (with_reducible refine Gx.setRow ?_ (by first | omega | (simp; done) | (simp <;> omega))) | (with_reducible refine Gx.setCell ?_ (by first | omega | (simp; done) | (simp <;> omega)))))⟩
  · refine ⟨⟨#[]⟩, 9, fun W _ => ?_, fun W _ => ?_⟩
    · have H1 := Lib.hid (fun W => pNumber_any n true (.inl ⟨rfl, hn.1, hn.2⟩) W)
      have k0 : decide (den < 1) = false := decide_eq_false (by omega)
      have k1 : decide (1000000 < den) = true := decide_eq_true h'
      clear hn h h'
      go_enter Tryz.func21, Tryz.ntmps21
      go_wp2_with (first | go_skip | (go_at_call 51; refine (H1.out _).mono ?_; rintro e w' ⟨rfl, rfl⟩))
      exact bodyPost_ret (v := .tuple #[.string ⟨#[]⟩, .int .i64 9]) (by simp [results, Tryz.results21, go_sem]) rfl ⟨rfl, (by repeat (first | (with_reducible exact Gx.refl _) | (with_reducible assumption) | (with_reducible refine Gx.gx ?_) | (with_reducible refine Gx.alloc ?_) | (with_reducible refine Gx.drew ?_) | (with_reducible refine Gx.drewN ?_) | (with_reducible refine Gx.setRow ?_ (by first | omega | (simp; done) | (simp <;> omega))) | (with_reducible refine Gx.setCell ?_ (by first | omega | (simp; done) | (simp <;> omega)))))⟩
    · have H0 := Lib.hid (fun W => outsideP_any n (-1125899906842624) 1125899906842624 false (.inl ⟨rfl, hn.1, hn.2⟩) W)
      have H1 := Lib.hid (fun W => outsideP_any den 1 1000000 true (.inr (.inr ⟨rfl, h, h'⟩)) W)
      clear hn h h'
      go_enter Tryz.func22, Tryz.ntmps22
      go_wp2_with (first | go_skip | (go_at_call 30; with_reducible refine (H0.out _).mono ?_; rintro e w' ⟨rfl, rfl⟩) | (go_at_call 30; with_reducible refine (H1.out _).mono ?_; rintro e w' ⟨rfl, rfl⟩))
      exact bodyPost_ret (v := .tuple #[.string ⟨#[]⟩, .int .i64 9]) (by simp [results, Tryz.results22, go_sem]) rfl ⟨rfl, (by repeat (first | (with_reducible exact Gx.refl _) | (with_reducible assumption) | (with_reducible refine Gx.gx ?_) | (with_reducible refine Gx.alloc ?_) | (with_reducible refine Gx.drew ?_) | (with_reducible refine Gx.drewN ?_) | (with_reducible refine Gx.setRow ?_ (by first | omega | (simp; done) | (simp <;> omega))) | (with_reducible refine Gx.setCell ?_ (by first | omega | (simp; done) | (simp <;> omega)))))⟩
  · refine ⟨⟨#[]⟩, 9, fun W _ => ?_, fun W _ => ?_⟩
    · have H1 := Lib.hid (fun W => pNumber_any n true (.inl ⟨rfl, hn.1, hn.2⟩) W)
      have k0 : decide (den < 1) = false := decide_eq_false (by omega)
      have k1 : decide (1000000 < den) = false := decide_eq_false (by omega)
      have k2 : decide (pl < 0) = true := decide_eq_true h
      clear hn hd h
      go_enter Tryz.func21, Tryz.ntmps21
      go_wp2_with (first | go_skip | (go_at_call 51; refine (H1.out _).mono ?_; rintro e w' ⟨rfl, rfl⟩))
      exact bodyPost_ret (v := .tuple #[.string ⟨#[]⟩, .int .i64 9]) (by simp [results, Tryz.results21, go_sem]) rfl ⟨rfl, (by repeat (first | (with_reducible exact Gx.refl _) | (with_reducible assumption) | (with_reducible refine Gx.gx ?_) | (with_reducible refine Gx.alloc ?_) | (with_reducible refine Gx.drew ?_) | (with_reducible refine Gx.drewN ?_) | (with_reducible refine Gx.setRow ?_ (by first | omega | (simp; done) | (simp <;> omega))) | (with_reducible refine Gx.setCell ?_ (by first | omega | (simp; done) | (simp <;> omega)))))⟩
    · have H0 := Lib.hid (fun W => outsideP_any n (-1125899906842624) 1125899906842624 false (.inl ⟨rfl, hn.1, hn.2⟩) W)
      have H1 := Lib.hid (fun W => outsideP_any den 1 1000000 false (.inl ⟨rfl, hd.1, hd.2⟩) W)
      have H2 := Lib.hid (fun W => outsideP_any pl 0 6 true (.inr (.inl ⟨rfl, h⟩)) W)
      clear hn hd h
      go_enter Tryz.func22, Tryz.ntmps22
      go_wp2_with (first | go_skip | (go_at_call 30; with_reducible refine (H0.out _).mono ?_; rintro e w' ⟨rfl, rfl⟩) | (go_at_call 30; with_reducible refine (H1.out _).mono ?_; rintro e w' ⟨rfl, rfl⟩) | (go_at_call 30; with_reducible refine (H2.out _).mono ?_; rintro e w' ⟨rfl, rfl⟩))
      exact bodyPost_ret (v := .tuple #[.string ⟨#[]⟩, .int .i64 9]) (by simp [results, Tryz.results22, go_sem]) rfl ⟨rfl, (by repeat (first | (with_reducible exact Gx.refl _) | (with_reducible assumption) | (with_reducible refine Gx.gx ?_) | (with_reducible refine Gx.alloc ?_) | (with_reducible refine Gx.drew ?_) | (with_reducible refine Gx.drewN ?_) | (with_reducible refine Gx.setRow ?_ (by first | omega | (simp; done) | (simp <;> omega))) | (with_reducible refine Gx.setCell ?_ (by first | omega | (simp; done) | (simp <;> omega)))))⟩
  · refine ⟨⟨#[]⟩, 9, fun W _ => ?_, fun W _ => ?_⟩
    · have H1 := Lib.hid (fun W => pNumber_any n true (.inl ⟨rfl, hn.1, hn.2⟩) W)
      have k0 : decide (den < 1) = false := decide_eq_false (by omega)
      have k1 : decide (1000000 < den) = false := decide_eq_false (by omega)
      have k2 : decide (pl < 0) = false := decide_eq_false (by omega)
      have k3 : decide (6 < pl) = true := decide_eq_true h'
      clear hn hd h h'
      go_enter Tryz.func21, Tryz.ntmps21
      go_wp2_with (first | go_skip | (go_at_call 51; refine (H1.out _).mono ?_; rintro e w' ⟨rfl, rfl⟩))
      exact bodyPost_ret (v := .tuple #[.string ⟨#[]⟩, .int .i64 9]) (by simp [results, Tryz.results21, go_sem]) rfl ⟨rfl, (by repeat (first | (with_reducible exact Gx.refl _) | (with_reducible assumption) | (with_reducible refine Gx.gx ?_) | (with_reducible refine Gx.alloc ?_) | (with_reducible refine Gx.drew ?_) | (with_reducible refine Gx.drewN ?_) | (with_reducible refine Gx.setRow ?_ (by first | omega | (simp; done) | (simp <;> omega))) | (with_reducible refine Gx.setCell ?_ (by first | omega | (simp; done) | (simp <;> omega)))))⟩
    · have H0 := Lib.hid (fun W => outsideP_any n (-1125899906842624) 1125899906842624 false (.inl ⟨rfl, hn.1, hn.2⟩) W)
      have H1 := Lib.hid (fun W => outsideP_any den 1 1000000 false (.inl ⟨rfl, hd.1, hd.2⟩) W)
      have H2 := Lib.hid (fun W => outsideP_any pl 0 6 true (.inr (.inr ⟨rfl, h, h'⟩)) W)
      clear hn hd h h'
      go_enter Tryz.func22, Tryz.ntmps22
      go_wp2_with (first | go_skip | (go_at_call 30; with_reducible refine (H0.out _).mono ?_; rintro e w' ⟨rfl, rfl⟩) | (go_at_call 30; with_reducible refine (H1.out _).mono ?_; rintro e w' ⟨rfl, rfl⟩) | (go_at_call 30; with_reducible refine (H2.out _).mono ?_; rintro e w' ⟨rfl, rfl⟩))
      exact bodyPost_ret (v := .tuple #[.string ⟨#[]⟩, .int .i64 9]) (by simp [results, Tryz.results22, go_sem]) rfl ⟨rfl, (by repeat (first | (with_reducible exact Gx.refl _) | (with_reducible assumption) | (with_reducible refine Gx.gx ?_) | (with_reducible refine Gx.alloc ?_) | (with_reducible refine Gx.drew ?_) | (with_reducible refine Gx.drewN ?_) | (with_reducible refine Gx.setRow ?_ (by first | omega | (simp; done) | (simp <;> omega))) | (with_reducible refine Gx.setCell ?_ (by first | omega | (simp; done) | (simp <;> omega)))))⟩
end Go.Proofs.YtbhcjaejkplfeaaGreatDoor
