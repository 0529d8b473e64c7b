/-
  Spikes, the program's: contracts.
-/
import Derived.Test.YtjlokobgdkkppaaDoorSIAt
import Derived.Test.YtjlokobgdkkppaaDoorSSpkP
import Derived.Laws.Cover3
namespace Go.Proofs.YtjlokobgdkkppaaDoor
open Go.RowKit
-- AT2
-- AT3

def in50 (n : Int) : Prop := -1125899906842624 ≤ n ∧ n ≤ 1125899906842624
theorem szE (n : Int) : sz n = max n (-n) := by rcases sz_cases n with ⟨h1, h2⟩ | ⟨h1, h2⟩ <;> omega
set_option maxHeartbeats 2000000 in
set_option maxRecDepth 100000 in
theorem isSpike_any (a b c most : Int) (gS o : Nat) (w : World) (ha : in50 a) (hb : in50 b) (hc : in50 c)
    (x1 : w.cell? ⟨gS, o + 1, none⟩ = some (.int .i64 a)) (x2 : w.cell? ⟨gS, o + 4 + 1, none⟩ = some (.int .i64 b)) (x3 : w.cell? ⟨gS, o + 8 + 1, none⟩ = some (.int .i64 c)) :
    Calls Tryd.prog 60 #[.pointer (some ⟨gS, o, none⟩), .int .i64 most] w fun e w' => e = .returned (.bool (decide (spkP a b c most))) ∧ ∃ x, w' = gx w x := by
  have hgS : gS < w.heap.size := World.block_lt_of_cell? w _ x1
  unfold in50 at ha hb hc
  have w1 : IntKind.i64.wrap (b - a) = b - a := IntWalk.i64_in _ (by omega)
  have w2 : IntKind.i64.wrap (b - c) = b - c := IntWalk.i64_in _ (by omega)
  have w3 : IntKind.i64.wrap (b - a - (b - c)) = b - a - (b - c) := IntWalk.i64_in _ (by omega)
  have s1 := Lib.hid (fun W => size_any (b - a) W (by omega) (by omega))
  have s2 := Lib.hid (fun W => size_any (b - c) W (by omega) (by omega))
  have s3 := Lib.hid (fun W => size_any (b - a - (b - c)) W (by omega) (by omega))
  have e1 := szE (b - a)
  have e2 := szE (b - c)
  have e3 := szE (b - a - (b - c))
  have key : ∀ r : Bool, ((most < max (b - a) (-(b - a)) ∧ most < max (b - c) (-(b - c)) ∧ ((0 < b - a) ↔ (0 < b - c)) ∧ max (b - a - (b - c)) (-(b - a - (b - c))) ≤ most) ↔ r = true) → Hid (decide (spkP a b c most) = r) := by
    intro r hr
    cases r with
    | true => exact decide_eq_true (spkP_iff.2 (hr.2 rfl))
    | false => exact decide_eq_false (fun h => by have := hr.1 (spkP_iff.1 h); cases this)
  have hcase : (∃ r : Bool, Hid (decide (spkP a b c most) = r) ∧ r = false ∧ decide (most < sz (b - a)) = false) ∨ (∃ r : Bool, Hid (decide (spkP a b c most) = r) ∧ r = false ∧ decide (most < sz (b - a)) = true ∧ decide (most < sz (b - c)) = false)
      ∨ (∃ r p q : Bool, Hid (decide (spkP a b c most) = r) ∧ r = false ∧ decide (most < sz (b - a)) = true ∧ decide (most < sz (b - c)) = true ∧ decide (0 < b - a) = p ∧ decide (0 < b - c) = q ∧ (p == q) = false)
      ∨ (∃ r p q : Bool, Hid (decide (spkP a b c most) = r) ∧ decide (sz (b - a - (b - c)) ≤ most) = r ∧ decide (most < sz (b - a)) = true ∧ decide (most < sz (b - c)) = true ∧ decide (0 < b - a) = p ∧ decide (0 < b - c) = q ∧ (p == q) = true) := by
    rw [e1, e2, e3]
    by_cases h1 : most < max (b - a) (-(b - a))
    · by_cases h2 : most < max (b - c) (-(b - c))
      · by_cases h3 : (0 < b - a) ↔ (0 < b - c)
        · refine .inr (.inr (.inr ⟨_, _, _, key _ ?_, rfl, decide_eq_true h1, decide_eq_true h2, rfl, rfl, ?_⟩))
          · simp only [decide_eq_true_eq]; exact ⟨fun h => h.2.2.2, fun h => ⟨h1, h2, h3, h⟩⟩
          · simpa using h3
        · refine .inr (.inr (.inl ⟨false, _, _, key _ ?_, rfl, decide_eq_true h1, decide_eq_true h2, rfl, rfl, ?_⟩))
          · exact ⟨fun h => absurd h.2.2.1 h3, fun h => by cases h⟩
          · simpa using h3
      · exact .inr (.inl ⟨false, key _ ⟨fun h => absurd h.2.1 h2, fun h => by cases h⟩, rfl, decide_eq_true h1, decide_eq_false h2⟩)
    · exact .inl ⟨false, key _ ⟨fun h => absurd h.1 h1, fun h => by cases h⟩, rfl, decide_eq_false h1⟩
  clear key e1 e2 e3 ha hb hc
  generalize hA : b - a = X at *
  generalize hB : b - c = Y at *
  generalize hZ : X - Y = Z at *
  generalize sz X = sX at *
  generalize sz Y = sY at *
  generalize sz Z = sZ at *
  rcases hcase with ⟨r, K, rfl, d1⟩ | ⟨r, K, rfl, d1, d2⟩ | ⟨r, p, q, K, rfl, d1, d2, d3, d4, d5⟩ | ⟨r, p, q, K, d6, d1, d2, d3, d4, d5⟩
  rotate_left 2
  · cases p <;> cases q <;> first | (exfalso; simp at d5; done) | skip
    all_goals
      clear d5
      go_enter Tryd.func60, Tryd.ntmps60
      go_wp2
      go_quiet (fail)
      go_wp2_with first
        | (go_at_call 72; (with_reducible refine (s1.out _).mono ?_); rintro e w' ⟨rfl, rfl⟩)
        | (go_at_call 72; (with_reducible refine (s2.out _).mono ?_); rintro e w' ⟨rfl, rfl⟩)
        | (go_at_call 72; (with_reducible refine (s3.out _).mono ?_); rintro e w' ⟨rfl, rfl⟩)
      go_ret
      exact ⟨by rw [K.out]; rfl, (by repeat (first | (with_reducible exact Gx.refl _) | (with_reducible assumption) | (with_reducible refine Gx.gx ?_) | (with_reducible refine Gx.alloc ?_) | (with_reducible refine Gx.drew ?_) | (with_reducible refine Gx.drewN ?_) | (with_reducible refine Gx.setRow ?_ (by first | omega | (simp; done) | (simp <;> omega))) | (with_reducible refine Gx.setCell ?_ (by first | omega | (simp; done) | (simp <;> omega)))))⟩
  · cases p <;> cases q <;> first | (exfalso; simp at d5; done) | skip
    all_goals
      clear d5
      go_enter Tryd.func60, Tryd.ntmps60
      go_wp2
      go_quiet (fail)
      go_wp2_with first
        | (go_at_call 72; (with_reducible refine (s1.out _).mono ?_); rintro e w' ⟨rfl, rfl⟩)
        | (go_at_call 72; (with_reducible refine (s2.out _).mono ?_); rintro e w' ⟨rfl, rfl⟩)
        | (go_at_call 72; (with_reducible refine (s3.out _).mono ?_); rintro e w' ⟨rfl, rfl⟩)
      go_ret
      exact ⟨by rw [K.out]; rfl, (by repeat (first | (with_reducible exact Gx.refl _) | (with_reducible assumption) | (with_reducible refine Gx.gx ?_) | (with_reducible refine Gx.alloc ?_) | (with_reducible refine Gx.drew ?_) | (with_reducible refine Gx.drewN ?_) | (with_reducible refine Gx.setRow ?_ (by first | omega | (simp; done) | (simp <;> omega))) | (with_reducible refine Gx.setCell ?_ (by first | omega | (simp; done) | (simp <;> omega)))))⟩
  all_goals
    go_enter Tryd.func60, Tryd.ntmps60
    go_wp2
    go_quiet (fail)
    go_wp2_with first
      | (go_at_call 72; (with_reducible refine (s1.out _).mono ?_); rintro e w' ⟨rfl, rfl⟩)
      | (go_at_call 72; (with_reducible refine (s2.out _).mono ?_); rintro e w' ⟨rfl, rfl⟩)
      | (go_at_call 72; (with_reducible refine (s3.out _).mono ?_); rintro e w' ⟨rfl, rfl⟩)
    go_ret
    exact ⟨by rw [K.out]; rfl, (by repeat (first | (with_reducible exact Gx.refl _) | (with_reducible assumption) | (with_reducible refine Gx.gx ?_) | (with_reducible refine Gx.alloc ?_) | (with_reducible refine Gx.drew ?_) | (with_reducible refine Gx.drewN ?_) | (with_reducible refine Gx.setRow ?_ (by first | omega | (simp; done) | (simp <;> omega))) | (with_reducible refine Gx.setCell ?_ (by first | omega | (simp; done) | (simp <;> omega)))))⟩
set_option maxRecDepth 100000 in
theorem neighbours_no (A : Option Addr) (r c : Nat) (w : World) (h : r < 3) : Calls Tryd.prog 59 #[.slice A r c] w fun e w' => e = .returned (.tuple #[.pointer none, .bool false]) ∧ ∃ x, w' = gx w x := by
  have d1 : decide (r < 3) = true := decide_eq_true h
  have d2 : decide ((r : Int) < 3) = true := decide_eq_true (by omega)
  clear h
  go_enter Tryd.func59, Tryd.ntmps59
  go_wp2
  go_ret2
  exact ⟨rfl, (by repeat (first | (with_reducible exact Gx.refl _) | (with_reducible assumption) | (with_reducible refine Gx.gx ?_) | (with_reducible refine Gx.alloc ?_) | (with_reducible refine Gx.drew ?_) | (with_reducible refine Gx.drewN ?_) | (with_reducible refine Gx.setRow ?_ (by first | omega | (simp; done) | (simp <;> omega))) | (with_reducible refine Gx.setCell ?_ (by first | omega | (simp; done) | (simp <;> omega)))))⟩
set_option maxRecDepth 100000 in
theorem neighbours_yes (ad : Addr) (r c : Nat) (w : World) (h : 3 ≤ r) : Calls Tryd.prog 59 #[.slice (some ad) r c] w fun e w' => e = .returned (.tuple #[.pointer (some ad), .bool true]) ∧ ∃ x, w' = gx w x := by
  have d1 : decide (r < 3) = false := decide_eq_false (by omega)
  have d2 : decide ((r : Int) < 3) = false := decide_eq_false (by omega)
  have d3 : (3 : Int) ≤ (r : Int) := by omega
  have d4 : ¬ r < 3 := by omega
  have hat : ∀ w, (Instr.arrayAt 174 (.slice (some ad) r c)).run Tryd.prog w = .ok (.pointer (some ad)) w := fun w => run_arrayAt _ _ _ _ _ _ _ Tryd.underlying174 h
  clear h
  go_enter Tryd.func59, Tryd.ntmps59
  go_wp2
  go_ret2
  exact ⟨rfl, (by repeat (first | (with_reducible exact Gx.refl _) | (with_reducible assumption) | (with_reducible refine Gx.gx ?_) | (with_reducible refine Gx.alloc ?_) | (with_reducible refine Gx.drew ?_) | (with_reducible refine Gx.drewN ?_) | (with_reducible refine Gx.setRow ?_ (by first | omega | (simp; done) | (simp <;> omega))) | (with_reducible refine Gx.setCell ?_ (by first | omega | (simp; done) | (simp <;> omega)))))⟩
end Go.Proofs.YtjlokobgdkkppaaDoor
