/-
  isSteeper of the program, steeper of the reference; what the solid samples' list holds.
-/
import Derived.Test.YtikgfidpdghkpaaDoorSOp
import Derived.Test.YtikgfidpdghkpaaDoorSRRange
import Derived.Test.YtikgfidpdghkpaaDoorSProd
import Derived.Test.YtikgfidpdghkpaaDoorSGcd
import Derived.Test.YtikgfidpdghkpaaDoorSLow
import Derived.Deep.RegionHeld3
namespace Go.Proofs.YtikgfidpdghkpaaDoor
open Go.RowKit
-- AT2
-- AT3

set_option maxHeartbeats 4000000 in
set_option maxRecDepth 100000 in
theorem isSteeper_any (a b c d : Nat) (ha : a < 9223372036854775808) (hb : b < 9223372036854775808) (hc : c < 9223372036854775808) (hd : d < 9223372036854775808) (w : World) :
    Calls Tryd.prog 39 #[ratV a b, ratV c d] w fun e w' => e = .returned (.bool (decide (c * b < a * d))) ∧ ∃ x, w' = gx w x := by
  have M1 := Lib.hid (Mul64_any a d (by omega) (by omega))
  have M2 := Lib.hid (Mul64_any c b (by omega) (by omega))
  have hw := wide_lt (a * d) (c * b)
  have e1 : IntKind.u64.wrap (a : Int) = (a : Int) := Go.Proofs.Mul64.wrapN _ (by omega)
  have e2 : IntKind.u64.wrap (b : Int) = (b : Int) := Go.Proofs.Mul64.wrapN _ (by omega)
  have e3 : IntKind.u64.wrap (c : Int) = (c : Int) := Go.Proofs.Mul64.wrapN _ (by omega)
  have e4 : IntKind.u64.wrap (d : Int) = (d : Int) := Go.Proofs.Mul64.wrapN _ (by omega)
  obtain ⟨R, hR⟩ : ∃ R, R = decide (c * b < a * d) := ⟨_, rfl⟩
  rw [← hR]
  have hR' : R = decide (c * b / 18446744073709551616 < a * d / 18446744073709551616 ∨ a * d / 18446744073709551616 = c * b / 18446744073709551616 ∧ c * b % 18446744073709551616 < a * d % 18446744073709551616) := by
    rw [hR]
    by_cases h : c * b < a * d
    · rw [decide_eq_true h, decide_eq_true (hw.1 h)]
    · rw [decide_eq_false h, decide_eq_false (fun k => h (hw.2 k))]
  clear hR hw ha hb hc hd
  generalize a * d / 18446744073709551616 = H1 at *
  generalize a * d % 18446744073709551616 = L1 at *
  generalize c * b / 18446744073709551616 = H2 at *
  generalize c * b % 18446744073709551616 = L2 at *
  have cases : (R = true ∧ decide (H2 < H1) = true ∧ decide ((H2 : Int) < (H1 : Int)) = true) ∨ (decide (H2 < H1) = false ∧ decide ((H2 : Int) < (H1 : Int)) = false ∧ ((R = false ∧ ((H1 : Int) == (H2 : Int)) = false ∧ ¬ (H1 : Int) = (H2 : Int) ∧ ¬ H1 = H2) ∨ (H1 = H2 ∧ R = decide (L2 < L1) ∧ decide ((L2 : Int) < (L1 : Int)) = R))) := by
    by_cases h : H2 < H1
    · exact .inl ⟨by rw [hR', decide_eq_true (.inl h)], decide_eq_true h, decide_eq_true (by omega)⟩
    · refine .inr ⟨decide_eq_false h, decide_eq_false (by omega), ?_⟩
      by_cases h2 : H1 = H2
      · have e : R = decide (L2 < L1) := by
          rw [hR']
          by_cases h3 : L2 < L1
          · rw [decide_eq_true h3, decide_eq_true (.inr ⟨h2, h3⟩)]
          · rw [decide_eq_false h3, decide_eq_false (by omega)]
        refine .inr ⟨h2, e, ?_⟩
        rw [e]
        by_cases h3 : L2 < L1
        · rw [decide_eq_true h3, decide_eq_true (by omega)]
        · rw [decide_eq_false h3, decide_eq_false (by omega)]
      · exact .inl ⟨by rw [hR', decide_eq_false (by omega)], by rw [beq_eq_false_iff_ne]; omega, by omega, h2⟩
  clear hR'
  rcases cases with ⟨rfl, k1, k2⟩ | ⟨k1, k2, ⟨rfl, k3, k4, k5⟩ | ⟨rfl, k3, k4⟩⟩
  all_goals go_enter Tryd.func39, Tryd.ntmps39
  all_goals go_wp2_with first
    | (go_at_call 56; (with_reducible refine (M1.out _).mono ?_); rintro e w' ⟨rfl, rfl⟩)
    | (go_at_call 56; (with_reducible refine (M2.out _).mono ?_); rintro e w' ⟨rfl, rfl⟩)
  all_goals go_ret
  all_goals exact ⟨by first | rfl | (rw [k3]; first | done | rfl) | (simp_all; done), (by repeat (first | (with_reducible exact Gx.refl _) | (with_reducible assumption) | (with_reducible refine Gx.gx ?_) | (with_reducible refine Gx.alloc ?_) | (with_reducible refine Gx.drew ?_) | (with_reducible refine Gx.drewN ?_) | (with_reducible refine Gx.setRow ?_ (by first | omega | (simp; done) | (simp <;> omega))) | (with_reducible refine Gx.setCell ?_ (by first | omega | (simp; done) | (simp <;> omega)))))⟩
set_option maxHeartbeats 4000000 in
set_option maxRecDepth 100000 in
theorem steeper_any (a b c d : Nat) (ha : a < 9223372036854775808) (hb : b < 9223372036854775808) (hc : c < 9223372036854775808) (hd : d < 9223372036854775808) (w : World) :
    Calls Tryd.prog 40 #[.int .i64 a, .int .i64 b, .int .i64 c, .int .i64 d] w fun e w' => e = .returned (.bool (decide (c * b < a * d))) ∧ ∃ x, w' = gx w x := by
  have M1 := fun W => product_any (a : Int) d (by omega) hd W
  have M2 := fun W => product_any (c : Int) b (by omega) hb W
  unfold wvV at M1 M2
  rw [show (a : Int).natAbs = a from rfl, show decide ((a : Int) < 0) = false from decide_eq_false (by omega)] at M1
  rw [show (c : Int).natAbs = c from rfl, show decide ((c : Int) < 0) = false from decide_eq_false (by omega)] at M2
  have hw := wide_lt (a * d) (c * b)
  obtain ⟨R, hR⟩ : ∃ R, R = decide (c * b < a * d) := ⟨_, rfl⟩
  rw [← hR]
  have hR' : R = decide (c * b / 18446744073709551616 < a * d / 18446744073709551616 ∨ a * d / 18446744073709551616 = c * b / 18446744073709551616 ∧ c * b % 18446744073709551616 < a * d % 18446744073709551616) := by
    rw [hR]
    by_cases h : c * b < a * d
    · rw [decide_eq_true h, decide_eq_true (hw.1 h)]
    · rw [decide_eq_false h, decide_eq_false (fun k => h (hw.2 k))]
  clear hR hw ha hb hc hd
  generalize a * d / 18446744073709551616 = H1 at *
  generalize a * d % 18446744073709551616 = L1 at *
  generalize c * b / 18446744073709551616 = H2 at *
  generalize c * b % 18446744073709551616 = L2 at *
  have M1 := Lib.hid M1
  have M2 := Lib.hid M2
  have cases : (R = true ∧ decide (H2 < H1) = true ∧ decide ((H2 : Int) < (H1 : Int)) = true) ∨ (decide (H2 < H1) = false ∧ decide ((H2 : Int) < (H1 : Int)) = false ∧ ((R = false ∧ ((H1 : Int) == (H2 : Int)) = false ∧ ¬ (H1 : Int) = (H2 : Int) ∧ ¬ H1 = H2) ∨ (H1 = H2 ∧ R = decide (L2 < L1) ∧ decide ((L2 : Int) < (L1 : Int)) = R))) := by
    by_cases h : H2 < H1
    · exact .inl ⟨by rw [hR', decide_eq_true (.inl h)], decide_eq_true h, decide_eq_true (by omega)⟩
    · refine .inr ⟨decide_eq_false h, decide_eq_false (by omega), ?_⟩
      by_cases h2 : H1 = H2
      · have e : R = decide (L2 < L1) := by
          rw [hR']
          by_cases h3 : L2 < L1
          · rw [decide_eq_true h3, decide_eq_true (.inr ⟨h2, h3⟩)]
          · rw [decide_eq_false h3, decide_eq_false (by omega)]
        refine .inr ⟨h2, e, ?_⟩
        rw [e]
        by_cases h3 : L2 < L1
        · rw [decide_eq_true h3, decide_eq_true (by omega)]
        · rw [decide_eq_false h3, decide_eq_false (by omega)]
      · exact .inl ⟨by rw [hR', decide_eq_false (by omega)], by rw [beq_eq_false_iff_ne]; omega, by omega, h2⟩
  clear hR'
  rcases cases with ⟨rfl, k1, k2⟩ | ⟨k1, k2, ⟨rfl, k3, k4, k5⟩ | ⟨rfl, k3, k4⟩⟩
  all_goals go_enter Tryd.func40, Tryd.ntmps40
  all_goals go_wp2_with first
    | (go_at_call 57; (with_reducible refine (M1.out _).mono ?_); rintro e w' ⟨rfl, x1, rfl⟩)
    | (go_at_call 57; (with_reducible refine (M2.out _).mono ?_); rintro e w' ⟨rfl, x2, rfl⟩)
  all_goals go_ret
  all_goals exact ⟨by first | rfl | (rw [k3]; first | done | rfl) | (simp_all; done), (by repeat (first | (with_reducible exact Gx.refl _) | (with_reducible assumption) | (with_reducible refine Gx.gx ?_) | (with_reducible refine Gx.alloc ?_) | (with_reducible refine Gx.drew ?_) | (with_reducible refine Gx.drewN ?_) | (with_reducible refine Gx.setRow ?_ (by first | omega | (simp; done) | (simp <;> omega))) | (with_reducible refine Gx.setCell ?_ (by first | omega | (simp; done) | (simp <;> omega)))))⟩
end Go.Proofs.YtikgfidpdghkpaaDoor
