/-
  The small functions of package series and of its reference: contracts.
-/
import Derived.Test.YtfbhjgaiejjfaaaKit
import Derived.Test.YtfbhjgaiejjfaaaSPure
import Derived.IntWalk
namespace Go.Proofs.Ytfbhjgaiejjfaaa
open Go.RowKit
-- AT2

theorem ret_b {a b : Bool} (h : a = b) : Ending.returned (.bool a) = .returned (.bool b) := by rw [h]
theorem ret_i {k : IntKind} {a b : Int} (h : a = b) : Ending.returned (.int k a) = .returned (.int k b) := by rw [h]
theorem ne0 {n : Int} (h : n ≠ 0) : (n != 0) = true := by simpa using h
theorem ne0' {n : Int} (h : n ≠ 0) : (n == 0) = false := by simpa using h
/-- n is from -m to m. -/
@[irreducible] def wB (n m : Int) : Bool := decide (-m ≤ n ∧ n ≤ m)
theorem wB_iff {n m : Int} : wB n m = true ↔ -m ≤ n ∧ n ≤ m := by unfold wB; simp
theorem wB_no {n m : Int} : wB n m = false ↔ ¬ (-m ≤ n ∧ n ≤ m) := by unfold wB; simp
@[irreducible] def nB (n : Int) : Bool := decide (isN n)
theorem nB_iff {n : Int} : nB n = true ↔ isN n := by unfold nB; simp
theorem nB_no {n : Int} : nB n = false ↔ ¬ isN n := by unfold nB; simp
theorem nB_of {n : Int} : wB n 1125899906842624 = nB n := by unfold wB nB isN; rfl
/-- n is from a to b. -/
@[irreducible] def inB (a b n : Int) : Bool := decide (a ≤ n ∧ n ≤ b)
theorem inB_iff {a b n : Int} : inB a b n = true ↔ a ≤ n ∧ n ≤ b := by unfold inB; simp
theorem inB_no {a b n : Int} : inB a b n = false ↔ ¬ (a ≤ n ∧ n ≤ b) := by unfold inB; simp
@[irreducible] def lB (l : Ln) : Bool := decide (lnOk l)
theorem lB_iff {l : Ln} : lB l = true ↔ lnOk l := by unfold lB; simp
theorem lB_no {l : Ln} : lB l = false ↔ ¬ lnOk l := by unfold lB; simp

theorem isWithin_any (n m : Int) (w : World) (h0 : 0 ≤ m) (h1 : m ≤ 1125899906842624) : Calls Try.prog 66 #[.int .i64 n, .int .i64 m] w fun e w' => e = .returned (.bool (wB n m)) ∧ w = w' := by
  by_cases h2 : -m ≤ n
  · by_cases h3 : n ≤ m
    · have e : wB n m = true := wB_iff.2 ⟨h2, h3⟩
      rw [e]; clear e
      go_enter Try.func66, Try.ntmps66
      go_wp2
      go_ret
      exact ⟨rfl, rfl⟩
    · have e : wB n m = false := wB_no.2 (fun h => h3 h.2)
      rw [e]; clear e
      go_enter Try.func66, Try.ntmps66
      go_wp2
      go_ret
      exact ⟨rfl, rfl⟩
  · have e : wB n m = false := wB_no.2 (fun h => h2 h.1)
    rw [e]; clear e
    go_enter Try.func66, Try.ntmps66
    go_wp2
    go_ret
    exact ⟨rfl, rfl⟩
theorem isNumber_any (n : Int) (w : World) : Calls Try.prog 60 #[.int .i64 n] w fun e w' => e = .returned (.bool (nB n)) ∧ w = w' := by
  rw [← nB_of]
  go_enter Try.func60, Try.ntmps60
  go_wp2_with (go_at_call 66; refine (isWithin_any _ _ _ (by omega) (by omega)).mono ?_; rintro e w' ⟨rfl, rfl⟩)
  go_ret
  exact ⟨rfl, rfl⟩
theorem isDen_any (n : Int) (w : World) : Calls Try.prog 58 #[.int .i64 n] w fun e w' => e = .returned (.bool (inB 1 1000000 n)) ∧ w = w' := by
  by_cases h2 : 1 ≤ n
  · by_cases h3 : n ≤ 1000000
    · rw [inB_iff.2 ⟨h2, h3⟩]
      go_enter Try.func58, Try.ntmps58
      go_wp2
      go_ret
      exact ⟨rfl, rfl⟩
    · rw [inB_no.2 (fun h => h3 h.2)]
      go_enter Try.func58, Try.ntmps58
      go_wp2
      go_ret
      exact ⟨rfl, rfl⟩
  · rw [inB_no.2 (fun h => h2 h.1)]
    go_enter Try.func58, Try.ntmps58
    go_wp2
    go_ret
    exact ⟨rfl, rfl⟩
theorem isTime_any (n : Int) (w : World) : Calls Try.prog 59 #[.int .i64 n] w fun e w' => e = .returned (.bool (inB 0 1099511627776 n)) ∧ w = w' := by
  by_cases h2 : 0 ≤ n
  · by_cases h3 : n ≤ 1099511627776
    · rw [inB_iff.2 ⟨h2, h3⟩]
      go_enter Try.func59, Try.ntmps59
      go_wp2
      go_ret
      exact ⟨rfl, rfl⟩
    · rw [inB_no.2 (fun h => h3 h.2)]
      go_enter Try.func59, Try.ntmps59
      go_wp2
      go_ret
      exact ⟨rfl, rfl⟩
  · rw [inB_no.2 (fun h => h2 h.1)]
    go_enter Try.func59, Try.ntmps59
    go_wp2
    go_ret
    exact ⟨rfl, rfl⟩
theorem outside_any (n a b : Int) (w : World) : Calls Try.prog 62 #[.int .i64 n, .int .i64 a, .int .i64 b] w fun e w' => e = .returned (.bool !(inB a b n)) ∧ w = w' := by
  by_cases h2 : a ≤ n
  · by_cases h3 : n ≤ b
    · rw [inB_iff.2 ⟨h2, h3⟩]
      have d1 : decide (n < a) = false := decide_eq_false (by omega)
      have d2 : decide (b < n) = false := decide_eq_false (by omega)
      clear h2 h3
      go_enter Try.func62, Try.ntmps62
      go_wp2
      go_ret
      exact ⟨rfl, rfl⟩
    · rw [inB_no.2 (fun h => h3 h.2)]
      have d1 : decide (n < a) = false := decide_eq_false (by omega)
      have d2 : decide (b < n) = true := decide_eq_true (by omega)
      clear h2 h3
      go_enter Try.func62, Try.ntmps62
      go_wp2
      go_ret
      exact ⟨rfl, rfl⟩
  · rw [inB_no.2 (fun h => h2 h.1)]
    have d1 : decide (n < a) = true := decide_eq_true (by omega)
    clear h2
    go_enter Try.func62, Try.ntmps62
    go_wp2
    go_ret
    exact ⟨rfl, rfl⟩
/-- A line's value. -/
abbrev lnV (f t a b : Int) : Value := .agg #[.int .i64 f, .int .i64 t, .int .i64 a, .int .i64 b]
end Go.Proofs.Ytfbhjgaiejjfaaa
