/-
  onLine of the program: the number at a time between two samples.
-/
import Derived.Test.YtlnbadjjgbecgaaSLow
namespace Go.Proofs.Ytlnbadjjgbecgaa
open Go.RowKit
-- AT2

theorem wrap_add (a b : Int) : IntKind.i64.wrap (IntKind.i64.wrap a + IntKind.i64.wrap b) = IntKind.i64.wrap (a + b) := by
  rw [IntKind.wrap_i64, IntKind.wrap_i64, IntKind.wrap_i64, IntKind.wrap_i64]; omega
theorem lowD_nat (n : Int) {T : Nat} (h : 0 < T) : ∃ D : Nat, lowD n T = (D : Int) ∧ 0 < D ∧ D ≤ T := by
  obtain ⟨h1, h2, h3, h4, h5⟩ := low_spec n (d := (T : Int)) (by omega)
  refine ⟨(lowD n T).toNat, by omega, by omega, ?_⟩
  have : lowD n T ≤ (T : Int) := by
    have h6 : lowD n T * 1 ≤ lowD n T * (Int.gcd n T : Int) := Int.mul_le_mul_of_nonneg_left (by omega) (by omega)
    omega
  omega
set_option maxHeartbeats 4000000 in
set_option maxRecDepth 100000 in
theorem onLine_any (ta na ma tb nb mb a : Int) (T : Nat) (hT : tb - ta = (T : Int)) (h0 : 0 < T) (h1 : T ≤ 1099511627776) (hx : 0 ≤ a - ta) (hx2 : a ≤ tb)
    (hna : -1125899906842624 ≤ na ∧ na ≤ 1125899906842624) (hnb : -1125899906842624 ≤ nb ∧ nb ≤ 1125899906842624) (w : World) :
    Calls Try.prog 21 #[smV ta na ma, smV tb nb mb, .int .i64 a] w fun e w' => e = .returned (ratV (IntKind.i64.wrap (lowN (na * (T - (a - ta)) + nb * (a - ta)) T)) (lowD (na * (T - (a - ta)) + nb * (a - ta)) T)) ∧ ∃ x, w' = gx w x := by
  obtain ⟨l1, l2⟩ := line_low (a := na) (b := nb) (x := a - ta) (T := (T : Int)) (by omega)
  rw [← l1, ← l2]
  obtain ⟨D, eD, hD0, hDT⟩ := lowD_nat (a - ta) h0
  have L1 := fun W => lowest_any (a - ta) T (by omega) h0 (by omega) W
  have L2 := fun W => lowest_any (nb - na) D (by omega) hD0 (by omega) W
  rw [eD] at L1 ⊢
  obtain ⟨s, hs⟩ : ∃ s, s = lowN (a - ta) T := ⟨_, rfl⟩
  obtain ⟨p, hp⟩ : ∃ p, p = lowN (nb - na) D := ⟨_, rfl⟩
  obtain ⟨q, hq⟩ : ∃ q, q = lowD (nb - na) D := ⟨_, rfl⟩
  rw [← hs] at L1 ⊢
  rw [← hp, ← hq] at L2 ⊢
  have H1 := Lib.hid L1
  have H2 := Lib.hid L2
  have f1 : IntKind.i64.wrap (a - ta) = a - ta := by rw [IntKind.wrap_i64]; omega
  have f2 : IntKind.i64.wrap (tb - ta) = (T : Int) := by rw [IntKind.wrap_i64]; omega
  have f3 : IntKind.i64.wrap (nb - na) = nb - na := by rw [IntKind.wrap_i64]; omega
  have f4 := wrap_add (na * q) (p * s)
  clear l1 l2 L1 L2 hs hp hq eD hD0 hDT hT h0 h1 hx hx2 hna hnb
  go_enter Try.func21, Try.ntmps21
  go_wp2_with (first
    | (go_at_call 34; with_reducible refine (H1.out _).mono ?_; rintro e w' ⟨rfl, x1, rfl⟩)
    | (go_at_call 34; with_reducible refine (H2.out _).mono ?_; rintro e w' ⟨rfl, x2, rfl⟩))
  exact bodyPost_ret (v := ratV (IntKind.i64.wrap (na * q + p * s)) q) (by simp [results, Try.results21, go_sem]; rw [IntWalk.i64_left, IntWalk.i64_left, IntWalk.i64_left, IntWalk.i64_left] at f4; rw [IntWalk.i64_left]; exact f4) rfl ⟨rfl, (by repeat (first | (with_reducible exact Gx.refl _) | (with_reducible assumption) | (with_reducible refine Gx.gx ?_) | (with_reducible refine Gx.alloc ?_) | (with_reducible refine Gx.drew ?_) | (with_reducible refine Gx.drewN ?_) | (with_reducible refine Gx.setRow ?_ (by simp)) | (with_reducible refine Gx.setCell ?_ (by simp))))⟩
end Go.Proofs.Ytlnbadjjgbecgaa
