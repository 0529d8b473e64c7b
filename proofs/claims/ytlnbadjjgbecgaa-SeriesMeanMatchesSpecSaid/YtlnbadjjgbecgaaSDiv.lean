/-
  bits.Div64: its contract, where the high part is not 0.
-/
import Derived.Test.YtlnbadjjgbecgaaSBits
import Derived.Test.YtlnbadjjgbecgaaSDivP2
import Derived.Lib.ItoaNum
namespace Go.Proofs.Ytlnbadjjgbecgaa
open Go.RowKit
-- AT2

theorem norm64 {y : Nat} (h0 : y ≠ 0) (h1 : y < 18446744073709551616) : Lib.bitLen y ≤ 64 ∧ 9223372036854775808 ≤ y * 2 ^ (64 - Lib.bitLen y) ∧ y * 2 ^ (64 - Lib.bitLen y) < 18446744073709551616 := by
  obtain ⟨b1, b2, b3⟩ := Lib.bitLenAux_bounds 64 y h1 h0
  have hb := Lib.bitLen_le y 64 (by omega) h1
  change 1 ≤ Lib.bitLen y at b1
  change 2 ^ (Lib.bitLen y - 1) ≤ y at b2
  change y < 2 ^ Lib.bitLen y at b3
  generalize Lib.bitLen y = n at *
  refine ⟨hb, ?_, ?_⟩
  · have := Nat.mul_le_mul_right (2 ^ (64 - n)) b2
    rw [← Nat.pow_add, show n - 1 + (64 - n) = 63 by omega] at this
    exact this
  · have := Nat.mul_lt_mul_of_pos_right b3 (Nat.two_pow_pos (64 - n))
    rw [← Nat.pow_add, show n + (64 - n) = 64 by omega] at this
    exact this
/-- The facts that the walk of Div64 asks. -/
structure DivZs (y h l s Y yn1 yn0 H L1 U LL u1 u0 : Nat) : Prop where
  z1 : IntKind.u64.wrap ((y : Int) * 2 ^ s) = (Y : Int)
  z2 : (Y : Int) / 4294967296 = (yn1 : Int)
  z3 : bits .and .u64 (Y : Int) 4294967295 = (yn0 : Int)
  z4 : IntKind.u64.wrap ((h : Int) * 2 ^ s) = (H : Int)
  z5 : (l : Int) / 2 ^ (64 - s) = (L1 : Int)
  z6 : bits .or .u64 (H : Int) (L1 : Int) = (U : Int)
  z7 : IntKind.u64.wrap ((l : Int) * 2 ^ s) = (LL : Int)
  z8 : (LL : Int) / 4294967296 = (u1 : Int)
  z9 : bits .and .u64 (LL : Int) 4294967295 = (u0 : Int)
set_option maxRecDepth 100000 in
theorem DivNs.zs {y h l s Y yn1 yn0 H L1 U LL u1 u0 : Nat} (D : DivNs y h l s Y yn1 yn0 H L1 U LL u1 u0) : DivZs y h l s Y yn1 yn0 H L1 U LL u1 u0 := by
  have cast : ∀ a : Nat, ((a : Int) * 2 ^ s) = ((a * 2 ^ s : Nat) : Int) := fun a => by rw [Int.natCast_mul, Int.natCast_pow]; rfl
  have hLL : LL < 18446744073709551616 := by rw [← D.eLL]; exact Nat.mod_lt _ (by decide)
  have hHU : H < 18446744073709551616 := by have := D.eU; have := D.bU; have := D.bY; omega
  refine ⟨?_, ?_, ?_, ?_, ?_, ?_, ?_, ?_, ?_⟩
  · rw [cast, D.eY]; exact Go.Proofs.Mul64.wrapN _ D.bY
  · rw [← D.eY1]; omega
  · rw [← D.eY0]; exact Go.Proofs.Mul64.maskN _ D.bY
  · rw [cast, D.eH]; exact Go.Proofs.Mul64.wrapN _ hHU
  · rw [← D.eL1, Int.natCast_ediv, Int.natCast_pow]; rfl
  · have hj := bits_join .u64 64 (by decide) wraps_u64 s (H : Int) (L1 : Int) (by omega) ?_ (by omega) (by omega) ?_ ?_
    · rw [hj, ← D.eU]; omega
    · rw [← D.eH, ← cast]; exact Int.mul_emod_left _ _
    · have := D.bL1
      exact_mod_cast this
    · have := D.eU; have := D.bU; have := D.bY; omega
  · rw [cast, Go.Proofs.Mul64.wrapM, D.eLL]
  · rw [← D.eu1]; omega
  · rw [← D.eu0]; exact Go.Proofs.Mul64.maskN _ hLL
theorem sub_mod {U u1 q Y V : Nat} (hV : U * 4294967296 + u1 = q * Y + V) (hVW : V < 18446744073709551616) : ∃ A1 A2 A3 : Nat, IntKind.u64.wrap ((U : Int) * 4294967296) = (A1 : Int) ∧ IntKind.u64.wrap ((A1 : Int) + (u1 : Int)) = (A2 : Int) ∧ IntKind.u64.wrap ((q : Int) * (Y : Int)) = (A3 : Int) ∧ IntKind.u64.wrap ((A2 : Int) - (A3 : Int)) = (V : Int) := by
  refine ⟨U * 4294967296 % 18446744073709551616, (U * 4294967296 + u1) % 18446744073709551616, q * Y % 18446744073709551616, ?_, ?_, ?_, ?_⟩
  · rw [IntKind.wrap_u64]; omega
  · rw [IntKind.wrap_u64]; omega
  · rw [Go.Proofs.Mul64.mulN]; exact Go.Proofs.Mul64.wrapM _
  · rw [IntKind.wrap_u64, hV]; generalize q * Y = Z; omega
theorem loop_facts {yn1 yn0 u u1 q r : Nat} (S : DivAt 4294967296 yn1 yn0 u u1 q r) (hr : r < 4294967296) (h3 : yn0 < 4294967296) (hc : u1 < 4294967296) : ∃ P Rb Rs : Nat, P = q * yn0 ∧ Rs = 4294967296 * r + u1 ∧ IntKind.u64.wrap ((q : Int) * (yn0 : Int)) = (P : Int) ∧ IntKind.u64.wrap (4294967296 * (r : Int)) = (Rb : Int) ∧ IntKind.u64.wrap ((Rb : Int) + (u1 : Int)) = (Rs : Int) := by
  have hm : q * yn0 ≤ 4294967297 * 4294967295 := Nat.mul_le_mul S.most (by omega)
  refine ⟨q * yn0, 4294967296 * r, 4294967296 * r + u1, rfl, rfl, ?_, ?_, ?_⟩
  · rw [Go.Proofs.Mul64.mulN]; exact Go.Proofs.Mul64.wrapN _ (by omega)
  · rw [IntKind.wrap_u64]; omega
  · rw [IntKind.wrap_u64]; omega
theorem digit_facts {V Y yn1 yn0 u0 : Nat} (hs : yn1 * 4294967296 + yn0 = Y) (bY : Y < 18446744073709551616) (b1 : 2147483648 ≤ yn1) (b2 : yn1 < 4294967296) (b3 : yn0 < 4294967296) (hV : V < Y) (hc : u0 < 4294967296) : ∃ q r t : Nat, (V : Int).tdiv (yn1 : Int) = (q : Int) ∧ IntKind.u64.wrap (q : Int) = (q : Int) ∧ IntKind.u64.wrap ((q : Int) * (yn1 : Int)) = (t : Int) ∧ IntKind.u64.wrap ((V : Int) - (t : Int)) = (r : Int) ∧ DivAt 4294967296 yn1 yn0 V u0 q r ∧ r < 4294967296 := by
  have hqrt : V / yn1 * yn1 + V % yn1 = V := by rw [Nat.mul_comm]; exact Nat.div_add_mod V yn1
  have hqU : V / yn1 ≤ V := Nat.div_le_self _ _
  have hS : DivAt 4294967296 yn1 yn0 V u0 (V / yn1) (V % yn1) := DivAt.start (by omega) b3 (by omega) (by rw [hs]; exact hV) hc
  have hr : V % yn1 < yn1 := Nat.mod_lt V (by omega)
  obtain ⟨t, ht⟩ : ∃ t, t = V / yn1 * yn1 := ⟨_, rfl⟩
  refine ⟨V / yn1, V % yn1, t, rfl, Go.Proofs.Mul64.wrapN _ (by omega), ?_, ?_, hS, by omega⟩
  · rw [Go.Proofs.Mul64.mulN, ← ht]; exact Go.Proofs.Mul64.wrapN _ (by omega)
  · rw [← ht] at hqrt
    rw [show (V : Int) - (t : Int) = ((V % yn1 : Nat) : Int) by omega]
    exact Go.Proofs.Mul64.wrapN _ (by omega)
theorem quo_facts {q q0 Q : Nat} (h1 : q < 4294967296) (h2 : q0 < 4294967296) (e : q * 4294967296 + q0 = Q) : ∃ B1 : Nat, IntKind.u64.wrap ((q : Int) * 4294967296) = (B1 : Int) ∧ IntKind.u64.wrap ((B1 : Int) + (q0 : Int)) = (Q : Int) := by
  refine ⟨q * 4294967296, ?_, ?_⟩
  · rw [IntKind.wrap_u64]; omega
  · rw [IntKind.wrap_u64]; omega
theorem shr_cast (R s : Nat) : (R : Int) / 2 ^ s = ((R / 2 ^ s : Nat) : Int) := by rw [Int.natCast_ediv, Int.natCast_pow]; rfl
set_option maxHeartbeats 4000000 in
set_option maxRecDepth 100000 in
theorem Div64_big (h l y : Nat) (hy2 : y < 18446744073709551616) (hh : h < y) (h0 : 0 < h) (hl : l < 18446744073709551616) (w : World) :
    Calls Try.prog 41 #[.int .u64 h, .int .u64 l, .int .u64 y] w fun e w' => e = .returned (.tuple #[.int .u64 (((h * 18446744073709551616 + l) / y : Nat) : Int), .int .u64 (((h * 18446744073709551616 + l) % y : Nat) : Int)]) ∧ ∃ x, w' = gx w x := by
  obtain ⟨hb1, hb2, hb3⟩ := norm64 (y := y) (by omega) hy2
  have e1 : ((y : Int) == 0) = false := by rw [beq_eq_false_iff_ne]; omega
  have e2 : decide ((y : Int) ≤ (h : Int)) = false := decide_eq_false (by omega)
  have e2' : decide (y ≤ h) = false := decide_eq_false (by omega)
  have e3 : ((h : Int) == 0) = false := by rw [beq_eq_false_iff_ne]; omega
  have hlz := Lib.hid (fun W => LeadingZeros64_any (y : Int) W (by omega) (by omega))
  obtain ⟨s, hs⟩ : ∃ s : Nat, (64 - (Lib.bitLen ((y : Int)).toNat : Int)) = (s : Int) ∧ s = 64 - Lib.bitLen y := ⟨64 - Lib.bitLen y, by rw [Int.toNat_natCast]; omega, rfl⟩
  rw [hs.1] at hlz
  rw [← hs.2] at hb2 hb3
  have hs2 : s ≤ 64 := by omega
  clear hs hb1
  obtain ⟨Y, yn1, yn0, H, L1, U, LL, u1, u0, D⟩ := div_setup hs2 hb2 hb3 hh hl
  have HD := Lib.hid D
  obtain ⟨z1, z2, z3, z4, z5, z6, z7, z8, z9⟩ := D.zs
  have hyn : ((yn1 : Int) == 0) = false := by have := D.b1; rw [beq_eq_false_iff_ne]; omega
  have hyn2 : ¬ yn1 = 0 := by have := D.b1; omega
  have hyn3 : ¬ (yn1 : Int) = 0 := by omega
  obtain ⟨q, hq⟩ : ∃ q, q = U / yn1 := ⟨_, rfl⟩
  obtain ⟨r, hr⟩ : ∃ r, r = U % yn1 := ⟨_, rfl⟩
  obtain ⟨t, ht⟩ : ∃ t, t = q * yn1 := ⟨_, rfl⟩
  have hqrt : t + r = U := by rw [ht, hq, hr, Nat.mul_comm]; exact Nat.div_add_mod U yn1
  have hUb : U < 18446744073709551616 := by have := D.bU; have := D.bY; omega
  have g1 : (U : Int).tdiv (yn1 : Int) = (q : Int) := by rw [hq]; rfl
  have hqU : q ≤ U := by rw [hq]; exact Nat.div_le_self _ _
  have g2 : IntKind.u64.wrap (q : Int) = (q : Int) := Go.Proofs.Mul64.wrapN _ (by omega)
  have g3 : IntKind.u64.wrap ((q : Int) * (yn1 : Int)) = (t : Int) := by rw [Go.Proofs.Mul64.mulN, ← ht]; exact Go.Proofs.Mul64.wrapN _ (by omega)
  have g4 : IntKind.u64.wrap ((U : Int) - (t : Int)) = (r : Int) := by rw [show (U : Int) - (t : Int) = (r : Int) by omega]; exact Go.Proofs.Mul64.wrapN _ (by omega)
  have hS := Lib.hid (show DivAt 4294967296 yn1 yn0 U u1 q r by rw [hq, hr]; exact DivAt.start (by omega) D.b3 (by have := D.b1; omega) (by rw [D.sumY]; exact D.bU) D.c1)
  have hrb : r < 4294967296 := by have := Nat.mod_lt U (show 0 < yn1 by omega); have := D.b2; omega
  clear hq hr ht
  clear D hb2 hb3
  go_enter Try.func41, Try.ntmps41
  go_wp2_with (go_at_call 50; refine (hlz.out _).mono ?_; rintro e w' ⟨rfl, rfl⟩)
  have HN := HD
  have hUYu1 : U < Y := HD.out.bU
  go_loopw [15, 16] (fun a c wr => ∃ q r : Nat, a = .int .u64 q ∧ c = .int .u64 r ∧ DivAt 4294967296 yn1 yn0 U u1 q r ∧ r < 4294967296 ∧ w = wr) (fun a _ _ => (intOf a).toNat)
  case atStart => exact ⟨_, _, rfl, rfl, hS.out, hrb, rfl⟩
  case round =>
    obtain ⟨qa, ra, rfl, rfl, hD', hrr, rfl⟩ := hrel
    have HD' := Lib.hid hD'
    obtain ⟨P, Rb, Rs, eP, eR, m1, m2, m3⟩ := loop_facts hD' hrr HN.out.b3 HN.out.c1
    have hmost := hD'.most
    have hyb := HN.out.bY
    have hb2 := HN.out.b2
    clear hD'
    by_cases hc : 4294967296 ≤ qa ∨ Rs < P
    · obtain ⟨h0', hdn⟩ := HD'.out.down (by rw [HN.out.sumY]; omega) (by rw [HN.out.sumY]; exact hUYu1) HN.out.c1 (by rw [← eP, ← eR]; exact hc)
      obtain ⟨q', hq'⟩ : ∃ q', qa = q' + 1 := ⟨qa - 1, by omega⟩
      rw [show qa - 1 = q' by omega] at hdn
      have HDN := Lib.hid hdn
      have hcases : decide ((4294967296 : Int) ≤ (qa : Int)) = true ∨ (decide ((4294967296 : Int) ≤ (qa : Int)) = false ∧ decide ((Rs : Int) < (P : Int)) = true ∧ decide (Rs < P) = true) := by
        simp only [decide_eq_true_eq, decide_eq_false_iff_not]; omega
      have m4 : IntKind.u64.wrap ((qa : Int) - 1) = (q' : Int) := by rw [IntKind.wrap_u64]; omega
      obtain ⟨r2, hr2⟩ : ∃ r2, r2 = ra + yn1 := ⟨_, rfl⟩
      have m5 : IntKind.u64.wrap ((ra : Int) + (yn1 : Int)) = (r2 : Int) := by rw [IntKind.wrap_u64]; omega
      rw [← hr2] at HDN
      have Hq' := Lib.hid hq'
      have hq'b : q' ≤ 4294967296 := by omega
      clear hdn hc eP eR HD' h0' hq' hr2
      by_cases hbr : 4294967296 ≤ r2
      · have dbr : decide ((4294967296 : Int) ≤ (r2 : Int)) = true := decide_eq_true (by omega)
        have hdig := Lib.hid (HDN.out.is (by rw [HN.out.sumY]; omega) (HDN.out.far HN.out.b3 hq'b hbr))
        clear hbr hq'b hmost hrr
        rcases hcases with d1 | ⟨d1, d2, d3⟩
        all_goals
          have hd1 := hdig.out
          rw [HN.out.sumY] at hd1
          have hq1b : q' < 4294967296 := by
            have := DivAt.digit (b := 4294967296) (yn1 := yn1) (yn0 := yn0) (u := U) (u1 := u1) (by rw [HN.out.sumY]; omega) (by rw [HN.out.sumY]; exact hUYu1) HN.out.c1
            rw [HN.out.sumY, ← hd1] at this
            exact this
          obtain ⟨V, hV⟩ : ∃ V, V = (U * 4294967296 + u1) % Y := ⟨_, rfl⟩
          have hUYu0 : V < Y := by rw [hV]; exact Nat.mod_lt _ (by omega)
          obtain ⟨A1, A2, A3, n1, n2, n3, n4⟩ := sub_mod (U := U) (u1 := u1) (q := q') (Y := Y) (V := V) (by rw [hV, hd1, Nat.mul_comm _ Y]; exact (Nat.div_add_mod _ Y).symm) (by omega)
          obtain ⟨q0, r0, t0, g5, g6, g7, g8, hS0, hrb0⟩ := digit_facts HN.out.sumY HN.out.bY HN.out.b1 HN.out.b2 HN.out.b3 hUYu0 HN.out.c0
          have HS0 := Lib.hid hS0
          have HQ1 := Lib.hid hd1
          have HV := Lib.hid hV
          clear hd1 hV hS0 hdig
          go_wp2
          go_loopw [18, 16] (fun a c wr => ∃ q r : Nat, a = .int .u64 q ∧ c = .int .u64 r ∧ DivAt 4294967296 yn1 yn0 V u0 q r ∧ r < 4294967296 ∧ w = wr) (fun a _ _ => (intOf a).toNat)
          case atStart => exact ⟨_, _, rfl, rfl, HS0.out, hrb0, rfl⟩
          case round =>
            obtain ⟨qb, rb, rfl, rfl, hD', hrr, rfl⟩ := hrel
            have HD' := Lib.hid hD'
            obtain ⟨P, Rb, Rs, eP, eR, m1, m2, m3⟩ := loop_facts hD' hrr HN.out.b3 HN.out.c0
            have hmost := hD'.most
            have hyb := HN.out.bY
            have hb2 := HN.out.b2
            clear hD'
            by_cases hc : 4294967296 ≤ qb ∨ Rs < P
            · obtain ⟨h0', hdn⟩ := HD'.out.down (by rw [HN.out.sumY]; omega) (by rw [HN.out.sumY]; exact hUYu0) HN.out.c0 (by rw [← eP, ← eR]; exact hc)
              obtain ⟨qe, hqe⟩ : ∃ qe, qb = qe + 1 := ⟨qb - 1, by omega⟩
              rw [show qb - 1 = qe by omega] at hdn
              have HDN := Lib.hid hdn
              have hcases : decide ((4294967296 : Int) ≤ (qb : Int)) = true ∨ (decide ((4294967296 : Int) ≤ (qb : Int)) = false ∧ decide ((Rs : Int) < (P : Int)) = true ∧ decide (Rs < P) = true) := by
                simp only [decide_eq_true_eq, decide_eq_false_iff_not]; omega
              have m4 : IntKind.u64.wrap ((qb : Int) - 1) = (qe : Int) := by rw [IntKind.wrap_u64]; omega
              obtain ⟨r2, hr2⟩ : ∃ r2, r2 = rb + yn1 := ⟨_, rfl⟩
              have m5 : IntKind.u64.wrap ((rb : Int) + (yn1 : Int)) = (r2 : Int) := by rw [IntKind.wrap_u64]; omega
              rw [← hr2] at HDN
              have Hqe := Lib.hid hqe
              have hqeb : qe ≤ 4294967296 := by omega
              clear hdn hc eP eR HD' h0' hqe hr2
              by_cases hbr : 4294967296 ≤ r2
              · have dbr : decide ((4294967296 : Int) ≤ (r2 : Int)) = true := decide_eq_true (by omega)
                have hdig0 := Lib.hid (HDN.out.is (by rw [HN.out.sumY]; omega) (HDN.out.far HN.out.b3 hqeb hbr))
                clear hbr hqeb hmost hrr
                rcases hcases with d1 | ⟨d1, d2, d3⟩
                all_goals
                  have e0 := hdig0.out
                  rw [HN.out.sumY] at e0
                  have hq0b : qe < 4294967296 := by
                    have := DivAt.digit (b := 4294967296) (yn1 := yn1) (yn0 := yn0) (u := V) (u1 := u0) (by rw [HN.out.sumY]; omega) (by rw [HN.out.sumY]; exact hUYu0) HN.out.c0
                    rw [HN.out.sumY, ← e0] at this
                    exact this
                  obtain ⟨QQ, hQQ⟩ : ∃ QQ, QQ = (h * 18446744073709551616 + l) / y := ⟨_, rfl⟩
                  obtain ⟨RR, hRR⟩ : ∃ RR, RR = (h * 18446744073709551616 + l) % y := ⟨_, rfl⟩
                  obtain ⟨R, hR⟩ : ∃ R, R = (V * 4294967296 + u0) % Y := ⟨_, rfl⟩
                  have f1 := HN.out.fin1
                  have f2 := HN.out.fin2
                  rw [← HQ1.out, ← HV.out, ← e0, ← hQQ] at f1
                  rw [← HV.out, ← hR, ← hRR] at f2
                  have hRY : R < Y := by rw [hR]; exact Nat.mod_lt _ (by omega)
                  obtain ⟨B1, k1, k2⟩ := quo_facts hq1b hq0b f1
                  obtain ⟨C1, C2, C3, k3, k4, k5, k6⟩ := sub_mod (U := V) (u1 := u0) (q := qe) (Y := Y) (V := R) (by rw [hR, e0, Nat.mul_comm _ Y]; exact (Nat.div_add_mod _ Y).symm) (by omega)
                  have k7 : (R : Int) / 2 ^ s = (RR : Int) := by rw [shr_cast, f2]
                  have HQQ := Lib.hid hQQ
                  have HRR := Lib.hid hRR
                  clear e0 hQQ hRR hR f1 f2 hRY hq0b hq1b
                  go_wp2
                  go_ret2
                  exact ⟨by rw [← HQQ.out, ← HRR.out]; try rfl, Gx.refl _⟩
              · have dbr : decide ((4294967296 : Int) ≤ (r2 : Int)) = false := decide_eq_false (by omega)
                have Hbr := Lib.hid hbr
                clear hbr hqeb hmost hrr
                rcases hcases with d1 | ⟨d1, d2, d3⟩
                all_goals
                  go_wp2
                  go_roundw
                  case rel => exact ⟨qe, r2, by first | rfl | go_num, by first | rfl | go_num, HDN.out, by have := Hbr.out; omega, by first | rfl | trivial⟩
                  case measure => have := Hqe.out; simp [intOf]; omega
            · have d1 : decide ((4294967296 : Int) ≤ (qb : Int)) = false := decide_eq_false (by omega)
              have d2 : decide ((Rs : Int) < (P : Int)) = false := decide_eq_false (by omega)
              have d3 : decide (Rs < P) = false := decide_eq_false (by omega)
              have hdig0 := Lib.hid (HD'.out.is (by rw [HN.out.sumY]; omega) (by rw [← eP, ← eR]; omega))
              clear hc HD' eP eR
              have e0 := hdig0.out
              rw [HN.out.sumY] at e0
              have hq0b : qb < 4294967296 := by
                have := DivAt.digit (b := 4294967296) (yn1 := yn1) (yn0 := yn0) (u := V) (u1 := u0) (by rw [HN.out.sumY]; omega) (by rw [HN.out.sumY]; exact hUYu0) HN.out.c0
                rw [HN.out.sumY, ← e0] at this
                exact this
              obtain ⟨QQ, hQQ⟩ : ∃ QQ, QQ = (h * 18446744073709551616 + l) / y := ⟨_, rfl⟩
              obtain ⟨RR, hRR⟩ : ∃ RR, RR = (h * 18446744073709551616 + l) % y := ⟨_, rfl⟩
              obtain ⟨R, hR⟩ : ∃ R, R = (V * 4294967296 + u0) % Y := ⟨_, rfl⟩
              have f1 := HN.out.fin1
              have f2 := HN.out.fin2
              rw [← HQ1.out, ← HV.out, ← e0, ← hQQ] at f1
              rw [← HV.out, ← hR, ← hRR] at f2
              have hRY : R < Y := by rw [hR]; exact Nat.mod_lt _ (by omega)
              obtain ⟨B1, k1, k2⟩ := quo_facts hq1b hq0b f1
              obtain ⟨C1, C2, C3, k3, k4, k5, k6⟩ := sub_mod (U := V) (u1 := u0) (q := qb) (Y := Y) (V := R) (by rw [hR, e0, Nat.mul_comm _ Y]; exact (Nat.div_add_mod _ Y).symm) (by omega)
              have k7 : (R : Int) / 2 ^ s = (RR : Int) := by rw [shr_cast, f2]
              have HQQ := Lib.hid hQQ
              have HRR := Lib.hid hRR
              clear e0 hQQ hRR hR f1 f2 hRY hq0b hq1b
              go_wp2
              go_ret2
              exact ⟨by rw [← HQQ.out, ← HRR.out]; try rfl, Gx.refl _⟩
      · have dbr : decide ((4294967296 : Int) ≤ (r2 : Int)) = false := decide_eq_false (by omega)
        have Hbr := Lib.hid hbr
        clear hbr hq'b hmost hrr
        rcases hcases with d1 | ⟨d1, d2, d3⟩
        all_goals
          go_wp2
          go_roundw
          case rel => exact ⟨q', r2, by first | rfl | go_num, by first | rfl | go_num, HDN.out, by have := Hbr.out; omega, by first | rfl | trivial⟩
          case measure => have := Hq'.out; simp [intOf]; omega
    · have d1 : decide ((4294967296 : Int) ≤ (qa : Int)) = false := decide_eq_false (by omega)
      have d2 : decide ((Rs : Int) < (P : Int)) = false := decide_eq_false (by omega)
      have d3 : decide (Rs < P) = false := decide_eq_false (by omega)
      have hdig := Lib.hid (HD'.out.is (by rw [HN.out.sumY]; omega) (by rw [← eP, ← eR]; omega))
      clear hc HD' eP eR
      have hd1 := hdig.out
      rw [HN.out.sumY] at hd1
      have hq1b : qa < 4294967296 := by
        have := DivAt.digit (b := 4294967296) (yn1 := yn1) (yn0 := yn0) (u := U) (u1 := u1) (by rw [HN.out.sumY]; omega) (by rw [HN.out.sumY]; exact hUYu1) HN.out.c1
        rw [HN.out.sumY, ← hd1] at this
        exact this
      obtain ⟨V, hV⟩ : ∃ V, V = (U * 4294967296 + u1) % Y := ⟨_, rfl⟩
      have hUYu0 : V < Y := by rw [hV]; exact Nat.mod_lt _ (by omega)
      obtain ⟨A1, A2, A3, n1, n2, n3, n4⟩ := sub_mod (U := U) (u1 := u1) (q := qa) (Y := Y) (V := V) (by rw [hV, hd1, Nat.mul_comm _ Y]; exact (Nat.div_add_mod _ Y).symm) (by omega)
      obtain ⟨q0, r0, t0, g5, g6, g7, g8, hS0, hrb0⟩ := digit_facts HN.out.sumY HN.out.bY HN.out.b1 HN.out.b2 HN.out.b3 hUYu0 HN.out.c0
      have HS0 := Lib.hid hS0
      have HQ1 := Lib.hid hd1
      have HV := Lib.hid hV
      clear hd1 hV hS0 hdig
      go_wp2
      go_loopw [18, 16] (fun a c wr => ∃ q r : Nat, a = .int .u64 q ∧ c = .int .u64 r ∧ DivAt 4294967296 yn1 yn0 V u0 q r ∧ r < 4294967296 ∧ w = wr) (fun a _ _ => (intOf a).toNat)
      case atStart => exact ⟨_, _, rfl, rfl, HS0.out, hrb0, rfl⟩
      case round =>
        obtain ⟨qb, rb, rfl, rfl, hD', hrr, rfl⟩ := hrel
        have HD' := Lib.hid hD'
        obtain ⟨P, Rb, Rs, eP, eR, m1, m2, m3⟩ := loop_facts hD' hrr HN.out.b3 HN.out.c0
        have hmost := hD'.most
        have hyb := HN.out.bY
        have hb2 := HN.out.b2
        clear hD'
        by_cases hc : 4294967296 ≤ qb ∨ Rs < P
        · obtain ⟨h0', hdn⟩ := HD'.out.down (by rw [HN.out.sumY]; omega) (by rw [HN.out.sumY]; exact hUYu0) HN.out.c0 (by rw [← eP, ← eR]; exact hc)
          obtain ⟨qe, hqe⟩ : ∃ qe, qb = qe + 1 := ⟨qb - 1, by omega⟩
          rw [show qb - 1 = qe by omega] at hdn
          have HDN := Lib.hid hdn
          have hcases : decide ((4294967296 : Int) ≤ (qb : Int)) = true ∨ (decide ((4294967296 : Int) ≤ (qb : Int)) = false ∧ decide ((Rs : Int) < (P : Int)) = true ∧ decide (Rs < P) = true) := by
            simp only [decide_eq_true_eq, decide_eq_false_iff_not]; omega
          have m4 : IntKind.u64.wrap ((qb : Int) - 1) = (qe : Int) := by rw [IntKind.wrap_u64]; omega
          obtain ⟨r2, hr2⟩ : ∃ r2, r2 = rb + yn1 := ⟨_, rfl⟩
          have m5 : IntKind.u64.wrap ((rb : Int) + (yn1 : Int)) = (r2 : Int) := by rw [IntKind.wrap_u64]; omega
          rw [← hr2] at HDN
          have Hqe := Lib.hid hqe
          have hqeb : qe ≤ 4294967296 := by omega
          clear hdn hc eP eR HD' h0' hqe hr2
          by_cases hbr : 4294967296 ≤ r2
          · have dbr : decide ((4294967296 : Int) ≤ (r2 : Int)) = true := decide_eq_true (by omega)
            have hdig0 := Lib.hid (HDN.out.is (by rw [HN.out.sumY]; omega) (HDN.out.far HN.out.b3 hqeb hbr))
            clear hbr hqeb hmost hrr
            rcases hcases with d1 | ⟨d1, d2, d3⟩
            all_goals
              have e0 := hdig0.out
              rw [HN.out.sumY] at e0
              have hq0b : qe < 4294967296 := by
                have := DivAt.digit (b := 4294967296) (yn1 := yn1) (yn0 := yn0) (u := V) (u1 := u0) (by rw [HN.out.sumY]; omega) (by rw [HN.out.sumY]; exact hUYu0) HN.out.c0
                rw [HN.out.sumY, ← e0] at this
                exact this
              obtain ⟨QQ, hQQ⟩ : ∃ QQ, QQ = (h * 18446744073709551616 + l) / y := ⟨_, rfl⟩
              obtain ⟨RR, hRR⟩ : ∃ RR, RR = (h * 18446744073709551616 + l) % y := ⟨_, rfl⟩
              obtain ⟨R, hR⟩ : ∃ R, R = (V * 4294967296 + u0) % Y := ⟨_, rfl⟩
              have f1 := HN.out.fin1
              have f2 := HN.out.fin2
              rw [← HQ1.out, ← HV.out, ← e0, ← hQQ] at f1
              rw [← HV.out, ← hR, ← hRR] at f2
              have hRY : R < Y := by rw [hR]; exact Nat.mod_lt _ (by omega)
              obtain ⟨B1, k1, k2⟩ := quo_facts hq1b hq0b f1
              obtain ⟨C1, C2, C3, k3, k4, k5, k6⟩ := sub_mod (U := V) (u1 := u0) (q := qe) (Y := Y) (V := R) (by rw [hR, e0, Nat.mul_comm _ Y]; exact (Nat.div_add_mod _ Y).symm) (by omega)
              have k7 : (R : Int) / 2 ^ s = (RR : Int) := by rw [shr_cast, f2]
              have HQQ := Lib.hid hQQ
              have HRR := Lib.hid hRR
              clear e0 hQQ hRR hR f1 f2 hRY hq0b hq1b
              go_wp2
              go_ret2
              exact ⟨by rw [← HQQ.out, ← HRR.out]; try rfl, Gx.refl _⟩
          · have dbr : decide ((4294967296 : Int) ≤ (r2 : Int)) = false := decide_eq_false (by omega)
            have Hbr := Lib.hid hbr
            clear hbr hqeb hmost hrr
            rcases hcases with d1 | ⟨d1, d2, d3⟩
            all_goals
              go_wp2
              go_roundw
              case rel => exact ⟨qe, r2, by first | rfl | go_num, by first | rfl | go_num, HDN.out, by have := Hbr.out; omega, by first | rfl | trivial⟩
              case measure => have := Hqe.out; simp [intOf]; omega
        · have d1 : decide ((4294967296 : Int) ≤ (qb : Int)) = false := decide_eq_false (by omega)
          have d2 : decide ((Rs : Int) < (P : Int)) = false := decide_eq_false (by omega)
          have d3 : decide (Rs < P) = false := decide_eq_false (by omega)
          have hdig0 := Lib.hid (HD'.out.is (by rw [HN.out.sumY]; omega) (by rw [← eP, ← eR]; omega))
          clear hc HD' eP eR
          have e0 := hdig0.out
          rw [HN.out.sumY] at e0
          have hq0b : qb < 4294967296 := by
            have := DivAt.digit (b := 4294967296) (yn1 := yn1) (yn0 := yn0) (u := V) (u1 := u0) (by rw [HN.out.sumY]; omega) (by rw [HN.out.sumY]; exact hUYu0) HN.out.c0
            rw [HN.out.sumY, ← e0] at this
            exact this
          obtain ⟨QQ, hQQ⟩ : ∃ QQ, QQ = (h * 18446744073709551616 + l) / y := ⟨_, rfl⟩
          obtain ⟨RR, hRR⟩ : ∃ RR, RR = (h * 18446744073709551616 + l) % y := ⟨_, rfl⟩
          obtain ⟨R, hR⟩ : ∃ R, R = (V * 4294967296 + u0) % Y := ⟨_, rfl⟩
          have f1 := HN.out.fin1
          have f2 := HN.out.fin2
          rw [← HQ1.out, ← HV.out, ← e0, ← hQQ] at f1
          rw [← HV.out, ← hR, ← hRR] at f2
          have hRY : R < Y := by rw [hR]; exact Nat.mod_lt _ (by omega)
          obtain ⟨B1, k1, k2⟩ := quo_facts hq1b hq0b f1
          obtain ⟨C1, C2, C3, k3, k4, k5, k6⟩ := sub_mod (U := V) (u1 := u0) (q := qb) (Y := Y) (V := R) (by rw [hR, e0, Nat.mul_comm _ Y]; exact (Nat.div_add_mod _ Y).symm) (by omega)
          have k7 : (R : Int) / 2 ^ s = (RR : Int) := by rw [shr_cast, f2]
          have HQQ := Lib.hid hQQ
          have HRR := Lib.hid hRR
          clear e0 hQQ hRR hR f1 f2 hRY hq0b hq1b
          go_wp2
          go_ret2
          exact ⟨by rw [← HQQ.out, ← HRR.out]; try rfl, Gx.refl _⟩
end Go.Proofs.Ytlnbadjjgbecgaa
