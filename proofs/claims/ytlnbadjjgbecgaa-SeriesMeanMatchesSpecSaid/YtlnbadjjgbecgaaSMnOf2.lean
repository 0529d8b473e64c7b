/-
  meanOf of the program: the walk.
-/
import Derived.Test.YtlnbadjjgbecgaaSMnOf
namespace Go.Proofs.Ytlnbadjjgbecgaa
open Go.RowKit
-- AT2
-- AT3

theorem two_cells' {wr : World} {b : Nat} {p q u v : Value} (c0 : wr.cell? ⟨b, 0, none⟩ = some u) (c1 : wr.cell? ⟨b, 1, none⟩ = some v) :
    ((wr.setCell ⟨b, 0, none⟩ p).setCell ⟨b, 1, none⟩ q).cell? ⟨b, 0, none⟩ = some p ∧ ((wr.setCell ⟨b, 0, none⟩ p).setCell ⟨b, 1, none⟩ q).cell? ⟨b, 1, none⟩ = some q :=
  ⟨(World.cell?_setCell_other _ _ _ _ (by simp)).trans (World.cell?_setCell_same _ _ _ c0), World.cell?_setCell_same _ _ _ ((World.cell?_setCell_other _ _ _ _ (by simp)).trans c1)⟩
theorem one_elem {x : Int × Nat} (T : Int) : whL T [x] = x.1 / T * x.2 ∧ lfL T [x] = x.1 % T * x.2 := by
  constructor
  · show x.1 / T * x.2 + 0 = _; omega
  · show x.1 % T * x.2 + 0 = _; omega
set_option maxHeartbeats 8000000 in
set_option maxRecDepth 100000 in
theorem meanOf_any (L : List (Int × Nat)) (T c : Nat) (A : Option Addr) (w : World) (hT : 0 < T) (hT2 : T ≤ 1073741824) (hs : SmallL L) (ht : sumT L ≤ T) (hlen : L.length ≤ 20000) (hb : 0 < L.length → ∃ b o, A = some ⟨b, o, none⟩ ∧ MnAt w L b o)
    (p q : Int) (ok : Bool) (hok : Hid ((lowN (sumS L) T).natAbs ≤ 4611686018427387904 → p = lowN (sumS L) T ∧ q = lowD (sumS L) T ∧ ok = true)) (hno : Hid (¬ (lowN (sumS L) T).natAbs ≤ 4611686018427387904 → p = 0 ∧ q = 0 ∧ ok = false)) :
    Calls Try.prog 26 #[.slice A L.length c, .int .i64 T] w fun e w' => e = .returned (.tuple #[ratV p q, .bool ok]) ∧ ∃ x, w' = gx w x := by
  obtain ⟨n, hn⟩ : ∃ n, n = L.length := ⟨_, rfl⟩
  have HN := Lib.hid hn
  rw [← hn] at hlen hb ⊢
  clear hn
  have t0 : ((T : Int) == 0) = false := by rw [beq_eq_false_iff_ne]; omega
  have t1 : ¬ (T : Int) = 0 := by omega
  go_enter Try.func26, Try.ntmps26
  go_wp2
  go_loopw [14, 6, 7] (fun i u v wr => ∃ k : Nat, k ≤ n ∧ i = .int .i64 k ∧ u = .int .i64 (whL T (L.take k)) ∧ v = .int .i64 (lfL T (L.take k)) ∧ (∃ x, wr = gx w x) ∧ At wr w.heap.size (.cells #[.int .i64 0, .int .i64 0] 31 (0, 0))) (fun i _ _ _ => n - (intOf i).toNat)
  case atStart => exact ⟨0, Nat.zero_le _, rfl, rfl, rfl, (by repeat (first | (with_reducible exact Gx.refl _) | (with_reducible assumption) | (with_reducible refine Gx.gx ?_) | (with_reducible refine Gx.alloc ?_) | (with_reducible refine Gx.drew ?_) | (with_reducible refine Gx.drewN ?_) | (with_reducible refine Gx.setRow ?_ (by first | omega | (simp; done) | (simp <;> omega))) | (with_reducible refine Gx.setCell ?_ (by first | omega | (simp; done) | (simp <;> omega))))), by (focus (repeat (first | (with_reducible assumption) | (with_reducible exact At.new _ _) | (with_reducible refine At.row ?_) | ((with_reducible refine At.row_other ?_ ?_); rotate_left; (focus (simp <;> omega))) | (with_reducible refine At.app ?_) | (with_reducible refine At.tick ?_) | (with_reducible refine At.gx ?_) | ((with_reducible refine At.new' ?_); focus (simp; done)) | (with_reducible refine At.alloc ?_) | (with_reducible refine At.drew ?_) | (with_reducible exact Is.new _ _ _) | (with_reducible refine Is.row ?_) | ((with_reducible refine Is.row_other ?_ ?_); rotate_left; (focus (simp <;> omega))) | (with_reducible refine Is.gx ?_) | ((with_reducible refine Is.new' ?_); focus (simp; done)) | (with_reducible refine Is.alloc ?_) | (with_reducible refine Is.drew ?_))))⟩
  case round =>
    obtain ⟨k, hk, rfl, rfl, rfl, hG, hA⟩ := hrel
    have HG := Lib.hid hG
    have HA := Lib.hid hA
    have l0 : w.heap.size < wr.heap.size := hA.lt
    obtain ⟨b1, b2, b3, b4⟩ := parts_small hT hT2 (L.take k) (hs.take k) (Nat.le_trans (sumT_take L k) ht)
    by_cases hlt : k < n
    · have hkz : (k : Int) < (n : Int) := by omega
      have hk' : k < L.length := by rw [← HN.out]; exact hlt
      obtain ⟨b, o, rfl, HS⟩ := hb (by omega)
      obtain ⟨x, hx⟩ := id hG
      obtain ⟨s1, s2⟩ := HS k hk'
      have d1 : wr.cell? ⟨b, o + k * 2, none⟩ = some (.int .i64 (L.get ⟨k, hk'⟩).1) := by rw [hx]; exact cell_keep_gx s1
      have d2 : wr.cell? ⟨b, o + k * 2 + 1, none⟩ = some (.int .i64 ((L.get ⟨k, hk'⟩).2 : Int)) := by rw [hx]; exact cell_keep_gx s2
      have hb0 : b < wr.heap.size := World.block_lt_of_cell? wr _ d1
      have hsx := hs _ (List.get_mem L ⟨k, hk'⟩)
      have hxt := ticks_one hk'
      have n1 := whL_app (T : Int) (L.take k) (L.get ⟨k, hk'⟩)
      have n2 := lfL_app (T : Int) (L.take k) (L.get ⟨k, hk'⟩)
      rw [← take_next L k hk'] at n1 n2
      obtain ⟨m1, m2, m3, m4⟩ := parts_small hT hT2 (L.take (k + 1)) (hs.take _) (Nat.le_trans (sumT_take L _) ht)
      obtain ⟨q1, q2, q3, q4⟩ := parts_small hT hT2 [L.get ⟨k, hk'⟩] (fun y hy => by obtain rfl := List.mem_singleton.1 hy; exact hsx) (by show (L.get ⟨k, hk'⟩).2 + 0 ≤ T; omega)
      rw [(one_elem (T : Int)).1] at q1 q2
      rw [(one_elem (T : Int)).2] at q3 q4
      have hF := fun W => floor_any (L.get ⟨k, hk'⟩).1 (T : Int) W (by omega) (by omega) (by omega)
      rw [fl_ediv (show (0 : Int) < T by omega)] at hF
      have r1 := Int.emod_nonneg (L.get ⟨k, hk'⟩).1 (show (T : Int) ≠ 0 by omega)
      have r2 := Int.emod_lt_of_pos (L.get ⟨k, hk'⟩).1 (show (0 : Int) < T by omega)
      have r3 := Int.emod_add_mul_ediv (L.get ⟨k, hk'⟩).1 (T : Int)
      rw [Int.mul_comm] at r3
      have N1 := Lib.hid n1
      have N2 := Lib.hid n2
      clear hx s1 s2 HS hG hA n1 n2
      generalize whL T (L.take k) = wh at *
      generalize lfL T (L.take k) = lf at *
      obtain ⟨wh2, hw2⟩ : ∃ z, whL T (L.take (k + 1)) = z := ⟨_, rfl⟩
      obtain ⟨lf2, hl2⟩ : ∃ z, lfL T (L.take (k + 1)) = z := ⟨_, rfl⟩
      have HW2 := Lib.hid hw2
      have HL2 := Lib.hid hl2
      rw [hw2] at N1 m1 m2
      rw [hl2] at N2 m3 m4
      clear hw2 hl2
      generalize L.get ⟨k, hk'⟩ = X at *
      clear hk'
      obtain ⟨xn, xt⟩ := X
      simp only at d1 d2 hsx hxt q1 q2 q3 q4 hF r1 r2 r3 N1 N2
      have HF := Lib.hid hF
      clear hF
      generalize xn / (T : Int) = fq at *
      generalize xn % (T : Int) = fr at *
      rw [N1.out] at m1 m2
      rw [N2.out] at m3 m4
      have n1 := N1.out
      have n2 := N2.out
      obtain ⟨p1, hp1⟩ : ∃ p1, fq * (xt : Int) = p1 := ⟨_, rfl⟩
      obtain ⟨p2, hp2⟩ : ∃ p2, fq * (T : Int) = p2 := ⟨_, rfl⟩
      obtain ⟨p3, hp3⟩ : ∃ p3, fr * (xt : Int) = p3 := ⟨_, rfl⟩
      rw [hp1] at m1 m2 n1 q1 q2
      rw [hp2] at r3
      rw [hp3] at m3 m4 n2 q3 q4
      have g1 : IntKind.i64.wrap (fq * (xt : Int)) = p1 := by rw [hp1, IntKind.wrap_i64]; omega
      have g2 : IntKind.i64.wrap (wh + p1) = wh2 := by rw [IntKind.wrap_i64]; omega
      have g3 : IntKind.i64.wrap (fq * (T : Int)) = p2 := by rw [hp2, IntKind.wrap_i64]; omega
      have g4 : IntKind.i64.wrap (xn - p2) = fr := by rw [IntKind.wrap_i64]; omega
      have g5 : IntKind.i64.wrap (fr * (xt : Int)) = p3 := by rw [hp3, IntKind.wrap_i64]; omega
      have g6 : IntKind.i64.wrap (lf + p3) = lf2 := by rw [IntKind.wrap_i64]; omega
      clear r1 r2 r3 q1 q2 q3 q4 m1 m2 m3 m4 b1 b2 b3 b4 hsx hxt N1 N2 n1 n2 hp1 hp2 hp3
      go_wp2_with (go_at_call 37; refine (HF.out _).mono ?_; rintro e w' ⟨rfl, rfl⟩)
      go_roundw
      case rel => exact ⟨k + 1, by omega, by go_num, by rw [HW2.out], by rw [HL2.out], by have hx := HG.out; exact (by repeat (first | (with_reducible exact Gx.refl _) | (with_reducible assumption) | (with_reducible refine Gx.gx ?_) | (with_reducible refine Gx.alloc ?_) | (with_reducible refine Gx.drew ?_) | (with_reducible refine Gx.drewN ?_) | (with_reducible refine Gx.setRow ?_ (by first | omega | (simp; done) | (simp <;> omega))) | (with_reducible refine Gx.setCell ?_ (by first | omega | (simp; done) | (simp <;> omega))))), by have ha := HA.out; (focus (repeat (first | (with_reducible assumption) | (with_reducible exact At.new _ _) | (with_reducible refine At.row ?_) | ((with_reducible refine At.row_other ?_ ?_); rotate_left; (focus (simp <;> omega))) | (with_reducible refine At.app ?_) | (with_reducible refine At.tick ?_) | (with_reducible refine At.gx ?_) | ((with_reducible refine At.new' ?_); focus (simp; done)) | (with_reducible refine At.alloc ?_) | (with_reducible refine At.drew ?_) | (with_reducible exact Is.new _ _ _) | (with_reducible refine Is.row ?_) | ((with_reducible refine Is.row_other ?_ ?_); rotate_left; (focus (simp <;> omega))) | (with_reducible refine Is.gx ?_) | ((with_reducible refine Is.new' ?_); focus (simp; done)) | (with_reducible refine Is.alloc ?_) | (with_reducible refine Is.drew ?_))))⟩
      case measure => simp [intOf]; omega
    · obtain rfl : k = n := by omega
      have eL : L.take k = L := by rw [HN.out]; exact List.take_length
      rw [eL] at b1 b2 b3 b4 ⊢
      have hS := parts_sum (T : Int) L
      have HS := Lib.hid hS
      generalize whL (T : Int) L = wh at *
      generalize lfL (T : Int) L = lf at *
      obtain ⟨c1, c2⟩ := mean_parts (show (0 : Int) < T by omega) hS b3
      have r1 := Int.tmod_nonneg (T : Int) b3
      have r2 := Int.tmod_lt_of_pos lf (show (0 : Int) < T by omega)
      obtain ⟨q1, q2⟩ := tdiv_bound (b := (T : Int)) 1152921504606846976 (by omega) b4
      have e1 : lf.tdiv (T : Int) = lf.tdiv (T : Int) := rfl
      obtain ⟨qq, hqq⟩ : ∃ qq, lf.tdiv (T : Int) = qq := ⟨_, rfl⟩
      obtain ⟨rr, hrr⟩ : ∃ rr, lf.tmod (T : Int) = rr := ⟨_, rfl⟩
      rw [hqq] at c1 q1 q2
      rw [hrr] at c1 c2 r1 r2
      have hlo := fun W => lowest_any rr T (by omega) hT (by omega) W
      obtain ⟨dd, hdd, d0, dT⟩ := lowD_nat rr hT
      have pn0 : 0 ≤ lowN rr T ∧ lowN rr T ≤ rr := by
        unfold lowN
        obtain ⟨z1, z2⟩ := tdiv_bound (b := (Int.gcd rr T : Int)) rr (by omega) (Int.le_refl _)
        exact ⟨Int.tdiv_nonneg r1 (by omega), z2⟩
      rw [hdd] at hlo c1 c2
      generalize lowN rr T = pn at *
      obtain ⟨W, hW⟩ : ∃ W, wh + qq = W := ⟨_, rfl⟩
      rw [hW] at c1
      have hbt := big_test (W := W) (p := pn) (d := (dd : Int)) (by omega) pn0.1 (by omega)
      rw [c1] at hbt
      have x0 : ((dd : Int) == 0) = false := by rw [beq_eq_false_iff_ne]; omega
      have x1 : ¬ (dd : Int) = 0 := by omega
      obtain ⟨v1, hv1⟩ : ∃ v1, (4611686018427387904 - pn).tdiv (dd : Int) = v1 := ⟨_, rfl⟩
      obtain ⟨v2, hv2⟩ : ∃ v2, (4611686018427387904 + pn).tdiv (dd : Int) = v2 := ⟨_, rfl⟩
      have w1 := tdiv_bound (a := 4611686018427387904 - pn) (b := (dd : Int)) 9223372036854775800 (by omega) (by omega)
      have w2 := tdiv_bound (a := 4611686018427387904 + pn) (b := (dd : Int)) 9223372036854775800 (by omega) (by omega)
      rw [hv1] at hbt w1
      rw [hv2] at hbt w2
      have f1 : IntKind.i64.wrap qq = qq := by rw [IntKind.wrap_i64]; omega
      have f2 : IntKind.i64.wrap (wh + qq) = W := by rw [hW]; rw [IntKind.wrap_i64]; omega
      have f3 : IntKind.i64.wrap rr = rr := by rw [IntKind.wrap_i64]; omega
      have f4 : IntKind.i64.wrap (4611686018427387904 - pn) = 4611686018427387904 - pn := by rw [IntKind.wrap_i64]; omega
      have f5 : IntKind.i64.wrap v1 = v1 := by rw [IntKind.wrap_i64]; omega
      have f6 : IntKind.i64.wrap (4611686018427387904 + pn) = 4611686018427387904 + pn := by rw [IntKind.wrap_i64]; omega
      have f7 : IntKind.i64.wrap v2 = v2 := by rw [IntKind.wrap_i64]; omega
      have f8 : IntKind.i64.wrap (-v2) = -v2 := by rw [IntKind.wrap_i64]; omega
      have HLo := Lib.hid hlo
      have pnT : pn ≤ 1073741824 := by omega
      have k0 : wr.cell? ⟨w.heap.size, 0, none⟩ = some (.int .i64 0) := by rw [cell_of_row wr _ _ _ _ _ hA]; rfl
      have k1 : wr.cell? ⟨w.heap.size, 1, none⟩ = some (.int .i64 0) := by rw [cell_of_row wr _ _ _ _ _ hA]; rfl
      have z0 : wr.frozen? ⟨w.heap.size, 0, none⟩ = false := hA.frz
      have z1 : wr.frozen? ⟨w.heap.size, 1, none⟩ = false := hA.frz
      clear hlo hS HS hG hA e1 b1 b2 b3 b4 q1 q2 r1 r2 hb hs
      by_cases hn1 : v1 < W
      · obtain ⟨rfl, rfl, rfl⟩ := hno.out (fun h => (hbt.2 h).1 hn1)
        have g1 : decide (v1 < W) = true := decide_eq_true hn1
        clear hok hno hbt c1 c2 w1 w2 pn0 pnT hn1 hW
        go_wp2_with (go_at_call 34; refine (HLo.out _).mono ?_; rintro e w' ⟨rfl, y, rfl⟩)
        exact bodyPost_ret (v := .tuple #[ratV 0 0, .bool false]) (by simp [results, Try.results26, go_sem, cell_keep_alloc (cell_keep_gx (two_cells' k0 k1).1), cell_keep_alloc (cell_keep_gx (two_cells' k0 k1).2)]) rfl ⟨rfl, by have hx := HG.out; exact (by repeat (first | (with_reducible exact Gx.refl _) | (with_reducible assumption) | (with_reducible refine Gx.gx ?_) | (with_reducible refine Gx.alloc ?_) | (with_reducible refine Gx.drew ?_) | (with_reducible refine Gx.drewN ?_) | (with_reducible refine Gx.setRow ?_ (by first | omega | (simp; done) | (simp <;> omega))) | (with_reducible refine Gx.setCell ?_ (by first | omega | (simp; done) | (simp <;> omega)))))⟩
      · have g1 : decide (v1 < W) = false := decide_eq_false hn1
        by_cases hn2 : W < -v2
        · obtain ⟨rfl, rfl, rfl⟩ := hno.out (fun h => (hbt.2 h).2 hn2)
          have g2 : decide (W < -v2) = true := decide_eq_true hn2
          clear hok hno hbt c1 c2 w1 w2 pn0 pnT hn1 hn2 hW
          go_wp2_with (go_at_call 34; refine (HLo.out _).mono ?_; rintro e w' ⟨rfl, y, rfl⟩)
          exact bodyPost_ret (v := .tuple #[ratV 0 0, .bool false]) (by simp [results, Try.results26, go_sem, cell_keep_alloc (cell_keep_gx (two_cells' k0 k1).1), cell_keep_alloc (cell_keep_gx (two_cells' k0 k1).2)]) rfl ⟨rfl, by have hx := HG.out; exact (by repeat (first | (with_reducible exact Gx.refl _) | (with_reducible assumption) | (with_reducible refine Gx.gx ?_) | (with_reducible refine Gx.alloc ?_) | (with_reducible refine Gx.drew ?_) | (with_reducible refine Gx.drewN ?_) | (with_reducible refine Gx.setRow ?_ (by first | omega | (simp; done) | (simp <;> omega))) | (with_reducible refine Gx.setCell ?_ (by first | omega | (simp; done) | (simp <;> omega)))))⟩
        · have hq := hbt.1 ⟨hn1, hn2⟩
          obtain ⟨e1, e2, rfl⟩ := hok.out hq
          have g2 : decide (W < -v2) = false := decide_eq_false hn2
          rw [← c1] at e1
          rw [← c2] at e2
          rw [← c1] at hq
          obtain ⟨m, hm⟩ : ∃ m, W * (dd : Int) = m := ⟨_, rfl⟩
          rw [hm] at e1 hq
          have g3 : IntKind.i64.wrap (W * (dd : Int)) = m := by rw [hm, IntKind.wrap_i64]; omega
          have g4 : IntKind.i64.wrap (m + pn) = p := by rw [e1, IntKind.wrap_i64]; omega
          subst e2
          clear hok hno hbt c1 c2 w1 w2 pn0 pnT hn1 hn2 hq hm hW e1 hdd
          go_wp2_with (go_at_call 34; refine (HLo.out _).mono ?_; rintro e w' ⟨rfl, y, rfl⟩)
          exact bodyPost_ret (v := .tuple #[ratV p dd, .bool true]) (by simp [results, Try.results26, go_sem, cell_keep_alloc (cell_keep_gx (two_cells' k0 k1).1), cell_keep_alloc (cell_keep_gx (two_cells' k0 k1).2)]) rfl ⟨rfl, by have hx := HG.out; exact (by repeat (first | (with_reducible exact Gx.refl _) | (with_reducible assumption) | (with_reducible refine Gx.gx ?_) | (with_reducible refine Gx.alloc ?_) | (with_reducible refine Gx.drew ?_) | (with_reducible refine Gx.drewN ?_) | (with_reducible refine Gx.setRow ?_ (by first | omega | (simp; done) | (simp <;> omega))) | (with_reducible refine Gx.setCell ?_ (by first | omega | (simp; done) | (simp <;> omega)))))⟩
end Go.Proofs.Ytlnbadjjgbecgaa
