/-
  between of the reference: the loop over the solid samples.
-/
import Derived.Test.YtlnbadjjgbecgaaSBtw2
namespace Go.Proofs.Ytlnbadjjgbecgaa
open Go.RowKit
-- AT2
-- AT3

theorem cell_keep_drew {w : World} {a : Addr} {v : Value} (h : w.cell? a = some v) : w.drew.cell? a = some v := h
theorem one_cell {wr : World} {b o : Nat} {p u : Value} (c : wr.cell? ⟨b, o, none⟩ = some u) : (wr.setCell ⟨b, o, none⟩ p).cell? ⟨b, o, none⟩ = some p := World.cell?_setCell_same _ _ _ c
theorem two_cells {wr : World} {b : Nat} {p q u v : Value} (c0 : wr.cell? ⟨b, 0, none⟩ = some u) (c1 : wr.cell? ⟨b, 1, none⟩ = some v) :
    ((wr.setCell ⟨b, 0, none⟩ p).setCell ⟨b, 1, none⟩ q).cell? ⟨b, 0, none⟩ = some p ∧ ((wr.setCell ⟨b, 0, none⟩ p).setCell ⟨b, 1, none⟩ q).cell? ⟨b, 1, none⟩ = some q :=
  ⟨(World.cell?_setCell_other _ _ _ _ (by simp)).trans (World.cell?_setCell_same _ _ _ c0), World.cell?_setCell_same _ _ _ ((World.cell?_setCell_other _ _ _ _ (by simp)).trans c1)⟩
set_option maxHeartbeats 8000000 in
set_option maxRecDepth 100000 in
theorem rbetween_core (den : Int) (g : Nat → Sm) (n c : Nat) (A : Option Addr) (a l : Int) (L : List Nat) (hLn : ∀ i ∈ L, i < n) (hlen : L.length ≤ 20000) (w : World) (rN rD : Int) (rB rF : Bool) (hL : SmAt w g n A)
    (hT : Hid (∀ i, i < n → -1099511627776 ≤ (g i).t ∧ (g i).t ≤ 1099511627776))
    (H1 : Hid (∀ W, (∃ y, W = gx ((w.alloc (.cells #[.int .i64 den, .slice A n c] 24)).alloc (.cells #[.int .i64 0, .int .i64 0] 31)) y) → Calls Try.prog 35 #[serV den A n c] W fun e w' => ∃ A' c' x, e = .returned (.slice A' L.length c') ∧ w' = gx W x ∧ Own W.heap.size w' 3 1 (.slice A' L.length c') L.length (numI L)))
    (E0 : Hid (fstN g L a = L.length → rN = 0 ∧ rD = 0 ∧ rB = false ∧ rF = true))
    (E1 : Hid (∀ k, k < L.length → fstN g L a = k → (g (L.getD k 0)).t = a → rN = (g (L.getD k 0)).n ∧ rD = 1 ∧ rB = true ∧ rF = true))
    (E2 : Hid (0 < L.length → fstN g L a = 0 → (g (L.getD 0 0)).t ≠ a → rN = 0 ∧ rD = 0 ∧ rB = false ∧ rF = true))
    (E3 : Hid (∀ j, j + 1 < L.length → fstN g L a = j + 1 → (g (L.getD (j + 1) 0)).t ≠ a → l < (g (L.getD (j + 1) 0)).t - (g (L.getD j 0)).t → rN = 0 ∧ rD = 0 ∧ rB = false ∧ rF = true))
    (E4 : Hid (∀ j, j + 1 < L.length → fstN g L a = j + 1 → (g (L.getD (j + 1) 0)).t ≠ a → (g (L.getD (j + 1) 0)).t - (g (L.getD j 0)).t ≤ l → ∃ (v1 v2 v3 : Value) (P Q : Int), IntKind.i64.wrap ((g (L.getD (j + 1) 0)).t - a) = P ∧ IntKind.i64.wrap (a - (g (L.getD j 0)).t) = Q ∧
      (∀ W, Calls Try.prog 29 #[.int .i64 (g (L.getD j 0)).n, .int .i64 P] W fun e w' => e = .returned v1 ∧ ∃ x, w' = gx W x) ∧
      (∀ W, Calls Try.prog 29 #[.int .i64 (g (L.getD (j + 1) 0)).n, .int .i64 Q] W fun e w' => e = .returned v2 ∧ ∃ x, w' = gx W x) ∧
      (∀ W, Calls Try.prog 28 #[v1, v2] W fun e w' => e = .returned v3 ∧ ∃ x, w' = gx W x) ∧
      (∀ W, Calls Try.prog 30 #[v3, .int .i64 ((g (L.getD (j + 1) 0)).t - (g (L.getD j 0)).t)] W fun e w' => e = .returned (.tuple #[ratV rN rD, .bool rF]) ∧ ∃ x, w' = gx W x) ∧ rB = rF)) :
    Calls Try.prog 22 #[serV den A n c, .int .i64 a, .int .i64 l] w fun e w' => e = .returned (.tuple #[ratV rN rD, .bool rB, .bool rF]) ∧ ∃ x, w' = gx w x := by
  obtain ⟨q, hq⟩ : ∃ q, q = L.length := ⟨_, rfl⟩
  have HQ := Lib.hid hq
  have hq1 : q ≤ 20000 := by omega
  rw [← hq] at H1 E0 E1 E2 E3 E4
  clear hq hlen
  go_enter Try.func22, Try.ntmps22
  go_wp2_with (go_at_call 35; refine (H1.out _ (by repeat (first | (with_reducible exact Gx.refl _) | (with_reducible assumption) | (with_reducible refine Gx.gx ?_) | (with_reducible refine Gx.alloc ?_) | (with_reducible refine Gx.drew ?_) | (with_reducible refine Gx.drewN ?_) | (with_reducible refine Gx.setRow ?_ (by first | omega | (simp; done) | (simp <;> omega))) | (with_reducible refine Gx.setCell ?_ (by first | omega | (simp; done) | (simp <;> omega)))))).mono ?_; rintro e w' ⟨A2, c2, x2, rfl, hW2, hO2⟩; have hX2 : ∃ y, w' = gx ((w.alloc (.cells #[.int .i64 den, .slice A n c] 24)).alloc (.cells #[.int .i64 0, .int .i64 0] 31)) y := (by rw [hW2]; exact (by repeat (first | (with_reducible exact Gx.refl _) | (with_reducible assumption) | (with_reducible refine Gx.gx ?_) | (with_reducible refine Gx.alloc ?_) | (with_reducible refine Gx.drew ?_) | (with_reducible refine Gx.drewN ?_) | (with_reducible refine Gx.setRow ?_ (by first | omega | (simp; done) | (simp <;> omega))) | (with_reducible refine Gx.setCell ?_ (by first | omega | (simp; done) | (simp <;> omega)))))); clear hW2)
  have S1 : At w' w.heap.size (.cells #[.int .i64 den, .slice A n c] 24 (0, 0)) := by
    obtain ⟨y, rfl⟩ := hX2
    exact At.gx (At.alloc (At.new _ _))
  have R1 : At w' (w.heap.size + 1) (.cells #[.int .i64 0, .int .i64 0] 31 (0, 0)) := by
    obtain ⟨y, rfl⟩ := hX2
    exact At.gx (At.new' (by simp))
  have hX : ∃ y, w' = gx w y := by obtain ⟨y, rfl⟩ := hX2; exact (by repeat (first | (with_reducible exact Gx.refl _) | (with_reducible assumption) | (with_reducible refine Gx.gx ?_) | (with_reducible refine Gx.alloc ?_) | (with_reducible refine Gx.drew ?_) | (with_reducible refine Gx.drewN ?_) | (with_reducible refine Gx.setRow ?_ (by first | omega | (simp; done) | (simp <;> omega))) | (with_reducible refine Gx.setCell ?_ (by first | omega | (simp; done) | (simp <;> omega)))))
  have hS : SmAt w' g n A := by obtain ⟨y, rfl⟩ := hX; exact hL.gx
  have hNm : 0 < L.length → ∃ gS, A2 = some ⟨gS, 0, none⟩ ∧ NumAt w' L gS := fun h0 => by rw [HQ.out] at hO2; exact num_cells hO2 h0
  have HX := Lib.hid hX
  clear hX2 hO2 hX
  go_loopw [10] (fun i wr => ∃ k : Nat, k ≤ q ∧ i = .int .i64 k ∧ Hid (∀ j, j < k → (g (L.getD j 0)).t < a) ∧ ∃ x, wr = gx w' x) (fun i _ => q - (intOf i).toNat)
  case atStart => exact ⟨0, Nat.zero_le _, rfl, fun j hj => by omega, Gx.refl _⟩
  case round =>
    obtain ⟨k, hk, rfl, HJ, x, rfl⟩ := hrel
    have R2 : At (gx w' x) (w.heap.size + 1) (.cells #[.int .i64 0, .int .i64 0] 31 (0, 0)) := R1.gx
    have hXg : ∃ y, gx w' x = gx w y := Gx.gx HX.out
    have HXG := Lib.hid hXg
    have HXG' : Hid (∃ y, gx w' x = gx w' y) := ⟨x, rfl⟩
    clear hXg
    by_cases hlt : k < q
    · have hkz : (k : Int) < (q : Int) := by omega
      obtain ⟨gS, rfl, hNA⟩ := hNm (by rw [← HQ.out]; omega)
      have d0 := (hNA.onx (x := x)) k (by rw [← HQ.out]; exact hlt)
      have hqn : L.getD k 0 < n := by
        refine hLn _ ?_
        have hk' : k < L.length := by rw [← HQ.out]; exact hlt
        simp [List.getD, hk']
      have hqz : ((L.getD k 0 : Nat) : Int) < (n : Int) := by omega
      obtain ⟨b, o, rfl, hbw, HC⟩ := (hS.gx (x := x)).get (by omega)
      obtain ⟨d1, d2, d3⟩ := HC.out _ hqn
      have s1 : (gx w' x).cell? ⟨w.heap.size, 1, none⟩ = some (.slice (some ⟨b, o, none⟩) n c) := by rw [cell_of_row _ _ _ _ _ _ (S1.gx (x := x))]; rfl
      have lS : gS < (gx w' x).heap.size := World.block_lt_of_cell? _ _ d0
      have lw : w.heap.size < (gx w' x).heap.size := World.block_lt_of_cell? _ _ s1
      have lr : w.heap.size + 1 < (gx w' x).heap.size := R2.lt
      have DP : Hid (∀ j, j < k → (gx w' x).cell? ⟨gS, j, none⟩ = some (.int .i64 ((L.getD j 0 : Nat) : Int)) ∧ L.getD j 0 < n ∧ (gx w' x).cell? ⟨b, o + L.getD j 0 * 3, none⟩ = some (.int .i64 (g (L.getD j 0)).t) ∧ (gx w' x).cell? ⟨b, o + L.getD j 0 * 3 + 1, none⟩ = some (.int .i64 (g (L.getD j 0)).n) ∧ (gx w' x).cell? ⟨b, o + L.getD j 0 * 3 + 2, none⟩ = some (.int .i64 (g (L.getD j 0)).m)) := fun j hj => by
        have hj' : j < L.length := by rw [← HQ.out]; omega
        have hjn : L.getD j 0 < n := hLn _ (by simp [List.getD, hj'])
        exact ⟨(hNA.onx (x := x)) j hj', hjn, HC.out _ hjn⟩
      generalize hwr : gx w' x = wr at *
      clear hwr
      have c0 : wr.cell? ⟨w.heap.size + 1, 0, none⟩ = some (.int .i64 0) := by rw [cell_of_row wr _ _ _ _ _ R2]; rfl
      have c1 : wr.cell? ⟨w.heap.size + 1, 1, none⟩ = some (.int .i64 0) := by rw [cell_of_row wr _ _ _ _ _ R2]; rfl
      have z0 : wr.frozen? ⟨w.heap.size + 1, 0, none⟩ = false := R2.frz
      have z1 : wr.frozen? ⟨w.heap.size + 1, 1, none⟩ = false := R2.frz
      have HR := Lib.hid R2
      clear R2 hNA
      by_cases ht : (g (L.getD k 0)).t = a
      · have HE := Lib.hid (E1.out k hlt (fstN_uniq (by rw [← HQ.out]; omega) HJ.out (fun _ => by omega)) ht)
        clear HJ E0 E1 E2 E3 E4 hNm HC R1 S1 hS
        rw [ht] at d1
        generalize (g (L.getD k 0)).n = xn at *
        generalize (g (L.getD k 0)).m = xm at *
        generalize L.getD k 0 = q0 at *
        go_wp2
        go_region
        go_wp2
        obtain ⟨e1, e2, e3, e4⟩ := HE.out
        rw [e1, e2, e3, e4]
        exact bodyPost_ret (v := .tuple #[ratV xn 1, .bool true, .bool true]) (by simp [results, Try.results22, go_sem, cell_keep_alloc (two_cells c0 c1).1, cell_keep_alloc (two_cells c0 c1).2]) rfl ⟨rfl, by have hx := HXG.out; exact (by repeat (first | (with_reducible exact Gx.refl _) | (with_reducible assumption) | (with_reducible refine Gx.gx ?_) | (with_reducible refine Gx.alloc ?_) | (with_reducible refine Gx.drew ?_) | (with_reducible refine Gx.drewN ?_) | (with_reducible refine Gx.setRow ?_ (by first | omega | (simp; done) | (simp <;> omega))) | (with_reducible refine Gx.setCell ?_ (by first | omega | (simp; done) | (simp <;> omega)))))⟩
      · have hne' : ((g (L.getD k 0)).t == a) = false := by rw [beq_eq_false_iff_ne]; exact ht
        by_cases hb : (g (L.getD k 0)).t < a
        · have N1 : Hid (∀ j, j < k + 1 → (g (L.getD j 0)).t < a) := fun j hj => by
            rcases Nat.lt_or_ge j k with h | h
            · exact HJ.out j h
            · obtain rfl : j = k := by omega
              exact hb
          have hb' : decide ((g (L.getD k 0)).t < a) = true := decide_eq_true hb
          clear HJ E0 E1 E2 E3 E4 hNm HC R1 S1 hS ht hb
          generalize (g (L.getD k 0)).t = xt at d1 hne' hb'
          generalize (g (L.getD k 0)).n = xn at d2
          generalize (g (L.getD k 0)).m = xm at d3
          generalize L.getD k 0 = q0 at d0 d1 d2 d3 hqn hqz
          go_wp2
          go_region
          go_wp2
          go_roundw
          case rel => exact ⟨k + 1, by omega, by go_num, N1, by have hx := HXG'.out; exact (by repeat (first | (with_reducible exact Gx.refl _) | (with_reducible assumption) | (with_reducible refine Gx.gx ?_) | (with_reducible refine Gx.alloc ?_) | (with_reducible refine Gx.drew ?_) | (with_reducible refine Gx.drewN ?_) | (with_reducible refine Gx.setRow ?_ (by first | omega | (simp; done) | (simp <;> omega))) | (with_reducible refine Gx.setCell ?_ (by first | omega | (simp; done) | (simp <;> omega)))))⟩
          case measure => simp [intOf]; omega
        · have hb' : decide ((g (L.getD k 0)).t < a) = false := decide_eq_false hb
          have hf := fstN_uniq (show k ≤ L.length by rw [← HQ.out]; omega) HJ.out (fun _ => by omega)
          rcases Nat.eq_zero_or_pos k with h0 | h0
          · subst h0
            have HE := Lib.hid (E2.out hlt hf ht)
            clear HJ E0 E1 E2 E3 E4 hNm HC R1 S1 hS ht hb hf
            generalize (g (L.getD 0 0)).t = xt at *
            generalize (g (L.getD 0 0)).n = xn at *
            generalize (g (L.getD 0 0)).m = xm at *
            generalize L.getD 0 0 = q0 at *
            go_wp2
            go_region
            go_wp2
            obtain ⟨e1, e2, e3, e4⟩ := HE.out
            rw [e1, e2, e3, e4]
            exact bodyPost_ret (v := .tuple #[ratV 0 0, .bool false, .bool true]) (by simp [results, Try.results22, go_sem, c0, c1, cell_keep_alloc (two_cells c0 c1).1, cell_keep_alloc (two_cells c0 c1).2]) rfl ⟨rfl, by have hx := HXG.out; exact (by repeat (first | (with_reducible exact Gx.refl _) | (with_reducible assumption) | (with_reducible refine Gx.gx ?_) | (with_reducible refine Gx.alloc ?_) | (with_reducible refine Gx.drew ?_) | (with_reducible refine Gx.drewN ?_) | (with_reducible refine Gx.setRow ?_ (by first | omega | (simp; done) | (simp <;> omega))) | (with_reducible refine Gx.setCell ?_ (by first | omega | (simp; done) | (simp <;> omega)))))⟩
          · obtain ⟨j, rfl⟩ : ∃ j, k = j + 1 := ⟨k - 1, by omega⟩
            obtain ⟨f0, hjn, f1, f2, f3⟩ := DP.out j (by omega)
            have hjz : (j : Int) < (q : Int) := by omega
            have hjk : (j : Int) + 1 < (q : Int) := by omega
            have hyz : ((L.getD j 0 : Nat) : Int) < (n : Int) := by omega
            have e1 : IntKind.i64.wrap ((j : Int) + 1 - 1) = (j : Int) := by rw [IntKind.wrap_i64]; omega
            have b1 := hT.out _ hqn
            have b2 := hT.out _ hjn
            have e2 : IntKind.i64.wrap ((g (L.getD (j + 1) 0)).t - (g (L.getD j 0)).t) = (g (L.getD (j + 1) 0)).t - (g (L.getD j 0)).t := by rw [IntKind.wrap_i64]; omega
            have hj0 : decide ((j : Int) + 1 = 0) = false := decide_eq_false (by omega)
            have hj1 : ((j : Int) + 1 == 0) = false := by rw [beq_eq_false_iff_ne]; omega
            have hj2 : ¬ ((j : Int) + 1 = 0) := by omega
            by_cases hfar : l < (g (L.getD (j + 1) 0)).t - (g (L.getD j 0)).t
            · have HE := Lib.hid (E3.out j hlt hf ht hfar)
              have hl : decide (l < (g (L.getD (j + 1) 0)).t - (g (L.getD j 0)).t) = true := decide_eq_true hfar
              clear HJ E0 E1 E2 E3 E4 hNm HC R1 S1 hS ht hb hf DP b1 b2 hfar
              generalize (g (L.getD (j + 1) 0)).t = xt at *
              generalize (g (L.getD (j + 1) 0)).n = xn at *
              generalize (g (L.getD (j + 1) 0)).m = xm at *
              generalize (g (L.getD j 0)).t = yt at *
              generalize (g (L.getD j 0)).n = yn at *
              generalize (g (L.getD j 0)).m = ym at *
              generalize L.getD (j + 1) 0 = q0 at *
              generalize L.getD j 0 = q1 at *
              go_wp2
              go_region
              go_wp2
              go_region
              go_wp2
              obtain ⟨e1, e2, e3, e4⟩ := HE.out
              rw [e1, e2, e3, e4]
              exact bodyPost_ret (v := .tuple #[ratV 0 0, .bool false, .bool true]) (by simp [results, Try.results22, go_sem, c0, c1, cell_keep_alloc (cell_keep_alloc (two_cells c0 c1).1), cell_keep_alloc (cell_keep_alloc (two_cells c0 c1).2)]) rfl ⟨rfl, by have hx := HXG.out; exact (by repeat (first | (with_reducible exact Gx.refl _) | (with_reducible assumption) | (with_reducible refine Gx.gx ?_) | (with_reducible refine Gx.alloc ?_) | (with_reducible refine Gx.drew ?_) | (with_reducible refine Gx.drewN ?_) | (with_reducible refine Gx.setRow ?_ (by first | omega | (simp; done) | (simp <;> omega))) | (with_reducible refine Gx.setCell ?_ (by first | omega | (simp; done) | (simp <;> omega)))))⟩
            · obtain ⟨v1, v2, v3, P, Q, k1, k2, K1, K2, K3, K4, rfl⟩ := E4.out j hlt hf ht (by omega)
              have hl : decide (l < (g (L.getD (j + 1) 0)).t - (g (L.getD j 0)).t) = false := decide_eq_false hfar
              have M1 := Lib.hid K1
              have M2 := Lib.hid K2
              have M3 := Lib.hid K3
              have M4 := Lib.hid K4
              clear HJ E0 E1 E2 E3 E4 hNm HC R1 S1 hS ht hb hf DP b1 b2 hfar K1 K2 K3 K4
              generalize (g (L.getD (j + 1) 0)).t = xt at *
              generalize (g (L.getD (j + 1) 0)).n = xn at *
              generalize (g (L.getD (j + 1) 0)).m = xm at *
              generalize (g (L.getD j 0)).t = yt at *
              generalize (g (L.getD j 0)).n = yn at *
              generalize (g (L.getD j 0)).m = ym at *
              generalize L.getD (j + 1) 0 = q0 at *
              generalize L.getD j 0 = q1 at *
              go_wp2
              go_region
              go_wp2
              go_region
              go_wp2
              obtain ⟨Wb, hWb⟩ : ∃ Wb, Wb = ((wr.alloc (.cells #[.int .i64 xt, .int .i64 xn, .int .i64 xm] 26)).alloc (.cells #[.int .i64 yt, .int .i64 yn, .int .i64 ym] 26)).drew.drew := ⟨_, rfl⟩
              rw [← hWb]
              have X1 : At Wb wr.heap.size (.cells #[.int .i64 xt, .int .i64 xn, .int .i64 xm] 26 (0, 0)) := by rw [hWb]; exact At.drew (At.drew (At.alloc (At.new _ _)))
              have X2 : At Wb (wr.heap.size + 1) (.cells #[.int .i64 yt, .int .i64 yn, .int .i64 ym] 26 (0, 0)) := by rw [hWb]; exact At.drew (At.drew (At.new' (by simp)))
              have RB : At Wb (w.heap.size + 1) (.cells #[.int .i64 0, .int .i64 0] 31 (0, 0)) := by rw [hWb]; exact At.drew (At.drew (At.alloc (At.alloc HR.out)))
              have GB : ∃ y, Wb = gx w y := by rw [hWb]; have hx := HXG.out; exact (by repeat (first | (with_reducible exact Gx.refl _) | (with_reducible assumption) | (with_reducible refine Gx.gx ?_) | (with_reducible refine Gx.alloc ?_) | (with_reducible refine Gx.drew ?_) | (with_reducible refine Gx.drewN ?_) | (with_reducible refine Gx.setRow ?_ (by first | omega | (simp; done) | (simp <;> omega))) | (with_reducible refine Gx.setCell ?_ (by first | omega | (simp; done) | (simp <;> omega)))))
              have u0 : Wb.cell? ⟨wr.heap.size, 0, none⟩ = some (.int .i64 xt) := by rw [cell_of_row Wb _ _ _ _ _ X1]; rfl
              have u1 : Wb.cell? ⟨wr.heap.size, 1, none⟩ = some (.int .i64 xn) := by rw [cell_of_row Wb _ _ _ _ _ X1]; rfl
              have u2 : Wb.cell? ⟨wr.heap.size + 1, 0, none⟩ = some (.int .i64 yt) := by rw [cell_of_row Wb _ _ _ _ _ X2]; rfl
              have u3 : Wb.cell? ⟨wr.heap.size + 1, 1, none⟩ = some (.int .i64 yn) := by rw [cell_of_row Wb _ _ _ _ _ X2]; rfl
              have c0 : Wb.cell? ⟨w.heap.size + 1, 0, none⟩ = some (.int .i64 0) := by rw [cell_of_row Wb _ _ _ _ _ RB]; rfl
              have c1 : Wb.cell? ⟨w.heap.size + 1, 1, none⟩ = some (.int .i64 0) := by rw [cell_of_row Wb _ _ _ _ _ RB]; rfl
              have z0 : Wb.frozen? ⟨w.heap.size + 1, 0, none⟩ = false := RB.frz
              have z1 : Wb.frozen? ⟨w.heap.size + 1, 1, none⟩ = false := RB.frz
              have lr : w.heap.size + 1 < Wb.heap.size := RB.lt
              clear hWb X1 X2
              go_region_held3 (fun W => (∃ x, W = gx Wb x) ∧ W.cell? ⟨wr.heap.size, 0, none⟩ = some (.int .i64 xt) ∧ W.cell? ⟨wr.heap.size, 1, none⟩ = some (.int .i64 xn) ∧ W.cell? ⟨wr.heap.size + 1, 0, none⟩ = some (.int .i64 yt) ∧ W.cell? ⟨wr.heap.size + 1, 1, none⟩ = some (.int .i64 yn) ∧ W.cell? ⟨w.heap.size + 1, 0, none⟩ = some (.int .i64 0) ∧ W.cell? ⟨w.heap.size + 1, 1, none⟩ = some (.int .i64 0) ∧ W.frozen? ⟨w.heap.size + 1, 0, none⟩ = false ∧ W.frozen? ⟨w.heap.size + 1, 1, none⟩ = false ∧ At W (w.heap.size + 1) (.cells #[.int .i64 0, .int .i64 0] 31 (0, 0)))
                (refine ⟨(by repeat (first | (with_reducible exact Gx.refl _) | (with_reducible assumption) | (with_reducible refine Gx.gx ?_) | (with_reducible refine Gx.alloc ?_) | (with_reducible refine Gx.drew ?_) | (with_reducible refine Gx.drewN ?_) | (with_reducible refine Gx.setRow ?_ (by first | omega | (simp; done) | (simp <;> omega))) | (with_reducible refine Gx.setCell ?_ (by first | omega | (simp; done) | (simp <;> omega))))), ?_, ?_, ?_, ?_, ?_, ?_, ?_, ?_, ?_⟩ <;> first | ((focus (repeat (first | (with_reducible assumption) | (with_reducible refine cell_keep_gx ?_) | (with_reducible refine cell_keep_alloc ?_) | (with_reducible refine cell_keep_drew ?_)))); done) | (with_reducible refine At.frz (cs := #[.int .i64 0, .int .i64 0]) (t := 31) ?_; (focus (repeat (first | (with_reducible assumption) | (with_reducible exact At.new _ _) | (with_reducible refine At.row ?_) | ((with_reducible refine At.row_other ?_ ?_); rotate_left; (focus (simp <;> omega))) | (with_reducible refine At.app ?_) | (with_reducible refine At.tick ?_) | (with_reducible refine At.gx ?_) | ((with_reducible refine At.new' ?_); focus (simp; done)) | (with_reducible refine At.alloc ?_) | (with_reducible refine At.drew ?_) | (with_reducible exact Is.new _ _ _) | (with_reducible refine Is.row ?_) | ((with_reducible refine Is.row_other ?_ ?_); rotate_left; (focus (simp <;> omega))) | (with_reducible refine Is.gx ?_) | ((with_reducible refine Is.new' ?_); focus (simp; done)) | (with_reducible refine Is.alloc ?_) | (with_reducible refine Is.drew ?_)))); done) | ((focus (repeat (first | (with_reducible assumption) | (with_reducible exact At.new _ _) | (with_reducible refine At.row ?_) | ((with_reducible refine At.row_other ?_ ?_); rotate_left; (focus (simp <;> omega))) | (with_reducible refine At.app ?_) | (with_reducible refine At.tick ?_) | (with_reducible refine At.gx ?_) | ((with_reducible refine At.new' ?_); focus (simp; done)) | (with_reducible refine At.alloc ?_) | (with_reducible refine At.drew ?_) | (with_reducible exact Is.new _ _ _) | (with_reducible refine Is.row ?_) | ((with_reducible refine Is.row_other ?_ ?_); rotate_left; (focus (simp <;> omega))) | (with_reducible refine Is.gx ?_) | ((with_reducible refine Is.new' ?_); focus (simp; done)) | (with_reducible refine Is.alloc ?_) | (with_reducible refine Is.drew ?_)))); done))
                (first | (go_at_call 29; with_reducible refine (M1.out _).mono ?_; rintro e w' ⟨rfl, y, rfl⟩) | (go_at_call 29; with_reducible refine (M2.out _).mono ?_; rintro e w' ⟨rfl, y, rfl⟩) | (go_at_call 28; with_reducible refine (M3.out _).mono ?_; rintro e w' ⟨rfl, y, rfl⟩) | (go_at_call 30; with_reducible refine (M4.out _).mono ?_; rintro e w' ⟨rfl, y, rfl⟩))
              all_goals go_wp2
              all_goals
                refine bodyPost_ret (v := .tuple #[ratV rN rD, .bool rB, .bool rB]) ?_ rfl ⟨rfl, ?_⟩
                rotate_left
                · have hx := GB; exact (by repeat (first | (with_reducible exact Gx.refl _) | (with_reducible assumption) | (with_reducible refine Gx.gx ?_) | (with_reducible refine Gx.alloc ?_) | (with_reducible refine Gx.drew ?_) | (with_reducible refine Gx.drewN ?_) | (with_reducible refine Gx.setRow ?_ (by first | omega | (simp; done) | (simp <;> omega))) | (with_reducible refine Gx.setCell ?_ (by first | omega | (simp; done) | (simp <;> omega)))))
                first
                  | (simp [results, Try.results22, go_sem, cell_keep_alloc (cell_keep_gx ((two_cells c0 c1).1)), cell_keep_alloc (cell_keep_gx ((two_cells c0 c1).2)), cell_keep_gx (cell_keep_alloc (cell_keep_gx ((two_cells c0 c1).1))), cell_keep_gx (cell_keep_alloc (cell_keep_gx ((two_cells c0 c1).2))), cell_keep_gx (cell_keep_alloc ((two_cells c0 c1).1)), cell_keep_gx (cell_keep_alloc ((two_cells c0 c1).2)), cell_keep_gx ((two_cells c0 c1).1), cell_keep_gx ((two_cells c0 c1).2)]; done)
                  | (simp [results, Try.results22, go_sem, (two_cells (cell_keep_gx (cell_keep_alloc (cell_keep_gx c0))) (cell_keep_gx (cell_keep_alloc (cell_keep_gx c1)))).1, (two_cells (cell_keep_gx (cell_keep_alloc (cell_keep_gx c0))) (cell_keep_gx (cell_keep_alloc (cell_keep_gx c1)))).2, (two_cells (cell_keep_gx (cell_keep_alloc c0)) (cell_keep_gx (cell_keep_alloc c1))).1, (two_cells (cell_keep_gx (cell_keep_alloc c0)) (cell_keep_gx (cell_keep_alloc c1))).2, (two_cells (cell_keep_alloc (cell_keep_gx c0)) (cell_keep_alloc (cell_keep_gx c1))).1, (two_cells (cell_keep_alloc (cell_keep_gx c0)) (cell_keep_alloc (cell_keep_gx c1))).2, one_cell (cell_keep_gx (cell_keep_alloc (cell_keep_gx c0))), one_cell (cell_keep_gx (cell_keep_alloc (cell_keep_gx c1))), one_cell (cell_keep_gx (cell_keep_alloc c0)), one_cell (cell_keep_gx (cell_keep_alloc c1)), one_cell (cell_keep_alloc (cell_keep_gx c0)), one_cell (cell_keep_alloc (cell_keep_gx c1))]; done)
    · obtain rfl : k = q := by omega
      have HE := Lib.hid (E0.out (fstN_uniq (by rw [← HQ.out]; omega) HJ.out (fun h => by rw [← HQ.out] at h; omega)))
      clear HJ E0 E1 E2 E3 E4
      generalize gx w' x = wr at *
      have c0 : wr.cell? ⟨w.heap.size + 1, 0, none⟩ = some (.int .i64 0) := by rw [cell_of_row wr _ _ _ _ _ R2]; rfl
      have c1 : wr.cell? ⟨w.heap.size + 1, 1, none⟩ = some (.int .i64 0) := by rw [cell_of_row wr _ _ _ _ _ R2]; rfl
      have z0 : wr.frozen? ⟨w.heap.size + 1, 0, none⟩ = false := R2.frz
      have z1 : wr.frozen? ⟨w.heap.size + 1, 1, none⟩ = false := R2.frz
      have lr : w.heap.size + 1 < wr.heap.size := R2.lt
      clear R2
      go_wp2
      obtain ⟨e1, e2, e3, e4⟩ := HE.out
      rw [e1, e2, e3, e4]
      exact bodyPost_ret (v := .tuple #[ratV 0 0, .bool false, .bool true]) (by simp [results, Try.results22, go_sem, c0, c1, cell_keep_alloc (two_cells c0 c1).1, cell_keep_alloc (two_cells c0 c1).2]) rfl ⟨rfl, by have hx := HXG.out; exact (by repeat (first | (with_reducible exact Gx.refl _) | (with_reducible assumption) | (with_reducible refine Gx.gx ?_) | (with_reducible refine Gx.alloc ?_) | (with_reducible refine Gx.drew ?_) | (with_reducible refine Gx.drewN ?_) | (with_reducible refine Gx.setRow ?_ (by first | omega | (simp; done) | (simp <;> omega))) | (with_reducible refine Gx.setCell ?_ (by first | omega | (simp; done) | (simp <;> omega)))))⟩
end Go.Proofs.Ytlnbadjjgbecgaa
