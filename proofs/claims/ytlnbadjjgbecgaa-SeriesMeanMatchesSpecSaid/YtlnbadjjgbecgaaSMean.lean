/-
  Mean of the program.
-/
import Derived.Test.YtlnbadjjgbecgaaSMnOf2
namespace Go.Proofs.Ytlnbadjjgbecgaa
open Go.RowKit
-- AT2
-- AT3

set_option maxHeartbeats 8000000 in
set_option maxRecDepth 100000 in
theorem Mean_core (den : Int) (g : Nat → Sm) (n c : Nat) (A : Option Addr) (fr to lg : Int) (w : World) (hL : SmAt w g n A) (L : List (Int × Nat)) (T : Nat) (hT : Hid (T = sumT L)) (hT2 : T ≤ 1073741824) (hlen : L.length ≤ 20000)
    (r1 : decide (fr < 0) = false) (r2 : decide (to < fr) = false) (r3 : decide (1099511627776 < to) = false) (r4 : IntKind.i64.wrap (to - fr) = to - fr) (r5 : decide (1073741824 < to - fr) = false) (r6 : inB 0 1099511627776 lg = true)
    (H1 : Hid (∀ W, SmAt W g n A → Calls Try.prog 23 #[serV den A n c] W fun e w' => e = .returned (.int .i64 0) ∧ ∃ x, w' = gx W x))
    (H2 : Hid (∀ W, SmAt W g n A → Calls Try.prog 25 #[.slice A n c, .int .i64 fr, .int .i64 to, .int .i64 lg] W fun e w' => ∃ A' c' x, e = .returned (.slice A' L.length c') ∧ w' = gx W x ∧ Own W.heap.size w' 58 2 (.slice A' L.length c') L.length (mnC L)))
    (p q : Int) (ok : Bool)
    (H3 : Hid (0 < T → ∀ A' c' W, (0 < L.length → ∃ b o, A' = some ⟨b, o, none⟩ ∧ MnAt W L b o) → Calls Try.prog 26 #[.slice A' L.length c', .int .i64 T] W fun e w' => e = .returned (.tuple #[ratV p q, .bool ok]) ∧ ∃ x, w' = gx W x))
    (P Q R E : Int) (E0 : Hid (T = 0 → P = 0 ∧ Q = 0 ∧ R = 0 ∧ E = 13)) (E1 : Hid (0 < T → ok = true → P = p ∧ Q = q ∧ R = T ∧ E = 0)) (E2 : Hid (0 < T → ok = false → P = 0 ∧ Q = 0 ∧ R = 0 ∧ E = 3)) :
    Calls Try.prog 11 #[serV den A n c, .int .i64 fr, .int .i64 to, .int .i64 lg] w fun e w' => e = .returned (.tuple #[ratV P Q, .int .i64 R, .int .i64 E]) ∧ ∃ x, w' = gx w x := by
  obtain ⟨m, hm⟩ : ∃ m, m = L.length := ⟨_, rfl⟩
  have HM := Lib.hid hm
  rw [← hm] at hlen H2 H3
  clear hm
  go_enter Try.func11, Try.ntmps11
  go_wp2_with first
    | (go_at_call 23; refine (H1.out _ (by (repeat (first | (with_reducible exact hL) | (with_reducible refine SmAt.gx ?_) | (with_reducible refine SmAt.alloc ?_))))).mono ?_; rintro e w' ⟨rfl, x1, rfl⟩)
    | (go_at_call 24; refine (isTime_any _ _).mono ?_; rw [r6]; rintro e w' ⟨rfl, rfl⟩)
    | (go_at_call 25; refine (H2.out _ (by (repeat (first | (with_reducible exact hL) | (with_reducible refine SmAt.gx ?_) | (with_reducible refine SmAt.alloc ?_))))).mono ?_; rintro e w' ⟨A2, c2, x2, rfl, hW2, hO2⟩; have hX2 : (∃ y, w' = gx ((w.alloc (.cells #[.int .i64 den, .slice A n c] 24)).alloc (.cells #[.int .i64 0, .int .i64 0] 31)) y) := (by rw [hW2]; exact (by repeat (first | (with_reducible exact Gx.refl _) | (with_reducible assumption) | (with_reducible refine Gx.gx ?_) | (with_reducible refine Gx.alloc ?_) | (with_reducible refine Gx.drew ?_) | (with_reducible refine Gx.drewN ?_) | (with_reducible refine Gx.setRow ?_ (by first | omega | (simp; done) | (simp <;> omega))) | (with_reducible refine Gx.setCell ?_ (by first | omega | (simp; done) | (simp <;> omega)))))); clear hW2)
  have R1 : At w' (w.heap.size + 1) (.cells #[.int .i64 0, .int .i64 0] 31 (0, 0)) := by
    obtain ⟨y, rfl⟩ := hX2
    exact At.gx (At.new' (by simp))
  have hX : ∃ y, w' = gx w y := by obtain ⟨y, rfl⟩ := hX2; exact (by repeat (first | (with_reducible exact Gx.refl _) | (with_reducible assumption) | (with_reducible refine Gx.gx ?_) | (with_reducible refine Gx.alloc ?_) | (with_reducible refine Gx.drew ?_) | (with_reducible refine Gx.drewN ?_) | (with_reducible refine Gx.setRow ?_ (by first | omega | (simp; done) | (simp <;> omega))) | (with_reducible refine Gx.setCell ?_ (by first | omega | (simp; done) | (simp <;> omega)))))
  have hMn : 0 < L.length → ∃ b o, A2 = some ⟨b, o, none⟩ ∧ MnAt w' L b o := fun h0 => by rw [HM.out] at hO2; exact mn_cells hO2 h0
  have HX := Lib.hid hX
  clear hX2 hO2 hX hL
  go_loopw [55, 13] (fun i s wr => ∃ k : Nat, k ≤ m ∧ i = .int .i64 k ∧ s = .int .i64 (sumT (L.take k) : Int) ∧ ∃ x, wr = gx w' x) (fun i _ _ => m - (intOf i).toNat)
  case atStart => exact ⟨0, Nat.zero_le _, rfl, rfl, Gx.refl _⟩
  case round =>
    obtain ⟨k, hk, rfl, rfl, x, rfl⟩ := hrel
    have R2 : At (gx w' x) (w.heap.size + 1) (.cells #[.int .i64 0, .int .i64 0] 31 (0, 0)) := R1.gx
    have HXG : Hid (∃ y, gx w' x = gx w y) := Gx.gx HX.out
    have HXG' : Hid (∃ y, gx w' x = gx w' y) := ⟨x, rfl⟩
    have hle := sumT_take L k
    rw [← hT.out] at hle
    by_cases hlt : k < m
    · have hkz : (k : Int) < (m : Int) := by omega
      have hk' : k < L.length := by rw [← HM.out]; exact hlt
      obtain ⟨b, o, rfl, HS⟩ := hMn (by omega)
      obtain ⟨d1, d2⟩ := (HS.gx (x := x)) k hk'
      have hb0 : b < (gx w' x).heap.size := World.block_lt_of_cell? _ _ d1
      have n1 := sumT_app (L.take k) (L.get ⟨k, hk'⟩)
      rw [← take_next L k hk'] at n1
      have hle2 := sumT_take L (k + 1)
      rw [← hT.out] at hle2
      obtain ⟨s2, hs2⟩ : ∃ s, sumT (L.take (k + 1)) = s := ⟨_, rfl⟩
      have HS2 := Lib.hid hs2
      rw [hs2] at n1 hle2
      clear hs2 R2
      generalize sumT (L.take k) = s1 at *
      generalize L.get ⟨k, hk'⟩ = X at *
      clear hk'
      obtain ⟨xn, xt⟩ := X
      simp only at d1 d2 n1
      have g1 : IntKind.i64.wrap ((s1 : Int) + (xt : Int)) = (s2 : Int) := by rw [IntKind.wrap_i64]; omega
      generalize gx w' x = wr at *
      clear n1 hle hle2
      go_wp2
      go_roundw
      case rel => exact ⟨k + 1, by omega, by go_num, by rw [HS2.out], by have hx := HXG'.out; exact (by repeat (first | (with_reducible exact Gx.refl _) | (with_reducible assumption) | (with_reducible refine Gx.gx ?_) | (with_reducible refine Gx.alloc ?_) | (with_reducible refine Gx.drew ?_) | (with_reducible refine Gx.drewN ?_) | (with_reducible refine Gx.setRow ?_ (by first | omega | (simp; done) | (simp <;> omega))) | (with_reducible refine Gx.setCell ?_ (by first | omega | (simp; done) | (simp <;> omega)))))⟩
      case measure => simp [intOf]; omega
    · obtain rfl : k = m := by omega
      have eL : sumT (L.take k) = T := by rw [HM.out, List.take_length]; exact hT.out.symm
      rw [eL]
      have hMw : 0 < L.length → ∃ b o, A2 = some ⟨b, o, none⟩ ∧ MnAt (gx w' x) L b o := fun h0 => by
        obtain ⟨b, o, e, h⟩ := hMn h0
        exact ⟨b, o, e, h.gx⟩
      have HMW := Lib.hid hMw
      clear hMw hMn eL hle HXG' HX R1
      generalize gx w' x = wr at *
      have c0 : wr.cell? ⟨w.heap.size + 1, 0, none⟩ = some (.int .i64 0) := by rw [cell_of_row wr _ _ _ _ _ R2]; rfl
      have c1 : wr.cell? ⟨w.heap.size + 1, 1, none⟩ = some (.int .i64 0) := by rw [cell_of_row wr _ _ _ _ _ R2]; rfl
      have z0 : wr.frozen? ⟨w.heap.size + 1, 0, none⟩ = false := R2.frz
      have z1 : wr.frozen? ⟨w.heap.size + 1, 1, none⟩ = false := R2.frz
      have l1 : w.heap.size + 1 < wr.heap.size := R2.lt
      clear R2
      rcases Nat.eq_zero_or_pos T with h0 | h0
      · obtain ⟨rfl, rfl, rfl, rfl⟩ := E0.out h0
        subst h0
        clear E0 E1 E2 H3 HMW hT
        go_wp2
        exact bodyPost_ret (v := .tuple #[ratV 0 0, .int .i64 0, .int .i64 13]) (by simp [results, Try.results11, go_sem, c0, c1]) rfl ⟨rfl, by have hx := HXG.out; exact (by repeat (first | (with_reducible exact Gx.refl _) | (with_reducible assumption) | (with_reducible refine Gx.gx ?_) | (with_reducible refine Gx.alloc ?_) | (with_reducible refine Gx.drew ?_) | (with_reducible refine Gx.drewN ?_) | (with_reducible refine Gx.setRow ?_ (by first | omega | (simp; done) | (simp <;> omega))) | (with_reducible refine Gx.setCell ?_ (by first | omega | (simp; done) | (simp <;> omega)))))⟩
      · have q1 : ¬ (T : Int) = 0 := by omega
        have q2 : ((T : Int) == 0) = false := by rw [beq_eq_false_iff_ne]; omega
        have H4 := Lib.hid (H3.out h0)
        cases ok
        · obtain ⟨rfl, rfl, rfl, rfl⟩ := E2.out h0 rfl
          clear E0 E1 E2 H3 hT h0
          go_wp2_with (go_at_call 26; go_loud (refine (H4.out _ _ _ (by have h := HMW.out; rw [← HM.out] at h; exact h)).mono ?_; rintro e w1 ⟨rfl, y, rfl⟩))
          exact bodyPost_ret (v := .tuple #[ratV 0 0, .int .i64 0, .int .i64 3]) (by simp [results, Try.results11, go_sem, cell_keep_alloc (cell_keep_gx (two_cells' c0 c1).1), cell_keep_alloc (cell_keep_gx (two_cells' c0 c1).2)]) rfl ⟨rfl, by have hx := HXG.out; exact (by repeat (first | (with_reducible exact Gx.refl _) | (with_reducible assumption) | (with_reducible refine Gx.gx ?_) | (with_reducible refine Gx.alloc ?_) | (with_reducible refine Gx.drew ?_) | (with_reducible refine Gx.drewN ?_) | (with_reducible refine Gx.setRow ?_ (by first | omega | (simp; done) | (simp <;> omega))) | (with_reducible refine Gx.setCell ?_ (by first | omega | (simp; done) | (simp <;> omega)))))⟩
        · obtain ⟨rfl, rfl, rfl, rfl⟩ := E1.out h0 rfl
          clear E0 E1 E2 H3 hT h0
          go_wp2_with (go_at_call 26; go_loud (refine (H4.out _ _ _ (by have h := HMW.out; rw [← HM.out] at h; exact h)).mono ?_; rintro e w1 ⟨rfl, y, rfl⟩))
          exact bodyPost_ret (v := .tuple #[ratV P Q, .int .i64 T, .int .i64 0]) (by simp [results, Try.results11, go_sem, cell_keep_alloc (cell_keep_gx (two_cells' c0 c1).1), cell_keep_alloc (cell_keep_gx (two_cells' c0 c1).2)]) rfl ⟨rfl, by have hx := HXG.out; exact (by repeat (first | (with_reducible exact Gx.refl _) | (with_reducible assumption) | (with_reducible refine Gx.gx ?_) | (with_reducible refine Gx.alloc ?_) | (with_reducible refine Gx.drew ?_) | (with_reducible refine Gx.drewN ?_) | (with_reducible refine Gx.setRow ?_ (by first | omega | (simp; done) | (simp <;> omega))) | (with_reducible refine Gx.setCell ?_ (by first | omega | (simp; done) | (simp <;> omega)))))⟩
end Go.Proofs.Ytlnbadjjgbecgaa
