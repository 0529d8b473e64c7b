/-
  Steepest of the reference.
-/
import Derived.Test.YtikgfidpdghkpaaDoorSSteep
namespace Go.Proofs.YtikgfidpdghkpaaDoor
open Go.RowKit
-- AT2
-- AT3

/-- The steepest so far, as the reference holds it. -/
def stR2 : Option (Nat × Nat × Nat) → Int → Int → Int → Prop
  | none, num, den, at' => num = 0 ∧ den = 0 ∧ at' = 0
  | some (p, q, j), num, den, at' => num = (p : Int) ∧ den = (q : Int) ∧ at' = (j : Int)
/-- What the reference's Steepest has at hand in its loop. -/
structure StSt (w wr : World) (gL : Nat) (den : Int) (A : Option Addr) (n c : Nat) (L : List Nat) : Prop where
  grew : ∃ x, wr = gx w x
  ser : At wr w.heap.size (.cells #[.int .i64 den, .slice A n c] 24 (0, 0))
  rat : At wr (w.heap.size + 1) (.cells #[.int .i64 0, .int .i64 0] 35 (0, 0))
  nums : 0 < L.length → NumAt wr L gL
theorem StSt.gx {w wr : World} {gL : Nat} {den : Int} {A : Option Addr} {n c : Nat} {L : List Nat} {x : Ext} (h : StSt w wr gL den A n c L) : StSt w (gx wr x) gL den A n c L :=
  ⟨Gx.gx h.grew, h.ser.gx, h.rat.gx, fun h0 => (h.nums h0).onx⟩
theorem StSt.of {w wr W : World} {gL : Nat} {den : Int} {A : Option Addr} {n c : Nat} {L : List Nat} (h : StSt w wr gL den A n c L) (hW : ∃ x, W = Go.Proofs.YtikgfidpdghkpaaDoor.gx wr x) : StSt w W gL den A n c L := by
  obtain ⟨x, rfl⟩ := hW; exact h.gx
theorem cell_keep_drew3 {w : World} {a : Addr} {v : Value} (h : w.cell? a = some v) : w.drew.cell? a = some v := h
theorem cell_keep_drewN3 {w : World} {a : Addr} {v : Value} {n : Nat} (h : w.cell? a = some v) : (w.drewN n).cell? a = some v := h
theorem two_cells3 {wr : World} {b : Nat} {p q u v : Value} (c0 : wr.cell? ⟨b, 0, none⟩ = some u) (c1 : wr.cell? ⟨b, 1, none⟩ = some v) :
    ((wr.setCell ⟨b, 0, none⟩ p).setCell ⟨b, 1, none⟩ q).cell? ⟨b, 0, none⟩ = some p ∧ ((wr.setCell ⟨b, 0, none⟩ p).setCell ⟨b, 1, none⟩ q).cell? ⟨b, 1, none⟩ = some q :=
  ⟨(World.cell?_setCell_other _ _ _ _ (by simp)).trans (World.cell?_setCell_same _ _ _ c0), World.cell?_setCell_same _ _ _ ((World.cell?_setCell_other _ _ _ _ (by simp)).trans c1)⟩
theorem world_of3 {K : World → Prop} {W : World} (S : World → Prop) (hS : S W) (h : ∀ W', S W' → K W') : K W := h W hS
set_option maxHeartbeats 8000000 in
set_option maxRecDepth 100000 in
theorem RSteepest_core (den : Int) (g : Nat → Sm) (n c : Nat) (A : Option Addr) (lg : Int) (L : List Nat) (w : World) (hlen : L.length ≤ 20000) (hL : SmAt w g n A) (hLn : Hid (∀ i, i < L.length → L.getD i 0 < n))
    (hb : Hid (∀ i, i < L.length → 0 ≤ (g (L.getD i 0)).t ∧ (g (L.getD i 0)).t ≤ 1099511627776 ∧ -1125899906842624 ≤ (g (L.getD i 0)).n ∧ (g (L.getD i 0)).n ≤ 1125899906842624))
    (hinc : Hid (∀ i, i + 1 < L.length → (g (L.getD i 0)).t < (g (L.getD (i + 1) 0)).t)) (r6 : inB 0 1099511627776 lg = true)
    (H1 : Hid (∀ W, SmAt W g n A → Calls Tryd.prog 21 #[serV den A n c] W fun e w' => e = .returned (.int .i64 0) ∧ ∃ x, w' = gx W x))
    (H2 : Hid (∀ W, SmAt W g n A → Calls Tryd.prog 23 #[serV den A n c] W fun e w' => ∃ A' c' x, e = .returned (.slice A' L.length c') ∧ w' = gx W x ∧ Own W.heap.size w' 3 1 (.slice A' L.length c') L.length (numI L)))
    (P Q R E : Int) (E0 : Hid (stP g L lg (max 1 L.length) = none → P = 0 ∧ Q = 0 ∧ R = 0 ∧ E = 13)) (E1 : Hid (∀ p q j, stP g L lg (max 1 L.length) = some (p, q, j) → P = lowN (p : Int) q ∧ Q = lowD (p : Int) q ∧ R = (j : Int) ∧ E = 0)) :
    Calls Tryd.prog 13 #[serV den A n c, .int .i64 lg] w fun e w' => e = .returned (.tuple #[ratV P Q, .int .i64 R, .int .i64 E]) ∧ ∃ x, w' = gx w x := by
  have hpo := stP_ok (lg := lg) hb.out hinc.out
  obtain ⟨q, hq⟩ : ∃ q, q = L.length := ⟨_, rfl⟩
  have HQ := Lib.hid hq
  rw [← hq] at hlen H2 E0 E1
  clear hq
  go_enter Tryd.func13, Tryd.ntmps13
  go_wp2_with first
    | (go_at_call 21; refine (H1.out _ (by (repeat (first | (with_reducible assumption) | (with_reducible refine SmAt.gx ?_) | (with_reducible refine SmAt.alloc ?_))))).mono ?_; rintro e w' ⟨rfl, x1, rfl⟩)
    | (go_at_call 22; refine (outside_any _ _ _ _).mono ?_; rw [r6]; rintro e w' ⟨rfl, rfl⟩)
    | (go_at_call 23; refine (H2.out _ (by (repeat (first | (with_reducible assumption) | (with_reducible refine SmAt.gx ?_) | (with_reducible refine SmAt.alloc ?_))))).mono ?_; rintro e w' ⟨A2, c2, x2, rfl, hW2, hO2⟩; have hX2 : (∃ y, w' = gx ((w.alloc (.cells #[.int .i64 den, .slice A n c] 24)).alloc (.cells #[.int .i64 0, .int .i64 0] 35)) y) := (by rw [hW2]; exact (by repeat (first | (with_reducible exact Gx.refl _) | (with_reducible assumption) | (with_reducible refine Gx.gx ?_) | (with_reducible refine Gx.alloc ?_) | (with_reducible refine Gx.drew ?_) | (with_reducible refine Gx.drewN ?_) | (with_reducible refine Gx.setRow ?_ (by first | omega | (simp; done) | (simp <;> omega))) | (with_reducible refine Gx.setCell ?_ (by first | omega | (simp; done) | (simp <;> omega)))))); clear hW2)
  obtain ⟨gL, hA2, hNm⟩ : ∃ gL, (0 < L.length → A2 = some ⟨gL, 0, none⟩) ∧ (0 < L.length → NumAt w' L gL) := by
    rcases Nat.eq_zero_or_pos L.length with h0 | h0
    · exact ⟨0, fun h => by omega, fun h => by omega⟩
    · rw [HQ.out] at hO2
      obtain ⟨gL, e1, e2⟩ := num_cells hO2 h0
      exact ⟨gL, fun _ => e1, fun _ => e2⟩
  have M1 : StSt w w' gL den A n c L := by
    refine ⟨?_, ?_, ?_, hNm⟩
    · obtain ⟨y, rfl⟩ := hX2; exact (by repeat (first | (with_reducible exact Gx.refl _) | (with_reducible assumption) | (with_reducible refine Gx.gx ?_) | (with_reducible refine Gx.alloc ?_) | (with_reducible refine Gx.drew ?_) | (with_reducible refine Gx.drewN ?_) | (with_reducible refine Gx.setRow ?_ (by first | omega | (simp; done) | (simp <;> omega))) | (with_reducible refine Gx.setCell ?_ (by first | omega | (simp; done) | (simp <;> omega)))))
    · obtain ⟨y, rfl⟩ := hX2; exact At.gx (At.alloc (At.new _ _))
    · obtain ⟨y, rfl⟩ := hX2; exact At.gx (At.new' (by simp))
  have HM1 := Lib.hid M1
  clear M1 hX2 hO2 hNm
  go_loopw [12, 9, 10, 11] (fun i u v s wr => ∃ (j : Nat) (num dd at' : Int), (j + 1 ≤ q ∨ j = 0) ∧ i = .int .i64 ((j : Int) + 1) ∧ u = .int .i64 num ∧ v = .int .i64 dd ∧ s = .int .i64 at' ∧ Hid (stR2 (stP g L lg (j + 1)) num dd at') ∧ StSt w wr gL den A n c L) (fun i _ _ _ _ => q - (intOf i).toNat)
  case atStart => exact ⟨0, 0, 0, 0, .inr rfl, rfl, rfl, rfl, rfl, ⟨rfl, rfl, rfl⟩, HM1.out⟩
  case round =>
    obtain ⟨j, num, dd, at', hj, rfl, rfl, rfl, rfl, hR, hst⟩ := hrel
    have HS := Lib.hid hst
    have f1 : wr.cell? ⟨w.heap.size, 1, none⟩ = some (.slice A n c) := by rw [cell_of_row wr _ _ _ _ _ hst.ser]; rfl
    have l0 : w.heap.size < wr.heap.size := hst.ser.lt
    by_cases hlt : j + 1 < q
    · have hkz : (j : Int) + 1 < (q : Int) := by omega
      have hjz : (j : Int) < (q : Int) := by omega
      have h0 : 0 < L.length := by rw [← HQ.out]; omega
      obtain rfl := hA2 h0
      have n1 := hst.nums h0 (j + 1) (by rw [← HQ.out]; exact hlt)
      have n0 := hst.nums h0 j (by rw [← HQ.out]; omega)
      have lL : gL < wr.heap.size := World.block_lt_of_cell? wr _ n0
      have in1 := hLn.out (j + 1) (by rw [← HQ.out]; exact hlt)
      have in0 := hLn.out j (by rw [← HQ.out]; omega)
      obtain ⟨b, o, rfl, hbw, HCs⟩ : ∃ b o, A = some ⟨b, o, none⟩ ∧ b < wr.heap.size ∧ Hid (∀ k, k < n → wr.cell? ⟨b, o + k * 3, none⟩ = some (.int .i64 (g k).t) ∧ wr.cell? ⟨b, o + k * 3 + 1, none⟩ = some (.int .i64 (g k).n) ∧ wr.cell? ⟨b, o + k * 3 + 2, none⟩ = some (.int .i64 (g k).m)) := by
        obtain ⟨x, hx⟩ := hst.grew
        have hl2 : SmAt wr g n A := by rw [hx]; exact hL.gx
        exact hl2.get (by omega)
      obtain ⟨d1, d2, d3⟩ := HCs.out _ in1
      obtain ⟨p1, p2, p3⟩ := HCs.out _ in0
      have bX := hb.out (j + 1) (by rw [← HQ.out]; exact hlt)
      have bY := hb.out j (by rw [← HQ.out]; omega)
      have hin := hinc.out j (by rw [← HQ.out]; exact hlt)
      have hpo1 := hpo (j + 1) (by rw [← HQ.out]; omega)
      have hfar2 := @stP_far g L lg j
      have hfirst := @stP_first g L lg j
      have hmore := @stP_more g L lg j
      have z1 : ((L.getD (j + 1) 0 : Nat) : Int) < (n : Int) := by omega
      have z0 : ((L.getD j 0 : Nat) : Int) < (n : Int) := by omega
      have hz0 : (0 : Int) ≤ (j : Int) := by omega
      have e0 : IntKind.i64.wrap (j : Int) = (j : Int) := by rw [IntKind.wrap_i64]; omega
      have hz1 : (0 : Int) ≤ (j : Int) + 1 := by omega
      have hz2 : (0 : Int) ≤ ((L.getD (j + 1) 0 : Nat) : Int) := by omega
      have hz3 : (0 : Int) ≤ ((L.getD j 0 : Nat) : Int) := by omega
      have e1 : IntKind.i64.wrap ((j : Int) + 1 - 1) = (j : Int) := by rw [IntKind.wrap_i64]; omega
      have e3 : IntKind.i64.wrap ((j : Int) + 1 + 1) = ((j + 1 : Nat) : Int) + 1 := by rw [IntKind.wrap_i64]; omega
      obtain ⟨T, hT⟩ : ∃ T : Nat, (g (L.getD (j + 1) 0)).t - (g (L.getD j 0)).t = (T : Int) := ⟨((g (L.getD (j + 1) 0)).t - (g (L.getD j 0)).t).toNat, by omega⟩
      obtain ⟨N, hN⟩ : ∃ N, ((g (L.getD (j + 1) 0)).n - (g (L.getD j 0)).n).natAbs = N := ⟨_, rfl⟩
      have hT0 : 0 < T := by omega
      have hT1 : T ≤ 1099511627776 := by omega
      have hN1 : N ≤ 2251799813685248 := by omega
      have e2 : IntKind.i64.wrap ((g (L.getD (j + 1) 0)).t - (g (L.getD j 0)).t) = (T : Int) := by rw [hT, IntKind.wrap_i64]; omega
      have hAp := fun W => apartR_any (g (L.getD (j + 1) 0)).n (g (L.getD j 0)).n W (by omega) (by omega)
      rw [show max ((g (L.getD (j + 1) 0)).n - (g (L.getD j 0)).n) ((g (L.getD j 0)).n - (g (L.getD (j + 1) 0)).n) = (N : Int) by omega] at hAp
      have HAp := Lib.hid hAp
      replace hfar2 := fun h => hfar2 (by rw [hT]; exact h)
      replace hfirst := @hfirst T N hT hN
      replace hmore := @hmore T N
      replace hmore := fun (p q j' : Nat) => @hmore p q j' hT hN
      clear HCs hb hinc hAp hT hN bX bY hin hst hpo H1 H2 in1 in0 hLn
      generalize (g (L.getD (j + 1) 0)).t = xt at *
      generalize (g (L.getD (j + 1) 0)).n = xn at *
      generalize (g (L.getD (j + 1) 0)).m = xm at *
      generalize (g (L.getD j 0)).t = yt at *
      generalize (g (L.getD j 0)).n = yn at *
      generalize (g (L.getD j 0)).m = ym at *
      generalize L.getD (j + 1) 0 = xi at *
      generalize L.getD j 0 = yi at *
      by_cases hf : lg < (T : Int)
      · have hl : decide (lg < (T : Int)) = true := decide_eq_true hf
        have hs2 := Lib.hid (hfar2 hf)
        clear hfar2 hfirst hmore hpo1
        go_wp2
        go_region_held3 (fun W => (∃ x, W = gx wr x) ∧ W.cell? ⟨w.heap.size, 1, none⟩ = some (.slice (some ⟨b, o, none⟩) n c) ∧ W.cell? ⟨gL, j, none⟩ = some (.int .i64 (yi : Int)) ∧ W.cell? ⟨gL, j + 1, none⟩ = some (.int .i64 (xi : Int)) ∧ W.cell? ⟨b, o + xi * 3, none⟩ = some (.int .i64 xt) ∧ W.cell? ⟨b, o + xi * 3 + 1, none⟩ = some (.int .i64 xn) ∧ W.cell? ⟨b, o + xi * 3 + 2, none⟩ = some (.int .i64 xm) ∧ W.cell? ⟨b, o + yi * 3, none⟩ = some (.int .i64 yt) ∧ W.cell? ⟨b, o + yi * 3 + 1, none⟩ = some (.int .i64 yn) ∧ W.cell? ⟨b, o + yi * 3 + 2, none⟩ = some (.int .i64 ym))
          (refine ⟨(by repeat (first | (with_reducible exact Gx.refl _) | (with_reducible assumption) | (with_reducible refine Gx.gx ?_) | (with_reducible refine Gx.alloc ?_) | (with_reducible refine Gx.drew ?_) | (with_reducible refine Gx.drewN ?_) | (with_reducible refine Gx.setRow ?_ (by first | omega | (simp; done) | (simp <;> omega))) | (with_reducible refine Gx.setCell ?_ (by first | omega | (simp; done) | (simp <;> omega))))), ?_, ?_, ?_, ?_, ?_, ?_, ?_, ?_, ?_⟩ <;> (focus (repeat (first | (with_reducible assumption) | (with_reducible refine cell_keep_gx ?_) | (with_reducible refine cell_keep_alloc ?_) | (with_reducible refine cell_keep_drew3 ?_)))))
          (fail)
        all_goals go_wp2
        all_goals go_roundw
        all_goals first
          | exact ⟨j + 1, num, dd, at', .inl (by omega), by go_num, rfl, rfl, rfl, by rw [hs2.out]; exact hR, by have hs := HS.out; exact StSt.of hs (by repeat (first | (with_reducible exact Gx.refl _) | (with_reducible assumption) | (with_reducible refine Gx.gx ?_) | (with_reducible refine Gx.alloc ?_) | (with_reducible refine Gx.drew ?_) | (with_reducible refine Gx.drewN ?_) | (with_reducible refine Gx.setRow ?_ (by first | omega | (simp; done) | (simp <;> omega))) | (with_reducible refine Gx.setCell ?_ (by first | omega | (simp; done) | (simp <;> omega)))))⟩
          | (simp [intOf]; omega)
      · have hl : decide (lg < (T : Int)) = false := decide_eq_false hf
        cases hsp : stP g L lg (j + 1) with
        | none =>
          rw [hsp] at hR
          obtain ⟨rfl, rfl, rfl⟩ := hR
          have hs2 := Lib.hid (hfirst hf hsp)
          clear hfar2 hfirst hmore hpo1 hsp hf
          go_wp2
          go_region_held3 (fun W => (∃ x, W = gx wr x) ∧ W.cell? ⟨w.heap.size, 1, none⟩ = some (.slice (some ⟨b, o, none⟩) n c) ∧ W.cell? ⟨gL, j, none⟩ = some (.int .i64 (yi : Int)) ∧ W.cell? ⟨gL, j + 1, none⟩ = some (.int .i64 (xi : Int)) ∧ W.cell? ⟨b, o + xi * 3, none⟩ = some (.int .i64 xt) ∧ W.cell? ⟨b, o + xi * 3 + 1, none⟩ = some (.int .i64 xn) ∧ W.cell? ⟨b, o + xi * 3 + 2, none⟩ = some (.int .i64 xm) ∧ W.cell? ⟨b, o + yi * 3, none⟩ = some (.int .i64 yt) ∧ W.cell? ⟨b, o + yi * 3 + 1, none⟩ = some (.int .i64 yn) ∧ W.cell? ⟨b, o + yi * 3 + 2, none⟩ = some (.int .i64 ym))
            (refine ⟨(by repeat (first | (with_reducible exact Gx.refl _) | (with_reducible assumption) | (with_reducible refine Gx.gx ?_) | (with_reducible refine Gx.alloc ?_) | (with_reducible refine Gx.drew ?_) | (with_reducible refine Gx.drewN ?_) | (with_reducible refine Gx.setRow ?_ (by first | omega | (simp; done) | (simp <;> omega))) | (with_reducible refine Gx.setCell ?_ (by first | omega | (simp; done) | (simp <;> omega))))), ?_, ?_, ?_, ?_, ?_, ?_, ?_, ?_, ?_⟩ <;> (focus (repeat (first | (with_reducible assumption) | (with_reducible refine cell_keep_gx ?_) | (with_reducible refine cell_keep_alloc ?_) | (with_reducible refine cell_keep_drew3 ?_)))))
            (fail)
          all_goals go_wp2
          · refine world_of3 (fun W => (∃ x, W = gx wr x) ∧ W.cell? ⟨wr.heap.size, 0, none⟩ = some (.int .i64 yt) ∧ W.cell? ⟨wr.heap.size, 1, none⟩ = some (.int .i64 yn) ∧ W.cell? ⟨wr.heap.size + 1, 0, none⟩ = some (.int .i64 xt) ∧ W.cell? ⟨wr.heap.size + 1, 1, none⟩ = some (.int .i64 xn)) ⟨(by repeat (first | (with_reducible exact Gx.refl _) | (with_reducible assumption) | (with_reducible refine Gx.gx ?_) | (with_reducible refine Gx.alloc ?_) | (with_reducible refine Gx.drew ?_) | (with_reducible refine Gx.drewN ?_) | (with_reducible refine Gx.setRow ?_ (by first | omega | (simp; done) | (simp <;> omega))) | (with_reducible refine Gx.setCell ?_ (by first | omega | (simp; done) | (simp <;> omega))))), by simp [go_sem], by simp [go_sem], by simp [go_sem], by simp [go_sem]⟩ ?_
            rintro Wb ⟨GB, b1, b2, b3, b4⟩
            have HSb := Lib.hid (StSt.of HS.out GB)
            have k1 := World.block_lt_of_cell? Wb _ b1
            have k3 := World.block_lt_of_cell? Wb _ b3
            simp only at k1 k3
            have n1' : Wb.cell? ⟨gL, j + 1, none⟩ = some (.int .i64 (xi : Int)) := by obtain ⟨x, rfl⟩ := GB; exact cell_keep_gx n1
            have kL := World.block_lt_of_cell? Wb _ n1'
            simp only at kL
            go_quiet (fail)
            go_wp2
            go_region_held3 (fun W => (∃ x, W = gx Wb x) ∧ W.cell? ⟨wr.heap.size, 0, none⟩ = some (.int .i64 yt) ∧ W.cell? ⟨wr.heap.size, 1, none⟩ = some (.int .i64 yn) ∧ W.cell? ⟨wr.heap.size + 1, 0, none⟩ = some (.int .i64 xt) ∧ W.cell? ⟨wr.heap.size + 1, 1, none⟩ = some (.int .i64 xn) ∧ W.cell? ⟨gL, j + 1, none⟩ = some (.int .i64 (xi : Int)))
              (refine ⟨(by repeat (first | (with_reducible exact Gx.refl _) | (with_reducible assumption) | (with_reducible refine Gx.gx ?_) | (with_reducible refine Gx.alloc ?_) | (with_reducible refine Gx.drew ?_) | (with_reducible refine Gx.drewN ?_) | (with_reducible refine Gx.setRow ?_ (by first | omega | (simp; done) | (simp <;> omega))) | (with_reducible refine Gx.setCell ?_ (by first | omega | (simp; done) | (simp <;> omega))))), ?_, ?_, ?_, ?_, ?_⟩ <;> (focus (repeat (first | (with_reducible assumption) | (with_reducible refine cell_keep_gx ?_) | (with_reducible refine cell_keep_alloc ?_) | (with_reducible refine cell_keep_drew3 ?_) | (with_reducible refine cell_keep_drewN3 ?_)))))
              (first | (go_at_call 41; refine (HAp.out _).mono ?_; rintro e w' ⟨rfl, y, rfl⟩))
            all_goals go_wp2
            all_goals go_roundw
            all_goals first
              | exact ⟨j + 1, (N : Int), (T : Int), (xi : Int), .inl (by omega), by go_num, rfl, rfl, rfl, by rw [hs2.out]; exact ⟨rfl, rfl, rfl⟩, (by have hs := HSb.out; exact StSt.of hs (by repeat (first | (with_reducible exact Gx.refl _) | (with_reducible assumption) | (with_reducible refine Gx.gx ?_) | (with_reducible refine Gx.alloc ?_) | (with_reducible refine Gx.drew ?_) | (with_reducible refine Gx.drewN ?_) | (with_reducible refine Gx.setRow ?_ (by first | omega | (simp; done) | (simp <;> omega))) | (with_reducible refine Gx.setCell ?_ (by first | omega | (simp; done) | (simp <;> omega))))))⟩
              | (simp [intOf]; omega)
          · refine world_of3 (fun W => (∃ x, W = gx wr x) ∧ W.cell? ⟨wr.heap.size + 1, 0, none⟩ = some (.int .i64 yt) ∧ W.cell? ⟨wr.heap.size + 1, 1, none⟩ = some (.int .i64 yn) ∧ W.cell? ⟨wr.heap.size, 0, none⟩ = some (.int .i64 xt) ∧ W.cell? ⟨wr.heap.size, 1, none⟩ = some (.int .i64 xn)) ⟨(by repeat (first | (with_reducible exact Gx.refl _) | (with_reducible assumption) | (with_reducible refine Gx.gx ?_) | (with_reducible refine Gx.alloc ?_) | (with_reducible refine Gx.drew ?_) | (with_reducible refine Gx.drewN ?_) | (with_reducible refine Gx.setRow ?_ (by first | omega | (simp; done) | (simp <;> omega))) | (with_reducible refine Gx.setCell ?_ (by first | omega | (simp; done) | (simp <;> omega))))), by simp [go_sem], by simp [go_sem], by simp [go_sem], by simp [go_sem]⟩ ?_
            rintro Wb ⟨GB, b1, b2, b3, b4⟩
            have HSb := Lib.hid (StSt.of HS.out GB)
            have k1 := World.block_lt_of_cell? Wb _ b1
            have k3 := World.block_lt_of_cell? Wb _ b3
            simp only at k1 k3
            have n1' : Wb.cell? ⟨gL, j + 1, none⟩ = some (.int .i64 (xi : Int)) := by obtain ⟨x, rfl⟩ := GB; exact cell_keep_gx n1
            have kL := World.block_lt_of_cell? Wb _ n1'
            simp only at kL
            go_quiet (fail)
            go_wp2
            go_region_held3 (fun W => (∃ x, W = gx Wb x) ∧ W.cell? ⟨wr.heap.size + 1, 0, none⟩ = some (.int .i64 yt) ∧ W.cell? ⟨wr.heap.size + 1, 1, none⟩ = some (.int .i64 yn) ∧ W.cell? ⟨wr.heap.size, 0, none⟩ = some (.int .i64 xt) ∧ W.cell? ⟨wr.heap.size, 1, none⟩ = some (.int .i64 xn) ∧ W.cell? ⟨gL, j + 1, none⟩ = some (.int .i64 (xi : Int)))
              (refine ⟨(by repeat (first | (with_reducible exact Gx.refl _) | (with_reducible assumption) | (with_reducible refine Gx.gx ?_) | (with_reducible refine Gx.alloc ?_) | (with_reducible refine Gx.drew ?_) | (with_reducible refine Gx.drewN ?_) | (with_reducible refine Gx.setRow ?_ (by first | omega | (simp; done) | (simp <;> omega))) | (with_reducible refine Gx.setCell ?_ (by first | omega | (simp; done) | (simp <;> omega))))), ?_, ?_, ?_, ?_, ?_⟩ <;> (focus (repeat (first | (with_reducible assumption) | (with_reducible refine cell_keep_gx ?_) | (with_reducible refine cell_keep_alloc ?_) | (with_reducible refine cell_keep_drew3 ?_) | (with_reducible refine cell_keep_drewN3 ?_)))))
              (first | (go_at_call 41; refine (HAp.out _).mono ?_; rintro e w' ⟨rfl, y, rfl⟩))
            all_goals go_wp2
            all_goals go_roundw
            all_goals first
              | exact ⟨j + 1, (N : Int), (T : Int), (xi : Int), .inl (by omega), by go_num, rfl, rfl, rfl, by rw [hs2.out]; exact ⟨rfl, rfl, rfl⟩, (by have hs := HSb.out; exact StSt.of hs (by repeat (first | (with_reducible exact Gx.refl _) | (with_reducible assumption) | (with_reducible refine Gx.gx ?_) | (with_reducible refine Gx.alloc ?_) | (with_reducible refine Gx.drew ?_) | (with_reducible refine Gx.drewN ?_) | (with_reducible refine Gx.setRow ?_ (by first | omega | (simp; done) | (simp <;> omega))) | (with_reducible refine Gx.setCell ?_ (by first | omega | (simp; done) | (simp <;> omega))))))⟩
              | (simp [intOf]; omega)
        | some s =>
          obtain ⟨p, q', j'⟩ := s
          rw [hsp] at hR
          obtain ⟨rfl, rfl, rfl⟩ := hR
          obtain ⟨hp1, hq0, hq1, kk, hkk, hjk⟩ := hpo1 p q' j' hsp
          have hss := hmore p q' j' hf hsp
          have HSt := Lib.hid (fun W => steeper_any N T p q' (by omega) (by omega) (by omega) (by omega) W)
          have hq2 : ((q' : Int) == 0) = false := by rw [beq_eq_false_iff_ne]; omega
          have hq3 : decide (q' = 0) = false := decide_eq_false (by omega)
          have hq4 : ¬ q' = 0 := by omega
          have hq5 : (q' == 0) = false := by rw [beq_eq_false_iff_ne]; omega
          by_cases hyes : p * T < N * q'
          · have hd2 : decide (p * T < N * q') = true := decide_eq_true hyes
            rw [if_pos hyes] at hss
            have hs2 := Lib.hid hss
            clear hfar2 hfirst hmore hpo1 hsp hf hyes hss hjk hkk
            go_wp2
            go_region_held3 (fun W => (∃ x, W = gx wr x) ∧ W.cell? ⟨w.heap.size, 1, none⟩ = some (.slice (some ⟨b, o, none⟩) n c) ∧ W.cell? ⟨gL, j, none⟩ = some (.int .i64 (yi : Int)) ∧ W.cell? ⟨gL, j + 1, none⟩ = some (.int .i64 (xi : Int)) ∧ W.cell? ⟨b, o + xi * 3, none⟩ = some (.int .i64 xt) ∧ W.cell? ⟨b, o + xi * 3 + 1, none⟩ = some (.int .i64 xn) ∧ W.cell? ⟨b, o + xi * 3 + 2, none⟩ = some (.int .i64 xm) ∧ W.cell? ⟨b, o + yi * 3, none⟩ = some (.int .i64 yt) ∧ W.cell? ⟨b, o + yi * 3 + 1, none⟩ = some (.int .i64 yn) ∧ W.cell? ⟨b, o + yi * 3 + 2, none⟩ = some (.int .i64 ym))
              (refine ⟨(by repeat (first | (with_reducible exact Gx.refl _) | (with_reducible assumption) | (with_reducible refine Gx.gx ?_) | (with_reducible refine Gx.alloc ?_) | (with_reducible refine Gx.drew ?_) | (with_reducible refine Gx.drewN ?_) | (with_reducible refine Gx.setRow ?_ (by first | omega | (simp; done) | (simp <;> omega))) | (with_reducible refine Gx.setCell ?_ (by first | omega | (simp; done) | (simp <;> omega))))), ?_, ?_, ?_, ?_, ?_, ?_, ?_, ?_, ?_⟩ <;> (focus (repeat (first | (with_reducible assumption) | (with_reducible refine cell_keep_gx ?_) | (with_reducible refine cell_keep_alloc ?_) | (with_reducible refine cell_keep_drew3 ?_)))))
              (fail)
            all_goals go_wp2
            · refine world_of3 (fun W => (∃ x, W = gx wr x) ∧ W.cell? ⟨wr.heap.size, 0, none⟩ = some (.int .i64 yt) ∧ W.cell? ⟨wr.heap.size, 1, none⟩ = some (.int .i64 yn) ∧ W.cell? ⟨wr.heap.size + 1, 0, none⟩ = some (.int .i64 xt) ∧ W.cell? ⟨wr.heap.size + 1, 1, none⟩ = some (.int .i64 xn)) ⟨(by repeat (first | (with_reducible exact Gx.refl _) | (with_reducible assumption) | (with_reducible refine Gx.gx ?_) | (with_reducible refine Gx.alloc ?_) | (with_reducible refine Gx.drew ?_) | (with_reducible refine Gx.drewN ?_) | (with_reducible refine Gx.setRow ?_ (by first | omega | (simp; done) | (simp <;> omega))) | (with_reducible refine Gx.setCell ?_ (by first | omega | (simp; done) | (simp <;> omega))))), by simp [go_sem], by simp [go_sem], by simp [go_sem], by simp [go_sem]⟩ ?_
              rintro Wb ⟨GB, b1, b2, b3, b4⟩
              have HSb := Lib.hid (StSt.of HS.out GB)
              have k1 := World.block_lt_of_cell? Wb _ b1
              have k3 := World.block_lt_of_cell? Wb _ b3
              simp only at k1 k3
              have n1' : Wb.cell? ⟨gL, j + 1, none⟩ = some (.int .i64 (xi : Int)) := by obtain ⟨x, rfl⟩ := GB; exact cell_keep_gx n1
              have kL := World.block_lt_of_cell? Wb _ n1'
              simp only at kL
              go_region_held3 (fun W => (∃ x, W = gx Wb x) ∧ W.cell? ⟨wr.heap.size, 0, none⟩ = some (.int .i64 yt) ∧ W.cell? ⟨wr.heap.size, 1, none⟩ = some (.int .i64 yn) ∧ W.cell? ⟨wr.heap.size + 1, 0, none⟩ = some (.int .i64 xt) ∧ W.cell? ⟨wr.heap.size + 1, 1, none⟩ = some (.int .i64 xn) ∧ W.cell? ⟨gL, j + 1, none⟩ = some (.int .i64 (xi : Int)))
                (refine ⟨(by repeat (first | (with_reducible exact Gx.refl _) | (with_reducible assumption) | (with_reducible refine Gx.gx ?_) | (with_reducible refine Gx.alloc ?_) | (with_reducible refine Gx.drew ?_) | (with_reducible refine Gx.drewN ?_) | (with_reducible refine Gx.setRow ?_ (by first | omega | (simp; done) | (simp <;> omega))) | (with_reducible refine Gx.setCell ?_ (by first | omega | (simp; done) | (simp <;> omega))))), ?_, ?_, ?_, ?_, ?_⟩ <;> (focus (repeat (first | (with_reducible assumption) | (with_reducible refine cell_keep_gx ?_) | (with_reducible refine cell_keep_alloc ?_) | (with_reducible refine cell_keep_drew3 ?_) | (with_reducible refine cell_keep_drewN3 ?_)))))
                (first | (go_at_call 41; refine (HAp.out _).mono ?_; rintro e w' ⟨rfl, y, rfl⟩) | (go_at_call 40; refine (HSt.out _).mono ?_; rw [hd2]; rintro e w' ⟨rfl, y2, rfl⟩))
              all_goals go_wp2
              all_goals go_region_held3 (fun W => (∃ x, W = gx Wb x) ∧ W.cell? ⟨wr.heap.size, 0, none⟩ = some (.int .i64 yt) ∧ W.cell? ⟨wr.heap.size, 1, none⟩ = some (.int .i64 yn) ∧ W.cell? ⟨wr.heap.size + 1, 0, none⟩ = some (.int .i64 xt) ∧ W.cell? ⟨wr.heap.size + 1, 1, none⟩ = some (.int .i64 xn) ∧ W.cell? ⟨gL, j + 1, none⟩ = some (.int .i64 (xi : Int)))
                (refine ⟨(by repeat (first | (with_reducible exact Gx.refl _) | (with_reducible assumption) | (with_reducible refine Gx.gx ?_) | (with_reducible refine Gx.alloc ?_) | (with_reducible refine Gx.drew ?_) | (with_reducible refine Gx.drewN ?_) | (with_reducible refine Gx.setRow ?_ (by first | omega | (simp; done) | (simp <;> omega))) | (with_reducible refine Gx.setCell ?_ (by first | omega | (simp; done) | (simp <;> omega))))), ?_, ?_, ?_, ?_, ?_⟩ <;> (focus (repeat (first | (with_reducible assumption) | (with_reducible refine cell_keep_gx ?_) | (with_reducible refine cell_keep_alloc ?_) | (with_reducible refine cell_keep_drew3 ?_) | (with_reducible refine cell_keep_drewN3 ?_)))))
                (first | (go_at_call 41; refine (HAp.out _).mono ?_; rintro e w' ⟨rfl, y, rfl⟩))
              all_goals go_wp2
              all_goals go_roundw
              all_goals first
                | exact ⟨j + 1, (N : Int), (T : Int), (xi : Int), .inl (by omega), by go_num, rfl, rfl, rfl, by rw [hs2.out]; exact ⟨rfl, rfl, rfl⟩, (by have hs := HSb.out; exact StSt.of hs (by repeat (first | (with_reducible exact Gx.refl _) | (with_reducible assumption) | (with_reducible refine Gx.gx ?_) | (with_reducible refine Gx.alloc ?_) | (with_reducible refine Gx.drew ?_) | (with_reducible refine Gx.drewN ?_) | (with_reducible refine Gx.setRow ?_ (by first | omega | (simp; done) | (simp <;> omega))) | (with_reducible refine Gx.setCell ?_ (by first | omega | (simp; done) | (simp <;> omega))))))⟩
                | (simp [intOf]; omega)
            · refine world_of3 (fun W => (∃ x, W = gx wr x) ∧ W.cell? ⟨wr.heap.size + 1, 0, none⟩ = some (.int .i64 yt) ∧ W.cell? ⟨wr.heap.size + 1, 1, none⟩ = some (.int .i64 yn) ∧ W.cell? ⟨wr.heap.size, 0, none⟩ = some (.int .i64 xt) ∧ W.cell? ⟨wr.heap.size, 1, none⟩ = some (.int .i64 xn)) ⟨(by repeat (first | (with_reducible exact Gx.refl _) | (with_reducible assumption) | (with_reducible refine Gx.gx ?_) | (with_reducible refine Gx.alloc ?_) | (with_reducible refine Gx.drew ?_) | (with_reducible refine Gx.drewN ?_) | (with_reducible refine Gx.setRow ?_ (by first | omega | (simp; done) | (simp <;> omega))) | (with_reducible refine Gx.setCell ?_ (by first | omega | (simp; done) | (simp <;> omega))))), by simp [go_sem], by simp [go_sem], by simp [go_sem], by simp [go_sem]⟩ ?_
              rintro Wb ⟨GB, b1, b2, b3, b4⟩
              have HSb := Lib.hid (StSt.of HS.out GB)
              have k1 := World.block_lt_of_cell? Wb _ b1
              have k3 := World.block_lt_of_cell? Wb _ b3
              simp only at k1 k3
              have n1' : Wb.cell? ⟨gL, j + 1, none⟩ = some (.int .i64 (xi : Int)) := by obtain ⟨x, rfl⟩ := GB; exact cell_keep_gx n1
              have kL := World.block_lt_of_cell? Wb _ n1'
              simp only at kL
              go_region_held3 (fun W => (∃ x, W = gx Wb x) ∧ W.cell? ⟨wr.heap.size + 1, 0, none⟩ = some (.int .i64 yt) ∧ W.cell? ⟨wr.heap.size + 1, 1, none⟩ = some (.int .i64 yn) ∧ W.cell? ⟨wr.heap.size, 0, none⟩ = some (.int .i64 xt) ∧ W.cell? ⟨wr.heap.size, 1, none⟩ = some (.int .i64 xn) ∧ W.cell? ⟨gL, j + 1, none⟩ = some (.int .i64 (xi : Int)))
                (refine ⟨(by repeat (first | (with_reducible exact Gx.refl _) | (with_reducible assumption) | (with_reducible refine Gx.gx ?_) | (with_reducible refine Gx.alloc ?_) | (with_reducible refine Gx.drew ?_) | (with_reducible refine Gx.drewN ?_) | (with_reducible refine Gx.setRow ?_ (by first | omega | (simp; done) | (simp <;> omega))) | (with_reducible refine Gx.setCell ?_ (by first | omega | (simp; done) | (simp <;> omega))))), ?_, ?_, ?_, ?_, ?_⟩ <;> (focus (repeat (first | (with_reducible assumption) | (with_reducible refine cell_keep_gx ?_) | (with_reducible refine cell_keep_alloc ?_) | (with_reducible refine cell_keep_drew3 ?_) | (with_reducible refine cell_keep_drewN3 ?_)))))
                (first | (go_at_call 41; refine (HAp.out _).mono ?_; rintro e w' ⟨rfl, y, rfl⟩) | (go_at_call 40; refine (HSt.out _).mono ?_; rw [hd2]; rintro e w' ⟨rfl, y2, rfl⟩))
              all_goals go_wp2
              all_goals go_region_held3 (fun W => (∃ x, W = gx Wb x) ∧ W.cell? ⟨wr.heap.size + 1, 0, none⟩ = some (.int .i64 yt) ∧ W.cell? ⟨wr.heap.size + 1, 1, none⟩ = some (.int .i64 yn) ∧ W.cell? ⟨wr.heap.size, 0, none⟩ = some (.int .i64 xt) ∧ W.cell? ⟨wr.heap.size, 1, none⟩ = some (.int .i64 xn) ∧ W.cell? ⟨gL, j + 1, none⟩ = some (.int .i64 (xi : Int)))
                (refine ⟨(by repeat (first | (with_reducible exact Gx.refl _) | (with_reducible assumption) | (with_reducible refine Gx.gx ?_) | (with_reducible refine Gx.alloc ?_) | (with_reducible refine Gx.drew ?_) | (with_reducible refine Gx.drewN ?_) | (with_reducible refine Gx.setRow ?_ (by first | omega | (simp; done) | (simp <;> omega))) | (with_reducible refine Gx.setCell ?_ (by first | omega | (simp; done) | (simp <;> omega))))), ?_, ?_, ?_, ?_, ?_⟩ <;> (focus (repeat (first | (with_reducible assumption) | (with_reducible refine cell_keep_gx ?_) | (with_reducible refine cell_keep_alloc ?_) | (with_reducible refine cell_keep_drew3 ?_) | (with_reducible refine cell_keep_drewN3 ?_)))))
                (first | (go_at_call 41; refine (HAp.out _).mono ?_; rintro e w' ⟨rfl, y, rfl⟩))
              all_goals go_wp2
              all_goals go_roundw
              all_goals first
                | exact ⟨j + 1, (N : Int), (T : Int), (xi : Int), .inl (by omega), by go_num, rfl, rfl, rfl, by rw [hs2.out]; exact ⟨rfl, rfl, rfl⟩, (by have hs := HSb.out; exact StSt.of hs (by repeat (first | (with_reducible exact Gx.refl _) | (with_reducible assumption) | (with_reducible refine Gx.gx ?_) | (with_reducible refine Gx.alloc ?_) | (with_reducible refine Gx.drew ?_) | (with_reducible refine Gx.drewN ?_) | (with_reducible refine Gx.setRow ?_ (by first | omega | (simp; done) | (simp <;> omega))) | (with_reducible refine Gx.setCell ?_ (by first | omega | (simp; done) | (simp <;> omega))))))⟩
                | (simp [intOf]; omega)
          · have hd2 : decide (p * T < N * q') = false := decide_eq_false hyes
            rw [if_neg hyes] at hss
            have hs2 := Lib.hid hss
            clear hfar2 hfirst hmore hpo1 hsp hf hyes hss hjk hkk
            go_wp2
            go_region_held3 (fun W => (∃ x, W = gx wr x) ∧ W.cell? ⟨w.heap.size, 1, none⟩ = some (.slice (some ⟨b, o, none⟩) n c) ∧ W.cell? ⟨gL, j, none⟩ = some (.int .i64 (yi : Int)) ∧ W.cell? ⟨gL, j + 1, none⟩ = some (.int .i64 (xi : Int)) ∧ W.cell? ⟨b, o + xi * 3, none⟩ = some (.int .i64 xt) ∧ W.cell? ⟨b, o + xi * 3 + 1, none⟩ = some (.int .i64 xn) ∧ W.cell? ⟨b, o + xi * 3 + 2, none⟩ = some (.int .i64 xm) ∧ W.cell? ⟨b, o + yi * 3, none⟩ = some (.int .i64 yt) ∧ W.cell? ⟨b, o + yi * 3 + 1, none⟩ = some (.int .i64 yn) ∧ W.cell? ⟨b, o + yi * 3 + 2, none⟩ = some (.int .i64 ym))
              (refine ⟨(by repeat (first | (with_reducible exact Gx.refl _) | (with_reducible assumption) | (with_reducible refine Gx.gx ?_) | (with_reducible refine Gx.alloc ?_) | (with_reducible refine Gx.drew ?_) | (with_reducible refine Gx.drewN ?_) | (with_reducible refine Gx.setRow ?_ (by first | omega | (simp; done) | (simp <;> omega))) | (with_reducible refine Gx.setCell ?_ (by first | omega | (simp; done) | (simp <;> omega))))), ?_, ?_, ?_, ?_, ?_, ?_, ?_, ?_, ?_⟩ <;> (focus (repeat (first | (with_reducible assumption) | (with_reducible refine cell_keep_gx ?_) | (with_reducible refine cell_keep_alloc ?_) | (with_reducible refine cell_keep_drew3 ?_)))))
              (fail)
            all_goals go_wp2
            · refine world_of3 (fun W => (∃ x, W = gx wr x) ∧ W.cell? ⟨wr.heap.size, 0, none⟩ = some (.int .i64 yt) ∧ W.cell? ⟨wr.heap.size, 1, none⟩ = some (.int .i64 yn) ∧ W.cell? ⟨wr.heap.size + 1, 0, none⟩ = some (.int .i64 xt) ∧ W.cell? ⟨wr.heap.size + 1, 1, none⟩ = some (.int .i64 xn)) ⟨(by repeat (first | (with_reducible exact Gx.refl _) | (with_reducible assumption) | (with_reducible refine Gx.gx ?_) | (with_reducible refine Gx.alloc ?_) | (with_reducible refine Gx.drew ?_) | (with_reducible refine Gx.drewN ?_) | (with_reducible refine Gx.setRow ?_ (by first | omega | (simp; done) | (simp <;> omega))) | (with_reducible refine Gx.setCell ?_ (by first | omega | (simp; done) | (simp <;> omega))))), by simp [go_sem], by simp [go_sem], by simp [go_sem], by simp [go_sem]⟩ ?_
              rintro Wb ⟨GB, b1, b2, b3, b4⟩
              have HSb := Lib.hid (StSt.of HS.out GB)
              have k1 := World.block_lt_of_cell? Wb _ b1
              have k3 := World.block_lt_of_cell? Wb _ b3
              simp only at k1 k3
              have n1' : Wb.cell? ⟨gL, j + 1, none⟩ = some (.int .i64 (xi : Int)) := by obtain ⟨x, rfl⟩ := GB; exact cell_keep_gx n1
              have kL := World.block_lt_of_cell? Wb _ n1'
              simp only at kL
              go_region_held3 (fun W => (∃ x, W = gx Wb x) ∧ W.cell? ⟨wr.heap.size, 0, none⟩ = some (.int .i64 yt) ∧ W.cell? ⟨wr.heap.size, 1, none⟩ = some (.int .i64 yn) ∧ W.cell? ⟨wr.heap.size + 1, 0, none⟩ = some (.int .i64 xt) ∧ W.cell? ⟨wr.heap.size + 1, 1, none⟩ = some (.int .i64 xn) ∧ W.cell? ⟨gL, j + 1, none⟩ = some (.int .i64 (xi : Int)))
                (refine ⟨(by repeat (first | (with_reducible exact Gx.refl _) | (with_reducible assumption) | (with_reducible refine Gx.gx ?_) | (with_reducible refine Gx.alloc ?_) | (with_reducible refine Gx.drew ?_) | (with_reducible refine Gx.drewN ?_) | (with_reducible refine Gx.setRow ?_ (by first | omega | (simp; done) | (simp <;> omega))) | (with_reducible refine Gx.setCell ?_ (by first | omega | (simp; done) | (simp <;> omega))))), ?_, ?_, ?_, ?_, ?_⟩ <;> (focus (repeat (first | (with_reducible assumption) | (with_reducible refine cell_keep_gx ?_) | (with_reducible refine cell_keep_alloc ?_) | (with_reducible refine cell_keep_drew3 ?_) | (with_reducible refine cell_keep_drewN3 ?_)))))
                (first | (go_at_call 41; refine (HAp.out _).mono ?_; rintro e w' ⟨rfl, y, rfl⟩) | (go_at_call 40; refine (HSt.out _).mono ?_; rw [hd2]; rintro e w' ⟨rfl, y2, rfl⟩))
              all_goals go_wp2
              all_goals go_roundw
              all_goals first
                | exact ⟨j + 1, (p : Int), (q' : Int), (j' : Int), .inl (by omega), by go_num, rfl, rfl, rfl, by rw [hs2.out]; exact ⟨rfl, rfl, rfl⟩, (by have hs := HSb.out; exact StSt.of hs (by repeat (first | (with_reducible exact Gx.refl _) | (with_reducible assumption) | (with_reducible refine Gx.gx ?_) | (with_reducible refine Gx.alloc ?_) | (with_reducible refine Gx.drew ?_) | (with_reducible refine Gx.drewN ?_) | (with_reducible refine Gx.setRow ?_ (by first | omega | (simp; done) | (simp <;> omega))) | (with_reducible refine Gx.setCell ?_ (by first | omega | (simp; done) | (simp <;> omega))))))⟩
                | (simp [intOf]; omega)
            · refine world_of3 (fun W => (∃ x, W = gx wr x) ∧ W.cell? ⟨wr.heap.size + 1, 0, none⟩ = some (.int .i64 yt) ∧ W.cell? ⟨wr.heap.size + 1, 1, none⟩ = some (.int .i64 yn) ∧ W.cell? ⟨wr.heap.size, 0, none⟩ = some (.int .i64 xt) ∧ W.cell? ⟨wr.heap.size, 1, none⟩ = some (.int .i64 xn)) ⟨(by repeat (first | (with_reducible exact Gx.refl _) | (with_reducible assumption) | (with_reducible refine Gx.gx ?_) | (with_reducible refine Gx.alloc ?_) | (with_reducible refine Gx.drew ?_) | (with_reducible refine Gx.drewN ?_) | (with_reducible refine Gx.setRow ?_ (by first | omega | (simp; done) | (simp <;> omega))) | (with_reducible refine Gx.setCell ?_ (by first | omega | (simp; done) | (simp <;> omega))))), by simp [go_sem], by simp [go_sem], by simp [go_sem], by simp [go_sem]⟩ ?_
              rintro Wb ⟨GB, b1, b2, b3, b4⟩
              have HSb := Lib.hid (StSt.of HS.out GB)
              have k1 := World.block_lt_of_cell? Wb _ b1
              have k3 := World.block_lt_of_cell? Wb _ b3
              simp only at k1 k3
              have n1' : Wb.cell? ⟨gL, j + 1, none⟩ = some (.int .i64 (xi : Int)) := by obtain ⟨x, rfl⟩ := GB; exact cell_keep_gx n1
              have kL := World.block_lt_of_cell? Wb _ n1'
              simp only at kL
              go_region_held3 (fun W => (∃ x, W = gx Wb x) ∧ W.cell? ⟨wr.heap.size + 1, 0, none⟩ = some (.int .i64 yt) ∧ W.cell? ⟨wr.heap.size + 1, 1, none⟩ = some (.int .i64 yn) ∧ W.cell? ⟨wr.heap.size, 0, none⟩ = some (.int .i64 xt) ∧ W.cell? ⟨wr.heap.size, 1, none⟩ = some (.int .i64 xn) ∧ W.cell? ⟨gL, j + 1, none⟩ = some (.int .i64 (xi : Int)))
                (refine ⟨(by repeat (first | (with_reducible exact Gx.refl _) | (with_reducible assumption) | (with_reducible refine Gx.gx ?_) | (with_reducible refine Gx.alloc ?_) | (with_reducible refine Gx.drew ?_) | (with_reducible refine Gx.drewN ?_) | (with_reducible refine Gx.setRow ?_ (by first | omega | (simp; done) | (simp <;> omega))) | (with_reducible refine Gx.setCell ?_ (by first | omega | (simp; done) | (simp <;> omega))))), ?_, ?_, ?_, ?_, ?_⟩ <;> (focus (repeat (first | (with_reducible assumption) | (with_reducible refine cell_keep_gx ?_) | (with_reducible refine cell_keep_alloc ?_) | (with_reducible refine cell_keep_drew3 ?_) | (with_reducible refine cell_keep_drewN3 ?_)))))
                (first | (go_at_call 41; refine (HAp.out _).mono ?_; rintro e w' ⟨rfl, y, rfl⟩) | (go_at_call 40; refine (HSt.out _).mono ?_; rw [hd2]; rintro e w' ⟨rfl, y2, rfl⟩))
              all_goals go_wp2
              all_goals go_roundw
              all_goals first
                | exact ⟨j + 1, (p : Int), (q' : Int), (j' : Int), .inl (by omega), by go_num, rfl, rfl, rfl, by rw [hs2.out]; exact ⟨rfl, rfl, rfl⟩, (by have hs := HSb.out; exact StSt.of hs (by repeat (first | (with_reducible exact Gx.refl _) | (with_reducible assumption) | (with_reducible refine Gx.gx ?_) | (with_reducible refine Gx.alloc ?_) | (with_reducible refine Gx.drew ?_) | (with_reducible refine Gx.drewN ?_) | (with_reducible refine Gx.setRow ?_ (by first | omega | (simp; done) | (simp <;> omega))) | (with_reducible refine Gx.setCell ?_ (by first | omega | (simp; done) | (simp <;> omega))))))⟩
                | (simp [intOf]; omega)
    · have ej : max 1 q = j + 1 := by omega
      rw [ej] at E0 E1
      have hjq : decide ((j : Int) + 1 < (q : Int)) = false := decide_eq_false (by omega)
      have c0 : wr.cell? ⟨w.heap.size + 1, 0, none⟩ = some (.int .i64 0) := by rw [cell_of_row wr _ _ _ _ _ hst.rat]; rfl
      have c1 : wr.cell? ⟨w.heap.size + 1, 1, none⟩ = some (.int .i64 0) := by rw [cell_of_row wr _ _ _ _ _ hst.rat]; rfl
      have y0 : wr.frozen? ⟨w.heap.size + 1, 0, none⟩ = false := hst.rat.frz
      have y1 : wr.frozen? ⟨w.heap.size + 1, 1, none⟩ = false := hst.rat.frz
      have l1 : w.heap.size + 1 < wr.heap.size := hst.rat.lt
      cases hsp : stP g L lg (j + 1) with
      | none =>
        rw [hsp] at hR
        obtain ⟨rfl, rfl, rfl⟩ := hR
        obtain ⟨rfl, rfl, rfl, rfl⟩ := E0.out hsp
        clear E0 E1 hst H1 H2 hb hinc hpo hLn
        go_wp2
        exact bodyPost_ret (v := .tuple #[ratV 0 0, .int .i64 0, .int .i64 13]) (by simp [results, Tryd.results13, go_sem, c0, c1]) rfl ⟨rfl, by have hx := HS.out.grew; exact (by repeat (first | (with_reducible exact Gx.refl _) | (with_reducible assumption) | (with_reducible refine Gx.gx ?_) | (with_reducible refine Gx.alloc ?_) | (with_reducible refine Gx.drew ?_) | (with_reducible refine Gx.drewN ?_) | (with_reducible refine Gx.setRow ?_ (by first | omega | (simp; done) | (simp <;> omega))) | (with_reducible refine Gx.setCell ?_ (by first | omega | (simp; done) | (simp <;> omega)))))⟩
      | some s =>
        obtain ⟨p, q', j'⟩ := s
        rw [hsp] at hR
        obtain ⟨rfl, rfl, rfl⟩ := hR
        have hjl : j + 1 ≤ L.length := by
          rcases hj with h | h
          · rw [← HQ.out]; exact h
          · subst h; cases hsp
        obtain ⟨hp1, hq0, hq1, -⟩ := hpo (j + 1) hjl p q' j' hsp
        obtain ⟨aa, bb, ea, eb, ha, hb0', hbT, haa, hbb⟩ := low_nat p hq0
        obtain ⟨e5, e6, rfl, rfl⟩ := E1.out p q' j' hsp
        rw [ea] at e5
        rw [eb] at e6
        subst e5
        subst e6
        have hG := fun W => gcd_any q' p (by omega) (by omega) W
        rw [Nat.gcd_comm] at hG
        have hG0 : 0 < Nat.gcd p q' := Nat.gcd_pos_of_pos_right _ hq0
        generalize Nat.gcd p q' = G at *
        have t1 : (p : Int).tdiv (G : Int) = (aa : Int) := by rw [haa]; rfl
        have t2 : (q' : Int).tdiv (G : Int) = (bb : Int) := by rw [hbb]; rfl
        have t3 : IntKind.i64.wrap (aa : Int) = (aa : Int) := by rw [IntKind.wrap_i64]; omega
        have t4 : IntKind.i64.wrap (bb : Int) = (bb : Int) := by rw [IntKind.wrap_i64]; omega
        have t5 : ((G : Int) == 0) = false := by rw [beq_eq_false_iff_ne]; omega
        have t6 : ¬ (G : Int) = 0 := by omega
        have t7 : ((q' : Int) == 0) = false := by rw [beq_eq_false_iff_ne]; omega
        have t8 : ¬ (q' : Int) = 0 := by omega
        have t9 : decide (q' = 0) = false := decide_eq_false (by omega)
        have t10 : ¬ q' = 0 := by omega
        have HG := Lib.hid hG
        clear E0 E1 hst H1 H2 hb hinc hpo hLn hG haa hbb ea eb hp1 hq0 hq1 ha hb0' hbT hsp
        go_wp2_with (go_at_call 42; refine (HG.out _).mono ?_; rintro e w' ⟨rfl, y, rfl⟩)
        go_region
        all_goals go_wp2
        all_goals exact bodyPost_ret (v := .tuple #[ratV aa bb, .int .i64 j', .int .i64 0]) (by simp [results, Tryd.results13, go_sem, cell_keep_gx (two_cells3 c0 c1).1, cell_keep_gx (two_cells3 c0 c1).2]) rfl ⟨rfl, by have hx := HS.out.grew; exact (by repeat (first | (with_reducible exact Gx.refl _) | (with_reducible assumption) | (with_reducible refine Gx.gx ?_) | (with_reducible refine Gx.alloc ?_) | (with_reducible refine Gx.drew ?_) | (with_reducible refine Gx.drewN ?_) | (with_reducible refine Gx.setRow ?_ (by first | omega | (simp; done) | (simp <;> omega))) | (with_reducible refine Gx.setCell ?_ (by first | omega | (simp; done) | (simp <;> omega)))))⟩
end Go.Proofs.YtikgfidpdghkpaaDoor
