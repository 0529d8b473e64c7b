/-
  Steepest of the program.
-/
import Derived.Test.YtikgfidpdghkpaaDoorSSteep
namespace Go.Proofs.YtikgfidpdghkpaaDoor
open Go.RowKit
-- AT2
-- AT3

theorem sol_low {b : Nat} {W : World} {t : TypeId} {sz n gL c : Nat} {xs : List Value} (h : Own b W t sz (.slice (some ⟨gL, 0, none⟩) n c) n xs) (hl : 0 < n) : b ≤ gL := by
  rcases h.out.2 with ⟨e, h0⟩ | ⟨g', cap, cur, e, hb, _⟩
  · omega
  · simp only [Value.slice.injEq, Option.some.injEq, Addr.mk.injEq] at e
    omega
theorem At.two0 {W : World} {K : Nat} {a b u : Value} {t : TypeId} (h : At W K (.cells #[a, b] t (0, 0))) : At (W.setCell ⟨K, 0, none⟩ u) K (.cells #[u, b] t (0, 0)) := by
  unfold At at *
  simp [World.setCell, Array.getElem?_modify, h]
theorem At.two1 {W : World} {K : Nat} {a b u : Value} {t : TypeId} (h : At W K (.cells #[a, b] t (0, 0))) : At (W.setCell ⟨K, 1, none⟩ u) K (.cells #[a, u] t (0, 0)) := by
  unfold At at *
  simp [World.setCell, Array.getElem?_modify, h]
theorem SolAt.setc {W : World} {g : Nat → Sm} {L : List Nat} {gL K o : Nat} {u : Value} (h : SolAt W g L gL) (hne : K ≠ gL) : SolAt (W.setCell ⟨K, o, none⟩ u) g L gL := by
  have key : ∀ j v, W.cell? ⟨gL, j, none⟩ = some v → (W.setCell ⟨K, o, none⟩ u).cell? ⟨gL, j, none⟩ = some v := fun j v e => setc_other e (fun e => by injection e with e1; exact hne e1)
  refine ⟨by have := h.1; simpa using this, fun k hk => ?_⟩
  obtain ⟨a, b, c, d⟩ := h.2 k hk
  exact ⟨key _ _ a, key _ _ b, key _ _ c, key _ _ d⟩
/-- The steepest so far, as the program holds it. -/
def stR : Option (Nat × Nat × Nat) → Int → Int → Int → Prop
  | none, _, _, num => num = -1
  | some (p, q, j), a, b, num => num = (j : Int) ∧ a = lowN (p : Int) q ∧ b = lowD (p : Int) q
/-- What Steepest has at hand in its loop. -/
structure SsSt (w wr : World) (gS gL : Nat) (g : Nat → Sm) (L : List Nat) (a b : Int) : Prop where
  grew : ∃ x, wr = gx w x
  rat : At wr (w.heap.size + 1) (.cells #[.int .i64 0, .int .i64 0] 35 (0, 0))
  stp : At wr gS (.cells #[.int .i64 a, .int .i64 b] 35 (0, 0))
  sol : 0 < L.length → SolAt wr g L gL
  far : w.heap.size + 1 < gS ∧ (0 < L.length → gS ≠ gL)
theorem SsSt.gx {w wr : World} {gS gL : Nat} {g : Nat → Sm} {L : List Nat} {a b : Int} {x : Ext} (h : SsSt w wr gS gL g L a b) : SsSt w (gx wr x) gS gL g L a b :=
  ⟨Gx.gx h.grew, h.rat.gx, h.stp.gx, fun h0 => (h.sol h0).onx, h.far⟩
theorem SsSt.alloc {w wr : World} {gS gL : Nat} {g : Nat → Sm} {L : List Nat} {a b : Int} {o : Obj} (h : SsSt w wr gS gL g L a b) : SsSt w (wr.alloc o) gS gL g L a b := by rw [alloc_is]; exact h.gx
theorem SsSt.drew {w wr : World} {gS gL : Nat} {g : Nat → Sm} {L : List Nat} {a b : Int} (h : SsSt w wr gS gL g L a b) : SsSt w wr.drew gS gL g L a b := by rw [drew_is]; exact h.gx
theorem SsSt.of {w wr W : World} {gS gL : Nat} {g : Nat → Sm} {L : List Nat} {a b : Int} (h : SsSt w wr gS gL g L a b) (hW : ∃ x, W = Go.Proofs.YtikgfidpdghkpaaDoor.gx wr x) : SsSt w W gS gL g L a b := by
  obtain ⟨x, rfl⟩ := hW; exact h.gx
theorem SsSt.put {w wr : World} {gS gL : Nat} {g : Nat → Sm} {L : List Nat} {a b a' b' : Int} (h : SsSt w wr gS gL g L a b) : SsSt w ((wr.setCell ⟨gS, 0, none⟩ (.int .i64 a')).setCell ⟨gS, 1, none⟩ (.int .i64 b')) gS gL g L a' b' := by
  obtain ⟨f1, f2⟩ := h.far
  exact ⟨Gx.setCell (Gx.setCell h.grew (by omega)) (by omega), At.setc_other (At.setc_other h.rat (by omega)) (by omega), h.stp.two0.two1, fun h0 => ((h.sol h0).setc (f2 h0)).setc (f2 h0), h.far⟩
theorem cell_keep_drew'' {w : World} {a : Addr} {v : Value} (h : w.cell? a = some v) : w.drew.cell? a = some v := h
theorem world_of' {K : World → Prop} {W : World} (S : World → Prop) (hS : S W) (h : ∀ W', S W' → K W') : K W := h W hS
set_option maxHeartbeats 8000000 in
set_option maxRecDepth 100000 in
theorem Steepest_core (den : Int) (g : Nat → Sm) (n c : Nat) (A : Option Addr) (lg : Int) (L : List Nat) (w : World) (hlen : L.length ≤ 20000) (hL : SmAt w g n A)
    (hb : Hid (∀ i, i < L.length → 0 ≤ (g (L.getD i 0)).t ∧ (g (L.getD i 0)).t ≤ 1099511627776 ∧ -1125899906842624 ≤ (g (L.getD i 0)).n ∧ (g (L.getD i 0)).n ≤ 1125899906842624))
    (hinc : Hid (∀ i, i + 1 < L.length → (g (L.getD i 0)).t < (g (L.getD (i + 1) 0)).t))
    (H1 : Hid (∀ W, SmAt W g n A → Calls Tryd.prog 36 #[serV den A n c, .int .i64 0, .int .i64 lg] W fun e w' => e = .returned (.int .i64 0) ∧ ∃ x, w' = gx W x))
    (H2 : Hid (∀ W, SmAt W g n A → Calls Tryd.prog 15 #[.slice A n c] W fun e w' => ∃ A' c' x, e = .returned (.slice A' L.length c') ∧ w' = gx W x ∧ Own W.heap.size w' 46 4 (.slice A' L.length c') L.length (slC g L)))
    (P Q R E : Int) (E0 : Hid (stP g L lg (max 1 L.length) = none → P = 0 ∧ Q = 0 ∧ R = 0 ∧ E = 13)) (E1 : Hid (∀ p q j, stP g L lg (max 1 L.length) = some (p, q, j) → P = lowN (p : Int) q ∧ Q = lowD (p : Int) q ∧ R = (j : Int) ∧ E = 0)) :
    Calls Tryd.prog 12 #[serV den A n c, .int .i64 lg] w fun e w' => e = .returned (.tuple #[ratV P Q, .int .i64 R, .int .i64 E]) ∧ ∃ x, w' = gx w x := by
  have hpo := stP_ok (lg := lg) hb.out hinc.out
  obtain ⟨q, hq⟩ : ∃ q, q = L.length := ⟨_, rfl⟩
  have HQ := Lib.hid hq
  rw [← hq] at hlen H2 E0 E1
  clear hq
  go_enter Tryd.func12, Tryd.ntmps12
  go_wp2_with first
    | (go_at_call 36; refine (H1.out _ (by (repeat (first | (with_reducible assumption) | (with_reducible refine SmAt.gx ?_) | (with_reducible refine SmAt.alloc ?_))))).mono ?_; rintro e w' ⟨rfl, x1, rfl⟩)
    | (go_at_call 15; refine (H2.out _ (by (repeat (first | (with_reducible assumption) | (with_reducible refine SmAt.gx ?_) | (with_reducible refine SmAt.alloc ?_))))).mono ?_; rintro e w' ⟨A2, c2, x2, rfl, hW2, hO2⟩; have hX2 : (∃ y, w' = gx ((gx ((w.alloc (.cells #[.int .i64 den, .slice A n c] 24)).alloc (.cells #[.int .i64 0, .int .i64 0] 35)) x1).alloc (.cells #[.int .i64 0, .int .i64 0] 35)) y) := (by rw [hW2]; exact (by repeat (first | (with_reducible exact Gx.refl _) | (with_reducible assumption) | (with_reducible refine Gx.gx ?_) | (with_reducible refine Gx.alloc ?_) | (with_reducible refine Gx.drew ?_) | (with_reducible refine Gx.drewN ?_) | (with_reducible refine Gx.setRow ?_ (by first | omega | (simp; done) | (simp <;> omega))) | (with_reducible refine Gx.setCell ?_ (by first | omega | (simp; done) | (simp <;> omega)))))); clear hW2)
  obtain ⟨gS, hgS⟩ : ∃ gS, gS = w.heap.size + 1 + 1 + x1.n := ⟨_, rfl⟩
  rw [← hgS]
  have hsz : ((gx ((w.alloc (.cells #[.int .i64 den, .slice A n c] 24)).alloc (.cells #[.int .i64 0, .int .i64 0] 35)) x1).alloc (.cells #[.int .i64 0, .int .i64 0] 35)).heap.size = gS + 1 := by simp; omega
  have hlist : 0 < L.length → ∃ gL, A2 = some ⟨gL, 0, none⟩ ∧ SolAt w' g L gL ∧ gS < gL := fun h0 => by
    rw [HQ.out] at hO2
    obtain ⟨gL, rfl, h1, h2⟩ := sol_cells hO2 h0
    have := sol_low hO2 h0
    exact ⟨gL, rfl, ⟨h1, h2⟩, by omega⟩
  obtain ⟨gL, hA2, hSo, hSL⟩ : ∃ gL, (0 < L.length → A2 = some ⟨gL, 0, none⟩) ∧ (0 < L.length → SolAt w' g L gL) ∧ (0 < L.length → gS ≠ gL) := by
    rcases Nat.eq_zero_or_pos L.length with h0 | h0
    · exact ⟨0, fun h => by omega, fun h => by omega, fun h => by omega⟩
    · obtain ⟨gL, e1, e2, e3⟩ := hlist h0
      exact ⟨gL, fun _ => e1, fun _ => e2, fun _ => by omega⟩
  have M1 : SsSt w w' gS gL g L 0 0 := by
    refine ⟨?_, ?_, ?_, hSo, by omega, hSL⟩
    · obtain ⟨y, rfl⟩ := hX2; exact (by repeat (first | (with_reducible exact Gx.refl _) | (with_reducible assumption) | (with_reducible refine Gx.gx ?_) | (with_reducible refine Gx.alloc ?_) | (with_reducible refine Gx.drew ?_) | (with_reducible refine Gx.drewN ?_) | (with_reducible refine Gx.setRow ?_ (by first | omega | (simp; done) | (simp <;> omega))) | (with_reducible refine Gx.setCell ?_ (by first | omega | (simp; done) | (simp <;> omega)))))
    · obtain ⟨y, rfl⟩ := hX2; exact At.gx (At.alloc (At.gx (At.new' (by simp))))
    · obtain ⟨y, rfl⟩ := hX2; exact At.gx (At.new' (by simp; omega))
  have HM1 := Lib.hid M1
  clear M1 hX2 hO2 hlist hSo hSL hsz hL hgS
  go_loopw [11, 9] (fun i s wr => ∃ (j : Nat) (num a b : Int), (j + 1 ≤ q ∨ j = 0) ∧ i = .int .i64 ((j : Int) + 1) ∧ s = .int .i64 num ∧ Hid (stR (stP g L lg (j + 1)) a b num) ∧ SsSt w wr gS gL g L a b) (fun i _ _ => q - (intOf i).toNat)
  case atStart => exact ⟨0, -1, 0, 0, .inr rfl, rfl, rfl, rfl, HM1.out⟩
  case round =>
    obtain ⟨j, num, a, b, hj, rfl, rfl, hR, hst⟩ := hrel
    have s0 : wr.cell? ⟨gS, 0, none⟩ = some (.int .i64 a) := by rw [cell_of_row wr _ _ _ _ _ hst.stp]; rfl
    have s1 : wr.cell? ⟨gS, 1, none⟩ = some (.int .i64 b) := by rw [cell_of_row wr _ _ _ _ _ hst.stp]; rfl
    have sf0 : wr.frozen? ⟨gS, 0, none⟩ = false := hst.stp.frz
    have sf1 : wr.frozen? ⟨gS, 1, none⟩ = false := hst.stp.frz
    have lS : gS < wr.heap.size := hst.stp.lt
    have hfar := hst.far
    have HS := Lib.hid hst
    by_cases hlt : j + 1 < q
    · have hkz : (j : Int) + 1 < (q : Int) := by omega
      have hjz : (j : Int) < (q : Int) := by omega
      have h0 : 0 < L.length := by rw [← HQ.out]; omega
      obtain rfl := hA2 h0
      obtain ⟨lL, hc⟩ := hst.sol h0
      obtain ⟨d1, d2, d3, d4⟩ := hc (j + 1) (by rw [← HQ.out]; exact hlt)
      obtain ⟨p1, p2, p3, p4⟩ := hc j (by rw [← HQ.out]; omega)
      have bX := hb.out (j + 1) (by rw [← HQ.out]; exact hlt)
      have bY := hb.out j (by rw [← HQ.out]; omega)
      have hin := hinc.out j (by rw [← HQ.out]; exact hlt)
      have hpo1 := hpo (j + 1) (by rw [← HQ.out]; omega)
      have hfar2 := @stP_far g L lg j
      have hfirst := @stP_first g L lg j
      have hmore := @stP_more g L lg j
      have e1 : IntKind.i64.wrap ((j : Int) + 1 - 1) = (j : Int) := by rw [IntKind.wrap_i64]; omega
      have e3 : IntKind.i64.wrap ((j : Int) + 1 + 1) = ((j + 1 : Nat) : Int) + 1 := by rw [IntKind.wrap_i64]; omega
      obtain ⟨T, hT⟩ : ∃ T : Nat, (g (L.getD (j + 1) 0)).t - (g (L.getD j 0)).t = (T : Int) := ⟨((g (L.getD (j + 1) 0)).t - (g (L.getD j 0)).t).toNat, by omega⟩
      obtain ⟨N, hN⟩ : ∃ N, ((g (L.getD (j + 1) 0)).n - (g (L.getD j 0)).n).natAbs = N := ⟨_, rfl⟩
      have hT0 : 0 < T := by omega
      have hT1 : T ≤ 1099511627776 := by omega
      have hN1 : N ≤ 2251799813685248 := by omega
      have e2 : IntKind.i64.wrap ((g (L.getD (j + 1) 0)).t - (g (L.getD j 0)).t) = (T : Int) := by rw [hT, IntKind.wrap_i64]; omega
      have e4 : IntKind.i64.wrap ((g (L.getD (j + 1) 0)).n - (g (L.getD j 0)).n) = (g (L.getD (j + 1) 0)).n - (g (L.getD j 0)).n := by rw [IntKind.wrap_i64]; omega
      have hSz := fun W => size_any ((g (L.getD (j + 1) 0)).n - (g (L.getD j 0)).n) W (by omega) (by omega)
      rw [show sz ((g (L.getD (j + 1) 0)).n - (g (L.getD j 0)).n) = (N : Int) by have := sz_cases ((g (L.getD (j + 1) 0)).n - (g (L.getD j 0)).n); omega] at hSz
      have HSz := Lib.hid hSz
      obtain ⟨aa, bb, ea, eb, ha, hb0, hbT, -, -⟩ := low_nat N hT0
      have hLo := fun W => lowest_any (N : Int) T (by omega) hT0 (by omega) W
      rw [ea, eb] at hLo
      have HLo := Lib.hid hLo
      replace hfar2 := fun h => hfar2 (by rw [hT]; exact h)
      replace hfirst := @hfirst T N hT hN
      replace hmore := @hmore T N
      replace hmore := fun (p q j' : Nat) => @hmore p q j' hT hN
      clear hc hb hinc hSz hLo hT hN bX bY hin hst hpo H1 H2
      generalize (g (L.getD (j + 1) 0)).t = xt at *
      generalize (g (L.getD (j + 1) 0)).n = xn at *
      generalize (g (L.getD (j + 1) 0)).m = xm at *
      generalize (g (L.getD j 0)).t = yt at *
      generalize (g (L.getD j 0)).n = yn at *
      generalize (g (L.getD j 0)).m = ym at *
      generalize L.getD (j + 1) 0 = xi at *
      generalize L.getD j 0 = yi at *
      by_cases hf : lg < (T : Int)
      · have hl : decide (lg < (T : Int)) = true := decide_eq_true hf
        have hs2 := Lib.hid (hfar2 hf)
        clear hfar2 hfirst hmore hpo1
        go_wp2
        go_region
        all_goals go_wp2
        all_goals go_roundw
        all_goals first
          | exact ⟨j + 1, num, a, b, .inl (by omega), by go_num, rfl, by rw [hs2.out]; exact hR, by have hs := HS.out; first | exact hs.alloc.alloc | exact hs.drew.alloc.alloc | exact hs.alloc.alloc.drew⟩
          | (simp [intOf]; omega)
      · have hl : decide (lg < (T : Int)) = false := decide_eq_false hf
        cases hsp : stP g L lg (j + 1) with
        | none =>
          rw [hsp] at hR
          obtain rfl : num = -1 := hR
          have hs2 := Lib.hid (hfirst hf hsp)
          clear hfar2 hfirst hmore hpo1 hsp hf
          go_wp2
          go_region
          all_goals go_wp2
          · refine world_of' (fun W => (∃ x, W = gx wr x) ∧ W.cell? ⟨wr.heap.size, 0, none⟩ = some (.int .i64 yt) ∧ W.cell? ⟨wr.heap.size, 1, none⟩ = some (.int .i64 yn) ∧ W.cell? ⟨wr.heap.size + 1, 0, none⟩ = some (.int .i64 xt) ∧ W.cell? ⟨wr.heap.size + 1, 1, none⟩ = some (.int .i64 xn) ∧ W.cell? ⟨wr.heap.size + 1, 3, none⟩ = some (.int .i64 (xi : Int))) ⟨(by repeat (first | (with_reducible exact Gx.refl _) | (with_reducible assumption) | (with_reducible refine Gx.gx ?_) | (with_reducible refine Gx.alloc ?_) | (with_reducible refine Gx.drew ?_) | (with_reducible refine Gx.drewN ?_) | (with_reducible refine Gx.setRow ?_ (by first | omega | (simp; done) | (simp <;> omega))) | (with_reducible refine Gx.setCell ?_ (by first | omega | (simp; done) | (simp <;> omega))))), by simp [go_sem], by simp [go_sem], by simp [go_sem], by simp [go_sem], by simp [go_sem]⟩ ?_
            rintro Wb ⟨GB, b1, b2, b3, b4, b5⟩
            have HSb := Lib.hid (SsSt.of HS.out GB)
            have u0 : Wb.cell? ⟨gS, 0, none⟩ = some (.int .i64 a) := by rw [cell_of_row Wb _ _ _ _ _ HSb.out.stp]; rfl
            have u1 : Wb.cell? ⟨gS, 1, none⟩ = some (.int .i64 b) := by rw [cell_of_row Wb _ _ _ _ _ HSb.out.stp]; rfl
            have uf0 : Wb.frozen? ⟨gS, 0, none⟩ = false := HSb.out.stp.frz
            have uf1 : Wb.frozen? ⟨gS, 1, none⟩ = false := HSb.out.stp.frz
            have lb : gS < Wb.heap.size := HSb.out.stp.lt
            have lb' : gS ≤ Wb.heap.size := by omega
            have k1 := World.block_lt_of_cell? Wb _ b1
            have k3 := World.block_lt_of_cell? Wb _ b3
            simp only at k1 k3
            go_region_held3 (fun W => (∃ x, W = gx Wb x) ∧ W.cell? ⟨wr.heap.size, 0, none⟩ = some (.int .i64 yt) ∧ W.cell? ⟨wr.heap.size, 1, none⟩ = some (.int .i64 yn) ∧ W.cell? ⟨wr.heap.size + 1, 0, none⟩ = some (.int .i64 xt) ∧ W.cell? ⟨wr.heap.size + 1, 1, none⟩ = some (.int .i64 xn) ∧ W.cell? ⟨gS, 0, none⟩ = some (.int .i64 a) ∧ W.cell? ⟨gS, 1, none⟩ = some (.int .i64 b))
              (refine ⟨(by repeat (first | (with_reducible exact Gx.refl _) | (with_reducible assumption) | (with_reducible refine Gx.gx ?_) | (with_reducible refine Gx.alloc ?_) | (with_reducible refine Gx.drew ?_) | (with_reducible refine Gx.drewN ?_) | (with_reducible refine Gx.setRow ?_ (by first | omega | (simp; done) | (simp <;> omega))) | (with_reducible refine Gx.setCell ?_ (by first | omega | (simp; done) | (simp <;> omega))))), ?_, ?_, ?_, ?_, ?_, ?_⟩ <;> (focus (repeat (first | (with_reducible assumption) | (with_reducible refine cell_keep_gx ?_) | (with_reducible refine cell_keep_alloc ?_) | (with_reducible refine cell_keep_drew'' ?_)))))
              (first | (go_at_call 38; refine (HSz.out _).mono ?_; rintro e w' ⟨rfl, rfl⟩) | (go_at_call 37; refine (HLo.out _).mono ?_; rintro e w' ⟨rfl, y, rfl⟩))
            all_goals go_wp2
            all_goals go_region
            all_goals go_wp2
            all_goals go_roundw
            all_goals first
              | exact ⟨j + 1, (xi : Int), aa, bb, .inl (by omega), by go_num, rfl, by rw [hs2.out]; exact ⟨rfl, ea.symm, eb.symm⟩, (by have hs := HSb.out.put (a' := aa) (b' := bb); first | exact hs.alloc.gx | exact hs.gx.alloc | exact hs.gx.alloc.gx | exact hs.gx | exact hs.alloc | exact hs.drew.alloc.gx | exact hs.drew.gx.alloc | exact (hs.gx.alloc).drew | exact (hs.alloc.gx).drew | exact hs.gx.alloc.gx.drew | exact SsSt.of hs (by repeat (first | (with_reducible exact Gx.refl _) | (with_reducible assumption) | (with_reducible refine Gx.gx ?_) | (with_reducible refine Gx.alloc ?_) | (with_reducible refine Gx.drew ?_) | (with_reducible refine Gx.drewN ?_) | (with_reducible refine Gx.setRow ?_ (by first | omega | (simp; done) | (simp <;> omega))) | (with_reducible refine Gx.setCell ?_ (by first | omega | (simp; done) | (simp <;> omega))))))⟩
              | (simp [intOf]; omega)
          · refine world_of' (fun W => (∃ x, W = gx wr x) ∧ W.cell? ⟨wr.heap.size + 1, 0, none⟩ = some (.int .i64 yt) ∧ W.cell? ⟨wr.heap.size + 1, 1, none⟩ = some (.int .i64 yn) ∧ W.cell? ⟨wr.heap.size, 0, none⟩ = some (.int .i64 xt) ∧ W.cell? ⟨wr.heap.size, 1, none⟩ = some (.int .i64 xn) ∧ W.cell? ⟨wr.heap.size, 3, none⟩ = some (.int .i64 (xi : Int))) ⟨(by repeat (first | (with_reducible exact Gx.refl _) | (with_reducible assumption) | (with_reducible refine Gx.gx ?_) | (with_reducible refine Gx.alloc ?_) | (with_reducible refine Gx.drew ?_) | (with_reducible refine Gx.drewN ?_) | (with_reducible refine Gx.setRow ?_ (by first | omega | (simp; done) | (simp <;> omega))) | (with_reducible refine Gx.setCell ?_ (by first | omega | (simp; done) | (simp <;> omega))))), by simp [go_sem], by simp [go_sem], by simp [go_sem], by simp [go_sem], by simp [go_sem]⟩ ?_
            rintro Wb ⟨GB, b1, b2, b3, b4, b5⟩
            have HSb := Lib.hid (SsSt.of HS.out GB)
            have u0 : Wb.cell? ⟨gS, 0, none⟩ = some (.int .i64 a) := by rw [cell_of_row Wb _ _ _ _ _ HSb.out.stp]; rfl
            have u1 : Wb.cell? ⟨gS, 1, none⟩ = some (.int .i64 b) := by rw [cell_of_row Wb _ _ _ _ _ HSb.out.stp]; rfl
            have uf0 : Wb.frozen? ⟨gS, 0, none⟩ = false := HSb.out.stp.frz
            have uf1 : Wb.frozen? ⟨gS, 1, none⟩ = false := HSb.out.stp.frz
            have lb : gS < Wb.heap.size := HSb.out.stp.lt
            have lb' : gS ≤ Wb.heap.size := by omega
            have k1 := World.block_lt_of_cell? Wb _ b1
            have k3 := World.block_lt_of_cell? Wb _ b3
            simp only at k1 k3
            go_region_held3 (fun W => (∃ x, W = gx Wb x) ∧ W.cell? ⟨wr.heap.size + 1, 0, none⟩ = some (.int .i64 yt) ∧ W.cell? ⟨wr.heap.size + 1, 1, none⟩ = some (.int .i64 yn) ∧ W.cell? ⟨wr.heap.size, 0, none⟩ = some (.int .i64 xt) ∧ W.cell? ⟨wr.heap.size, 1, none⟩ = some (.int .i64 xn) ∧ W.cell? ⟨gS, 0, none⟩ = some (.int .i64 a) ∧ W.cell? ⟨gS, 1, none⟩ = some (.int .i64 b))
              (refine ⟨(by repeat (first | (with_reducible exact Gx.refl _) | (with_reducible assumption) | (with_reducible refine Gx.gx ?_) | (with_reducible refine Gx.alloc ?_) | (with_reducible refine Gx.drew ?_) | (with_reducible refine Gx.drewN ?_) | (with_reducible refine Gx.setRow ?_ (by first | omega | (simp; done) | (simp <;> omega))) | (with_reducible refine Gx.setCell ?_ (by first | omega | (simp; done) | (simp <;> omega))))), ?_, ?_, ?_, ?_, ?_, ?_⟩ <;> (focus (repeat (first | (with_reducible assumption) | (with_reducible refine cell_keep_gx ?_) | (with_reducible refine cell_keep_alloc ?_) | (with_reducible refine cell_keep_drew'' ?_)))))
              (first | (go_at_call 38; refine (HSz.out _).mono ?_; rintro e w' ⟨rfl, rfl⟩) | (go_at_call 37; refine (HLo.out _).mono ?_; rintro e w' ⟨rfl, y, rfl⟩))
            all_goals go_wp2
            all_goals go_region
            all_goals go_wp2
            all_goals go_roundw
            all_goals first
              | exact ⟨j + 1, (xi : Int), aa, bb, .inl (by omega), by go_num, rfl, by rw [hs2.out]; exact ⟨rfl, ea.symm, eb.symm⟩, (by have hs := HSb.out.put (a' := aa) (b' := bb); first | exact hs.alloc.gx | exact hs.gx.alloc | exact hs.gx.alloc.gx | exact hs.gx | exact hs.alloc | exact hs.drew.alloc.gx | exact hs.drew.gx.alloc | exact (hs.gx.alloc).drew | exact (hs.alloc.gx).drew | exact hs.gx.alloc.gx.drew | exact SsSt.of hs (by repeat (first | (with_reducible exact Gx.refl _) | (with_reducible assumption) | (with_reducible refine Gx.gx ?_) | (with_reducible refine Gx.alloc ?_) | (with_reducible refine Gx.drew ?_) | (with_reducible refine Gx.drewN ?_) | (with_reducible refine Gx.setRow ?_ (by first | omega | (simp; done) | (simp <;> omega))) | (with_reducible refine Gx.setCell ?_ (by first | omega | (simp; done) | (simp <;> omega))))))⟩
              | (simp [intOf]; omega)
        | some s =>
          obtain ⟨p, q', j'⟩ := s
          rw [hsp] at hR
          obtain ⟨rfl, rfl, rfl⟩ := hR
          obtain ⟨hp1, hq0, hq1, kk, hkk, hjk⟩ := hpo1 p q' j' hsp
          obtain ⟨cc, dd, ec, ed, hc, hd0, hdT, -, -⟩ := low_nat p hq0
          have hst2 := steep_low hT0 hq0 ea eb ec ed
          have hss := hmore p q' j' hf hsp
          have HIs := Lib.hid (fun W => isSteeper_any aa bb cc dd (by omega) (by omega) (by omega) (by omega) W)
          have hj0 : decide ((j' : Int) < 0) = false := decide_eq_false (by omega)
          rw [ec] at s0
          rw [ed] at s1
          have HS' : Hid (SsSt w wr gS gL g L (cc : Int) (dd : Int)) := by have h := HS.out; rw [ec, ed] at h; exact h
          have HS := HS'
          clear HS'
          by_cases hyes : p * T < N * q'
          · have hd2 : decide (cc * bb < aa * dd) = true := decide_eq_true (hst2.2 hyes)
            rw [if_pos hyes] at hss
            have hs2 := Lib.hid hss
            clear hfar2 hfirst hmore hpo1 hsp hf hst2 hyes hss hjk hkk
            go_wp2
            go_region
            all_goals go_wp2
            · refine world_of' (fun W => (∃ x, W = gx wr x) ∧ W.cell? ⟨wr.heap.size, 0, none⟩ = some (.int .i64 yt) ∧ W.cell? ⟨wr.heap.size, 1, none⟩ = some (.int .i64 yn) ∧ W.cell? ⟨wr.heap.size + 1, 0, none⟩ = some (.int .i64 xt) ∧ W.cell? ⟨wr.heap.size + 1, 1, none⟩ = some (.int .i64 xn) ∧ W.cell? ⟨wr.heap.size + 1, 3, none⟩ = some (.int .i64 (xi : Int))) ⟨(by repeat (first | (with_reducible exact Gx.refl _) | (with_reducible assumption) | (with_reducible refine Gx.gx ?_) | (with_reducible refine Gx.alloc ?_) | (with_reducible refine Gx.drew ?_) | (with_reducible refine Gx.drewN ?_) | (with_reducible refine Gx.setRow ?_ (by first | omega | (simp; done) | (simp <;> omega))) | (with_reducible refine Gx.setCell ?_ (by first | omega | (simp; done) | (simp <;> omega))))), by simp [go_sem], by simp [go_sem], by simp [go_sem], by simp [go_sem], by simp [go_sem]⟩ ?_
              rintro Wb ⟨GB, b1, b2, b3, b4, b5⟩
              have HSb := Lib.hid (SsSt.of HS.out GB)
              have u0 : Wb.cell? ⟨gS, 0, none⟩ = some (.int .i64 (cc : Int)) := by rw [cell_of_row Wb _ _ _ _ _ HSb.out.stp]; rfl
              have u1 : Wb.cell? ⟨gS, 1, none⟩ = some (.int .i64 (dd : Int)) := by rw [cell_of_row Wb _ _ _ _ _ HSb.out.stp]; rfl
              have uf0 : Wb.frozen? ⟨gS, 0, none⟩ = false := HSb.out.stp.frz
              have uf1 : Wb.frozen? ⟨gS, 1, none⟩ = false := HSb.out.stp.frz
              have lb : gS < Wb.heap.size := HSb.out.stp.lt
              have lb' : gS ≤ Wb.heap.size := by omega
              have k1 := World.block_lt_of_cell? Wb _ b1
              have k3 := World.block_lt_of_cell? Wb _ b3
              simp only at k1 k3
              go_region_held3 (fun W => (∃ x, W = gx Wb x) ∧ W.cell? ⟨wr.heap.size, 0, none⟩ = some (.int .i64 yt) ∧ W.cell? ⟨wr.heap.size, 1, none⟩ = some (.int .i64 yn) ∧ W.cell? ⟨wr.heap.size + 1, 0, none⟩ = some (.int .i64 xt) ∧ W.cell? ⟨wr.heap.size + 1, 1, none⟩ = some (.int .i64 xn) ∧ W.cell? ⟨gS, 0, none⟩ = some (.int .i64 (cc : Int)) ∧ W.cell? ⟨gS, 1, none⟩ = some (.int .i64 (dd : Int)))
                (refine ⟨(by repeat (first | (with_reducible exact Gx.refl _) | (with_reducible assumption) | (with_reducible refine Gx.gx ?_) | (with_reducible refine Gx.alloc ?_) | (with_reducible refine Gx.drew ?_) | (with_reducible refine Gx.drewN ?_) | (with_reducible refine Gx.setRow ?_ (by first | omega | (simp; done) | (simp <;> omega))) | (with_reducible refine Gx.setCell ?_ (by first | omega | (simp; done) | (simp <;> omega))))), ?_, ?_, ?_, ?_, ?_, ?_⟩ <;> (focus (repeat (first | (with_reducible assumption) | (with_reducible refine cell_keep_gx ?_) | (with_reducible refine cell_keep_alloc ?_) | (with_reducible refine cell_keep_drew'' ?_)))))
                (first | (go_at_call 38; refine (HSz.out _).mono ?_; rintro e w' ⟨rfl, rfl⟩) | (go_at_call 37; refine (HLo.out _).mono ?_; rintro e w' ⟨rfl, y, rfl⟩))
              all_goals go_wp2_with (go_at_call 39; refine (HIs.out _).mono ?_; rw [hd2]; rintro e w' ⟨rfl, y2, rfl⟩)
              all_goals go_region
              all_goals go_wp2
              all_goals go_roundw
              all_goals first
                | exact ⟨j + 1, (xi : Int), aa, bb, .inl (by omega), by go_num, rfl, by rw [hs2.out]; exact ⟨rfl, ea.symm, eb.symm⟩, (by have hs := HSb.out.put (a' := aa) (b' := bb); first | exact hs.alloc.gx | exact hs.gx.alloc | exact hs.gx.alloc.gx | exact hs.gx | exact hs.alloc | exact hs.drew.alloc.gx | exact hs.drew.gx.alloc | exact (hs.gx.alloc).drew | exact (hs.alloc.gx).drew | exact hs.gx.alloc.gx.drew | exact SsSt.of hs (by repeat (first | (with_reducible exact Gx.refl _) | (with_reducible assumption) | (with_reducible refine Gx.gx ?_) | (with_reducible refine Gx.alloc ?_) | (with_reducible refine Gx.drew ?_) | (with_reducible refine Gx.drewN ?_) | (with_reducible refine Gx.setRow ?_ (by first | omega | (simp; done) | (simp <;> omega))) | (with_reducible refine Gx.setCell ?_ (by first | omega | (simp; done) | (simp <;> omega))))))⟩
                | (simp [intOf]; omega)
            · refine world_of' (fun W => (∃ x, W = gx wr x) ∧ W.cell? ⟨wr.heap.size + 1, 0, none⟩ = some (.int .i64 yt) ∧ W.cell? ⟨wr.heap.size + 1, 1, none⟩ = some (.int .i64 yn) ∧ W.cell? ⟨wr.heap.size, 0, none⟩ = some (.int .i64 xt) ∧ W.cell? ⟨wr.heap.size, 1, none⟩ = some (.int .i64 xn) ∧ W.cell? ⟨wr.heap.size, 3, none⟩ = some (.int .i64 (xi : Int))) ⟨(by repeat (first | (with_reducible exact Gx.refl _) | (with_reducible assumption) | (with_reducible refine Gx.gx ?_) | (with_reducible refine Gx.alloc ?_) | (with_reducible refine Gx.drew ?_) | (with_reducible refine Gx.drewN ?_) | (with_reducible refine Gx.setRow ?_ (by first | omega | (simp; done) | (simp <;> omega))) | (with_reducible refine Gx.setCell ?_ (by first | omega | (simp; done) | (simp <;> omega))))), by simp [go_sem], by simp [go_sem], by simp [go_sem], by simp [go_sem], by simp [go_sem]⟩ ?_
              rintro Wb ⟨GB, b1, b2, b3, b4, b5⟩
              have HSb := Lib.hid (SsSt.of HS.out GB)
              have u0 : Wb.cell? ⟨gS, 0, none⟩ = some (.int .i64 (cc : Int)) := by rw [cell_of_row Wb _ _ _ _ _ HSb.out.stp]; rfl
              have u1 : Wb.cell? ⟨gS, 1, none⟩ = some (.int .i64 (dd : Int)) := by rw [cell_of_row Wb _ _ _ _ _ HSb.out.stp]; rfl
              have uf0 : Wb.frozen? ⟨gS, 0, none⟩ = false := HSb.out.stp.frz
              have uf1 : Wb.frozen? ⟨gS, 1, none⟩ = false := HSb.out.stp.frz
              have lb : gS < Wb.heap.size := HSb.out.stp.lt
              have lb' : gS ≤ Wb.heap.size := by omega
              have k1 := World.block_lt_of_cell? Wb _ b1
              have k3 := World.block_lt_of_cell? Wb _ b3
              simp only at k1 k3
              go_region_held3 (fun W => (∃ x, W = gx Wb x) ∧ W.cell? ⟨wr.heap.size + 1, 0, none⟩ = some (.int .i64 yt) ∧ W.cell? ⟨wr.heap.size + 1, 1, none⟩ = some (.int .i64 yn) ∧ W.cell? ⟨wr.heap.size, 0, none⟩ = some (.int .i64 xt) ∧ W.cell? ⟨wr.heap.size, 1, none⟩ = some (.int .i64 xn) ∧ W.cell? ⟨gS, 0, none⟩ = some (.int .i64 (cc : Int)) ∧ W.cell? ⟨gS, 1, none⟩ = some (.int .i64 (dd : Int)))
                (refine ⟨(by repeat (first | (with_reducible exact Gx.refl _) | (with_reducible assumption) | (with_reducible refine Gx.gx ?_) | (with_reducible refine Gx.alloc ?_) | (with_reducible refine Gx.drew ?_) | (with_reducible refine Gx.drewN ?_) | (with_reducible refine Gx.setRow ?_ (by first | omega | (simp; done) | (simp <;> omega))) | (with_reducible refine Gx.setCell ?_ (by first | omega | (simp; done) | (simp <;> omega))))), ?_, ?_, ?_, ?_, ?_, ?_⟩ <;> (focus (repeat (first | (with_reducible assumption) | (with_reducible refine cell_keep_gx ?_) | (with_reducible refine cell_keep_alloc ?_) | (with_reducible refine cell_keep_drew'' ?_)))))
                (first | (go_at_call 38; refine (HSz.out _).mono ?_; rintro e w' ⟨rfl, rfl⟩) | (go_at_call 37; refine (HLo.out _).mono ?_; rintro e w' ⟨rfl, y, rfl⟩))
              all_goals go_wp2_with (go_at_call 39; refine (HIs.out _).mono ?_; rw [hd2]; rintro e w' ⟨rfl, y2, rfl⟩)
              all_goals go_region
              all_goals go_wp2
              all_goals go_roundw
              all_goals first
                | exact ⟨j + 1, (xi : Int), aa, bb, .inl (by omega), by go_num, rfl, by rw [hs2.out]; exact ⟨rfl, ea.symm, eb.symm⟩, (by have hs := HSb.out.put (a' := aa) (b' := bb); first | exact hs.alloc.gx | exact hs.gx.alloc | exact hs.gx.alloc.gx | exact hs.gx | exact hs.alloc | exact hs.drew.alloc.gx | exact hs.drew.gx.alloc | exact (hs.gx.alloc).drew | exact (hs.alloc.gx).drew | exact hs.gx.alloc.gx.drew | exact SsSt.of hs (by repeat (first | (with_reducible exact Gx.refl _) | (with_reducible assumption) | (with_reducible refine Gx.gx ?_) | (with_reducible refine Gx.alloc ?_) | (with_reducible refine Gx.drew ?_) | (with_reducible refine Gx.drewN ?_) | (with_reducible refine Gx.setRow ?_ (by first | omega | (simp; done) | (simp <;> omega))) | (with_reducible refine Gx.setCell ?_ (by first | omega | (simp; done) | (simp <;> omega))))))⟩
                | (simp [intOf]; omega)
          · have hd2 : decide (cc * bb < aa * dd) = false := decide_eq_false (fun h => hyes (hst2.1 h))
            rw [if_neg hyes] at hss
            have hs2 := Lib.hid hss
            clear hfar2 hfirst hmore hpo1 hsp hf hst2 hyes hss hjk hkk
            go_wp2
            go_region
            all_goals go_wp2
            · refine world_of' (fun W => (∃ x, W = gx wr x) ∧ W.cell? ⟨wr.heap.size, 0, none⟩ = some (.int .i64 yt) ∧ W.cell? ⟨wr.heap.size, 1, none⟩ = some (.int .i64 yn) ∧ W.cell? ⟨wr.heap.size + 1, 0, none⟩ = some (.int .i64 xt) ∧ W.cell? ⟨wr.heap.size + 1, 1, none⟩ = some (.int .i64 xn) ∧ W.cell? ⟨wr.heap.size + 1, 3, none⟩ = some (.int .i64 (xi : Int))) ⟨(by repeat (first | (with_reducible exact Gx.refl _) | (with_reducible assumption) | (with_reducible refine Gx.gx ?_) | (with_reducible refine Gx.alloc ?_) | (with_reducible refine Gx.drew ?_) | (with_reducible refine Gx.drewN ?_) | (with_reducible refine Gx.setRow ?_ (by first | omega | (simp; done) | (simp <;> omega))) | (with_reducible refine Gx.setCell ?_ (by first | omega | (simp; done) | (simp <;> omega))))), by simp [go_sem], by simp [go_sem], by simp [go_sem], by simp [go_sem], by simp [go_sem]⟩ ?_
              rintro Wb ⟨GB, b1, b2, b3, b4, b5⟩
              have HSb := Lib.hid (SsSt.of HS.out GB)
              have u0 : Wb.cell? ⟨gS, 0, none⟩ = some (.int .i64 (cc : Int)) := by rw [cell_of_row Wb _ _ _ _ _ HSb.out.stp]; rfl
              have u1 : Wb.cell? ⟨gS, 1, none⟩ = some (.int .i64 (dd : Int)) := by rw [cell_of_row Wb _ _ _ _ _ HSb.out.stp]; rfl
              have uf0 : Wb.frozen? ⟨gS, 0, none⟩ = false := HSb.out.stp.frz
              have uf1 : Wb.frozen? ⟨gS, 1, none⟩ = false := HSb.out.stp.frz
              have lb : gS < Wb.heap.size := HSb.out.stp.lt
              have lb' : gS ≤ Wb.heap.size := by omega
              have k1 := World.block_lt_of_cell? Wb _ b1
              have k3 := World.block_lt_of_cell? Wb _ b3
              simp only at k1 k3
              go_region_held3 (fun W => (∃ x, W = gx Wb x) ∧ W.cell? ⟨wr.heap.size, 0, none⟩ = some (.int .i64 yt) ∧ W.cell? ⟨wr.heap.size, 1, none⟩ = some (.int .i64 yn) ∧ W.cell? ⟨wr.heap.size + 1, 0, none⟩ = some (.int .i64 xt) ∧ W.cell? ⟨wr.heap.size + 1, 1, none⟩ = some (.int .i64 xn) ∧ W.cell? ⟨gS, 0, none⟩ = some (.int .i64 (cc : Int)) ∧ W.cell? ⟨gS, 1, none⟩ = some (.int .i64 (dd : Int)))
                (refine ⟨(by repeat (first | (with_reducible exact Gx.refl _) | (with_reducible assumption) | (with_reducible refine Gx.gx ?_) | (with_reducible refine Gx.alloc ?_) | (with_reducible refine Gx.drew ?_) | (with_reducible refine Gx.drewN ?_) | (with_reducible refine Gx.setRow ?_ (by first | omega | (simp; done) | (simp <;> omega))) | (with_reducible refine Gx.setCell ?_ (by first | omega | (simp; done) | (simp <;> omega))))), ?_, ?_, ?_, ?_, ?_, ?_⟩ <;> (focus (repeat (first | (with_reducible assumption) | (with_reducible refine cell_keep_gx ?_) | (with_reducible refine cell_keep_alloc ?_) | (with_reducible refine cell_keep_drew'' ?_)))))
                (first | (go_at_call 38; refine (HSz.out _).mono ?_; rintro e w' ⟨rfl, rfl⟩) | (go_at_call 37; refine (HLo.out _).mono ?_; rintro e w' ⟨rfl, y, rfl⟩))
              all_goals go_wp2_with (go_at_call 39; refine (HIs.out _).mono ?_; rw [hd2]; rintro e w' ⟨rfl, y2, rfl⟩)
              all_goals go_roundw
              all_goals first
                | exact ⟨j + 1, (j' : Int), cc, dd, .inl (by omega), by go_num, rfl, by rw [hs2.out]; exact ⟨rfl, ec.symm, ed.symm⟩, (by have hs := HSb.out; first | exact hs.alloc.gx | exact hs.gx.alloc | exact hs.gx.alloc.gx | exact hs.gx | exact hs.drew.alloc.gx | exact SsSt.of hs (by repeat (first | (with_reducible exact Gx.refl _) | (with_reducible assumption) | (with_reducible refine Gx.gx ?_) | (with_reducible refine Gx.alloc ?_) | (with_reducible refine Gx.drew ?_) | (with_reducible refine Gx.drewN ?_) | (with_reducible refine Gx.setRow ?_ (by first | omega | (simp; done) | (simp <;> omega))) | (with_reducible refine Gx.setCell ?_ (by first | omega | (simp; done) | (simp <;> omega))))))⟩
                | (simp [intOf]; omega)
            · refine world_of' (fun W => (∃ x, W = gx wr x) ∧ W.cell? ⟨wr.heap.size + 1, 0, none⟩ = some (.int .i64 yt) ∧ W.cell? ⟨wr.heap.size + 1, 1, none⟩ = some (.int .i64 yn) ∧ W.cell? ⟨wr.heap.size, 0, none⟩ = some (.int .i64 xt) ∧ W.cell? ⟨wr.heap.size, 1, none⟩ = some (.int .i64 xn) ∧ W.cell? ⟨wr.heap.size, 3, none⟩ = some (.int .i64 (xi : Int))) ⟨(by repeat (first | (with_reducible exact Gx.refl _) | (with_reducible assumption) | (with_reducible refine Gx.gx ?_) | (with_reducible refine Gx.alloc ?_) | (with_reducible refine Gx.drew ?_) | (with_reducible refine Gx.drewN ?_) | (with_reducible refine Gx.setRow ?_ (by first | omega | (simp; done) | (simp <;> omega))) | (with_reducible refine Gx.setCell ?_ (by first | omega | (simp; done) | (simp <;> omega))))), by simp [go_sem], by simp [go_sem], by simp [go_sem], by simp [go_sem], by simp [go_sem]⟩ ?_
              rintro Wb ⟨GB, b1, b2, b3, b4, b5⟩
              have HSb := Lib.hid (SsSt.of HS.out GB)
              have u0 : Wb.cell? ⟨gS, 0, none⟩ = some (.int .i64 (cc : Int)) := by rw [cell_of_row Wb _ _ _ _ _ HSb.out.stp]; rfl
              have u1 : Wb.cell? ⟨gS, 1, none⟩ = some (.int .i64 (dd : Int)) := by rw [cell_of_row Wb _ _ _ _ _ HSb.out.stp]; rfl
              have uf0 : Wb.frozen? ⟨gS, 0, none⟩ = false := HSb.out.stp.frz
              have uf1 : Wb.frozen? ⟨gS, 1, none⟩ = false := HSb.out.stp.frz
              have lb : gS < Wb.heap.size := HSb.out.stp.lt
              have lb' : gS ≤ Wb.heap.size := by omega
              have k1 := World.block_lt_of_cell? Wb _ b1
              have k3 := World.block_lt_of_cell? Wb _ b3
              simp only at k1 k3
              go_region_held3 (fun W => (∃ x, W = gx Wb x) ∧ W.cell? ⟨wr.heap.size + 1, 0, none⟩ = some (.int .i64 yt) ∧ W.cell? ⟨wr.heap.size + 1, 1, none⟩ = some (.int .i64 yn) ∧ W.cell? ⟨wr.heap.size, 0, none⟩ = some (.int .i64 xt) ∧ W.cell? ⟨wr.heap.size, 1, none⟩ = some (.int .i64 xn) ∧ W.cell? ⟨gS, 0, none⟩ = some (.int .i64 (cc : Int)) ∧ W.cell? ⟨gS, 1, none⟩ = some (.int .i64 (dd : Int)))
                (refine ⟨(by repeat (first | (with_reducible exact Gx.refl _) | (with_reducible assumption) | (with_reducible refine Gx.gx ?_) | (with_reducible refine Gx.alloc ?_) | (with_reducible refine Gx.drew ?_) | (with_reducible refine Gx.drewN ?_) | (with_reducible refine Gx.setRow ?_ (by first | omega | (simp; done) | (simp <;> omega))) | (with_reducible refine Gx.setCell ?_ (by first | omega | (simp; done) | (simp <;> omega))))), ?_, ?_, ?_, ?_, ?_, ?_⟩ <;> (focus (repeat (first | (with_reducible assumption) | (with_reducible refine cell_keep_gx ?_) | (with_reducible refine cell_keep_alloc ?_) | (with_reducible refine cell_keep_drew'' ?_)))))
                (first | (go_at_call 38; refine (HSz.out _).mono ?_; rintro e w' ⟨rfl, rfl⟩) | (go_at_call 37; refine (HLo.out _).mono ?_; rintro e w' ⟨rfl, y, rfl⟩))
              all_goals go_wp2_with (go_at_call 39; refine (HIs.out _).mono ?_; rw [hd2]; rintro e w' ⟨rfl, y2, rfl⟩)
              all_goals go_roundw
              all_goals first
                | exact ⟨j + 1, (j' : Int), cc, dd, .inl (by omega), by go_num, rfl, by rw [hs2.out]; exact ⟨rfl, ec.symm, ed.symm⟩, (by have hs := HSb.out; first | exact hs.alloc.gx | exact hs.gx.alloc | exact hs.gx.alloc.gx | exact hs.gx | exact hs.drew.alloc.gx | exact SsSt.of hs (by repeat (first | (with_reducible exact Gx.refl _) | (with_reducible assumption) | (with_reducible refine Gx.gx ?_) | (with_reducible refine Gx.alloc ?_) | (with_reducible refine Gx.drew ?_) | (with_reducible refine Gx.drewN ?_) | (with_reducible refine Gx.setRow ?_ (by first | omega | (simp; done) | (simp <;> omega))) | (with_reducible refine Gx.setCell ?_ (by first | omega | (simp; done) | (simp <;> omega))))))⟩
                | (simp [intOf]; omega)
    · have ej : max 1 q = j + 1 := by omega
      rw [ej] at E0 E1
      have hjq : decide ((j : Int) + 1 < (q : Int)) = false := decide_eq_false (by omega)
      have c0 : wr.cell? ⟨w.heap.size + 1, 0, none⟩ = some (.int .i64 0) := by rw [cell_of_row wr _ _ _ _ _ hst.rat]; rfl
      have c1 : wr.cell? ⟨w.heap.size + 1, 1, none⟩ = some (.int .i64 0) := by rw [cell_of_row wr _ _ _ _ _ hst.rat]; rfl
      have z0 : wr.frozen? ⟨w.heap.size + 1, 0, none⟩ = false := hst.rat.frz
      have z1 : wr.frozen? ⟨w.heap.size + 1, 1, none⟩ = false := hst.rat.frz
      have l1 : w.heap.size + 1 < wr.heap.size := hst.rat.lt
      cases hsp : stP g L lg (j + 1) with
      | none =>
        rw [hsp] at hR
        obtain rfl : num = -1 := hR
        obtain ⟨rfl, rfl, rfl, rfl⟩ := E0.out hsp
        clear E0 E1 hst H1 H2 hb hinc hpo
        go_wp2
        exact bodyPost_ret (v := .tuple #[ratV 0 0, .int .i64 0, .int .i64 13]) (by simp [results, Tryd.results12, go_sem, c0, c1]) rfl ⟨rfl, by have hx := HS.out.grew; exact (by repeat (first | (with_reducible exact Gx.refl _) | (with_reducible assumption) | (with_reducible refine Gx.gx ?_) | (with_reducible refine Gx.alloc ?_) | (with_reducible refine Gx.drew ?_) | (with_reducible refine Gx.drewN ?_) | (with_reducible refine Gx.setRow ?_ (by first | omega | (simp; done) | (simp <;> omega))) | (with_reducible refine Gx.setCell ?_ (by first | omega | (simp; done) | (simp <;> omega)))))⟩
      | some s =>
        obtain ⟨p, q', j'⟩ := s
        rw [hsp] at hR
        obtain ⟨rfl, rfl, rfl⟩ := hR
        obtain ⟨rfl, rfl, rfl, rfl⟩ := E1.out p q' j' hsp
        have hj0 : decide ((j' : Int) < 0) = false := decide_eq_false (by omega)
        clear E0 E1 hst H1 H2 hb hinc hpo
        go_wp2
        exact bodyPost_ret (v := .tuple #[ratV (lowN (p : Int) q') (lowD (p : Int) q'), .int .i64 j', .int .i64 0]) (by simp [results, Tryd.results12, go_sem, c0, c1]) rfl ⟨rfl, by have hx := HS.out.grew; exact (by repeat (first | (with_reducible exact Gx.refl _) | (with_reducible assumption) | (with_reducible refine Gx.gx ?_) | (with_reducible refine Gx.alloc ?_) | (with_reducible refine Gx.drew ?_) | (with_reducible refine Gx.drewN ?_) | (with_reducible refine Gx.setRow ?_ (by first | omega | (simp; done) | (simp <;> omega))) | (with_reducible refine Gx.setCell ?_ (by first | omega | (simp; done) | (simp <;> omega)))))⟩
end Go.Proofs.YtikgfidpdghkpaaDoor
