/-
  Join, the reference's: a contract.
-/
import Derived.Test.YtjlokobgdkkppaaDoorSJoin2
namespace Go.Proofs.YtjlokobgdkkppaaDoor
open Go.RowKit
-- AT2
-- AT3

/-- What the reference's Join has at hand in its loop. -/
structure RjSt (w wr : World) (gO k : Nat) (f : Nat → Sm) (den : Int) (A : Option Addr) (c : Nat) (sA sB : Array Value) : Prop where
  grew : ∃ x, wr = gx w x
  sa : At wr w.heap.size (.cells sA 24 (0, 0))
  sb : At wr (w.heap.size + 1) (.cells sB 24 (0, 0))
  res : At wr (w.heap.size + 1 + 1) (.cells #[.int .i64 0, .slice none 0 0] 24 (0, 0))
  out : At wr gO (.cells #[.int .i64 den, .slice A k c] 24 (0, 0))
  far : w.heap.size + 1 + 1 < gO
  own : Own (w.heap.size + 1 + 1 + 1) wr 61 3 (.slice A k c) k (smC f k)
section
variable {w wr : World} {gO k : Nat} {f : Nat → Sm} {den : Int} {A : Option Addr} {c : Nat} {sA sB : Array Value}
theorem RjSt.onx {x : Ext} (h : RjSt w wr gO k f den A c sA sB) : RjSt w (gx wr x) gO k f den A c sA sB :=
  ⟨Gx.gx h.grew, h.sa.gx, h.sb.gx, h.res.gx, h.out.gx, h.far, h.own.gx⟩
theorem RjSt.of_gx {W' : World} (h : RjSt w wr gO k f den A c sA sB) (hW : ∃ x, W' = gx wr x) : RjSt w W' gO k f den A c sA sB := by
  obtain ⟨x, rfl⟩ := hW; exact h.onx
/-- A sample was appended, and the slice stored. -/
theorem RjSt.step {W2 : World} {A2 : Option Addr} {c2 : Nat} (h : RjSt w wr gO k f den A c sA sB) (hW : ∃ x, W2 = gx w x) (hg : wr.grownBy W2 (Value.slice A k c).ownBlock)
    (hO : Own (w.heap.size + 1 + 1 + 1) W2 61 3 (.slice A2 (k + 1) c2) (k + 1) (smC f k ++ [.int .i64 (f k).t, .int .i64 (f k).n, .int .i64 (f k).m])) : RjSt w (W2.setCell ⟨gO, 1, none⟩ (.slice A2 (k + 1) c2)) gO (k + 1) f den A2 c2 sA sB := by
  have n0 := own_ne_at h.own h.sa (by decide)
  have n1 := own_ne_at h.own h.sb (by decide)
  have n2 := own_ne_at h.own h.res (by decide)
  have n3 := own_ne_at h.own h.out (by decide)
  have a3 := h.out.grown hg n3
  have hf := h.far
  refine ⟨Gx.setCell hW (by omega), (h.sa.grown hg n0).setc_other (by omega), (h.sb.grown hg n1).setc_other (by omega), (h.res.grown hg n2).setc_other (by omega), a3.setc2, hf, ?_⟩
  rw [smC_succ]
  exact hO.setc (own_ne_at hO a3 (by decide))
theorem RjSt.fin {u v : Value} (h : RjSt w wr gO k f den A c sA sB) :
    SerPost w den f k 0 (.returned (.tuple #[serV den A k c, .int .i64 0])) ((wr.setCell ⟨w.heap.size + 1 + 1, 0, none⟩ u).setCell ⟨w.heap.size + 1 + 1, 1, none⟩ v) := by
  have n2 := own_ne_at h.own h.res (by decide)
  exact SerPost.mk (Gx.setCell (Gx.setCell h.grew (by omega)) (by omega)) ((h.own.setc n2).setc n2).sm
end
theorem smAt_head {w wr : World} {g : Nat → Sm} {n : Nat} {A : Option Addr} (h : SmAt w g n A) (hG : ∃ x, wr = gx w x) {i : Nat} (hi : i < n) : ∃ b o, A = some ⟨b, o, none⟩ ∧ b < w.heap.size ∧ b < wr.heap.size ∧ wr.cell? ⟨b, o + i * 3, none⟩ = some (.int .i64 (g i).t) ∧ wr.cell? ⟨b, o + i * 3 + 1, none⟩ = some (.int .i64 (g i).n) ∧ wr.cell? ⟨b, o + i * 3 + 2, none⟩ = some (.int .i64 (g i).m) := by
  obtain ⟨b, o, e, hb, hc⟩ := h.get (by omega)
  obtain ⟨c1, c2, c3⟩ := hc.out i hi
  obtain ⟨x, rfl⟩ := hG
  exact ⟨b, o, e, hb, by rw [size_gx]; omega, cell_keep_gx c1, cell_keep_gx c2, cell_keep_gx c3⟩
theorem smAt_cells {w wr : World} {g : Nat → Sm} {n b o : Nat} (h : SmAt w g n (some ⟨b, o, none⟩)) (hG : ∃ x, wr = gx w x) {i : Nat} (hi : i < n) : wr.cell? ⟨b, o + i * 3, none⟩ = some (.int .i64 (g i).t) ∧ wr.cell? ⟨b, o + i * 3 + 1, none⟩ = some (.int .i64 (g i).n) ∧ wr.cell? ⟨b, o + i * 3 + 2, none⟩ = some (.int .i64 (g i).m) := by
  obtain ⟨b', o', e, hb, hb', h1, h2, h3⟩ := smAt_head h hG hi
  simp only [Option.some.injEq, Addr.mk.injEq, and_true] at e
  obtain ⟨rfl, rfl⟩ := e
  exact ⟨h1, h2, h3⟩
set_option maxHeartbeats 8000000 in
set_option maxRecDepth 100000 in
theorem RJoin_go (den : Int) (g : Nat → Sm) (n c : Nat) (A : Option Addr) (h : Nat → Sm) (m cb : Nat) (B : Option Addr) (w : World) (hL : SmAt w g n A) (hM : SmAt w h m B) (h0 : pairE den g n den h m = 0) (f : Nat → Sm) (hf : f = lfun (jnL g n h m)) (D E : Int) (N : Nat) (H1 : Hid (20000 < (jnL g n h m).length → D = 0 ∧ N = 0 ∧ E = 3)) (H2 : Hid (¬ 20000 < (jnL g n h m).length → D = den ∧ N = (jnL g n h m).length ∧ E = 0)) :
    Calls Tryd.prog 23 #[serV den A n c, serV den B m cb] w (SerPost w D f N E) := by
  have C1 := fun W (hW : ∃ x, W = gx w x) => pairFault_any den g n c A den h m cb B W (smAt_of hL hW) (smAt_of hM hW)
  rw [h0] at C1
  obtain ⟨e1, e2, -⟩ := pairE_0 h0
  obtain ⟨_, hn, -⟩ := goodS_of e1
  obtain ⟨_, hm, -⟩ := goodS_of e2
  have HF := Lib.hid hf
  clear h0 e1 e2 hf
  go_enter Tryd.func23, Tryd.ntmps23
  go_wp2_with (go_at_call 53; refine (C1 _ (by repeat (first | (with_reducible exact Gx.refl _) | (with_reducible assumption) | (with_reducible refine Gx.gx ?_) | (with_reducible refine Gx.alloc ?_) | (with_reducible refine Gx.drew ?_) | (with_reducible refine Gx.drewN ?_) | (with_reducible refine Gx.setRow ?_ (by first | omega | (simp; done) | (simp <;> omega))) | (with_reducible refine Gx.setCell ?_ (by first | omega | (simp; done) | (simp <;> omega)))))).mono ?_; rintro e w' ⟨rfl, z1, rfl⟩)
  clear C1
  obtain ⟨gO, hgO⟩ : ∃ gO, gO = w.heap.size + 1 + 1 + 1 + z1.n := ⟨_, rfl⟩
  rw [← hgO]
  have HgO := Lib.hid hgO
  clear hgO
  go_loopw [8, 9] (fun i' k' wr => ∃ (i k q : Nat) (A1 : Option Addr) (c1 : Nat), i' = .int .i64 i ∧ k' = .int .i64 k ∧ Jst g n h m i k q ∧ RjSt w wr gO q f den A1 c1 #[.int .i64 den, .slice A n c] #[.int .i64 den, .slice B m cb]) (fun i' k' _ => (n - (intOf i').toNat) + (m - (intOf k').toNat))
  case atStart =>
    have e1 := HgO.out
    refine ⟨0, 0, 0, none, 0, rfl, rfl, Jst.zero, ⟨(by repeat (first | (with_reducible exact Gx.refl _) | (with_reducible assumption) | (with_reducible refine Gx.gx ?_) | (with_reducible refine Gx.alloc ?_) | (with_reducible refine Gx.drew ?_) | (with_reducible refine Gx.drewN ?_) | (with_reducible refine Gx.setRow ?_ (by first | omega | (simp; done) | (simp <;> omega))) | (with_reducible refine Gx.setCell ?_ (by first | omega | (simp; done) | (simp <;> omega))))), ?_, ?_, ?_, ?_, by omega, Own.nil _ _ _ _⟩⟩
    all_goals first | (refine At.new' ?_; simp; omega) | ((focus (repeat (first | (with_reducible assumption) | (with_reducible exact At.new _ _) | (with_reducible refine At.row ?_) | ((with_reducible refine At.row_other ?_ ?_); rotate_left; (focus (simp <;> omega))) | (with_reducible refine At.app ?_) | (with_reducible refine At.tick ?_) | (with_reducible refine At.gx ?_) | ((with_reducible refine At.new' ?_); focus (simp; done)) | (with_reducible refine At.alloc ?_) | (with_reducible refine At.drew ?_) | (with_reducible exact Is.new _ _ _) | (with_reducible refine Is.row ?_) | ((with_reducible refine Is.row_other ?_ ?_); rotate_left; (focus (simp <;> omega))) | (with_reducible refine Is.gx ?_) | ((with_reducible refine Is.new' ?_); focus (simp; done)) | (with_reducible refine Is.alloc ?_) | (with_reducible refine Is.drew ?_)))); done)
  case round =>
    obtain ⟨i, k, q, A1, c1, rfl, rfl, hJ, hst⟩ := hrel
    have hq := hJ.le
    have s0 : wr.cell? ⟨w.heap.size, 0, none⟩ = some (.int .i64 den) := by rw [cell_of_row wr _ _ _ _ _ hst.sa]; rfl
    have s1 : wr.cell? ⟨w.heap.size, 1, none⟩ = some (.slice A n c) := by rw [cell_of_row wr _ _ _ _ _ hst.sa]; rfl
    have t1 : wr.cell? ⟨w.heap.size + 1, 1, none⟩ = some (.slice B m cb) := by rw [cell_of_row wr _ _ _ _ _ hst.sb]; rfl
    have l0 : w.heap.size < wr.heap.size := hst.sa.lt
    have l1 : w.heap.size + 1 < wr.heap.size := hst.sb.lt
    have l2 : w.heap.size + 1 + 1 < wr.heap.size := hst.res.lt
    have l3 : gO < wr.heap.size := hst.out.lt
    have o0 : wr.cell? ⟨gO, 0, none⟩ = some (.int .i64 den) := by rw [cell_of_row wr _ _ _ _ _ hst.out]; rfl
    have o1 : wr.cell? ⟨gO, 1, none⟩ = some (.slice A1 q c1) := by rw [cell_of_row wr _ _ _ _ _ hst.out]; rfl
    have o1a : ∀ (j : Nat) (ob : Obj), ((wr.drewN j).alloc ob).cell? ⟨gO, 1, none⟩ = some (.slice A1 q c1) := fun j ob => cell_keep_alloc (by rw [World.cell?_drewN]; exact o1)
    have hfar := hst.far
    have of1 : wr.frozen? ⟨gO, 1, none⟩ = false := hst.out.frz
    have HS := Lib.hid hst
    have HG := Lib.hid hst.grew
    have HJ := Lib.hid hJ
    by_cases hi : i < n
    · by_cases hk : k < m
      · rcases Int.lt_trichotomy (g i).t (h k).t with ht | ht | ht
        · have HN := Lib.hid (hJ.a hi (.inr ht))
          have HFq : Hid (f q = g i) := Lib.hid (by rw [HF.out]; exact HN.out.2)
          have d1 : decide (i < n) = true := decide_eq_true hi
          have z1 : (i : Int) < (n : Int) := by omega
          have z2 : (k : Int) < (m : Int) := by omega
          have d2 : ((k : Int) == (m : Int)) = false := by rw [beq_eq_false_iff_ne]; omega
          have dt : decide ((g i).t < (h k).t) = true := decide_eq_true ht
          obtain ⟨b1, oA, rfl, hb1, hb1', x1, x2, x3⟩ := smAt_head hL hst.grew hi
          obtain ⟨b2, oB, rfl, hb2, hb2', y1, y2, y3⟩ := smAt_head hM hst.grew hk
          clear hst hJ ht
          generalize g i = X at *
          obtain ⟨xt, xn, xm⟩ := X
          generalize h k = Y at *
          obtain ⟨yt, yn, ym⟩ := Y
          simp only at x1 x2 x3 y1 y2 y3 dt
          as_aux_lemma =>
            go_wp2
            go_quiet (fail)
            go_wp2
            go_region_law (apply step_append_own el_sample w (w.heap.size + 1 + 1 + 1) (v := .slice A1 q c1) (n := q) (xs := smC f q) (m := 1) (news := [.int .i64 xt, .int .i64 xn, .int .i64 xm]); exact rfl; exact rfl; exact rfl; exact rfl; (focus omega); exact (HS.out.of_gx (by repeat (first | (with_reducible exact Gx.refl _) | (with_reducible assumption) | (with_reducible refine Gx.gx ?_) | (with_reducible refine Gx.alloc ?_) | (with_reducible refine Gx.drew ?_) | (with_reducible refine Gx.drewN ?_) | (with_reducible refine Gx.setRow ?_ (by first | omega | (simp; done) | (simp <;> omega))) | (with_reducible refine Gx.setCell ?_ (by first | omega | (simp; done) | (simp <;> omega)))))).own; exact (HS.out.of_gx (by repeat (first | (with_reducible exact Gx.refl _) | (with_reducible assumption) | (with_reducible refine Gx.gx ?_) | (with_reducible refine Gx.alloc ?_) | (with_reducible refine Gx.drew ?_) | (with_reducible refine Gx.drewN ?_) | (with_reducible refine Gx.setRow ?_ (by first | omega | (simp; done) | (simp <;> omega))) | (with_reducible refine Gx.setCell ?_ (by first | omega | (simp; done) | (simp <;> omega)))))).grew; (focus (simp <;> omega)); exact rfl; (focus (repeat (first | (with_reducible assumption) | ((with_reducible apply Shows.whole); focus ((focus (repeat (first | (with_reducible assumption) | (with_reducible exact At.new _ _) | (with_reducible refine At.row ?_) | ((with_reducible refine At.row_other ?_ ?_); rotate_left; (focus (simp <;> omega))) | (with_reducible refine At.app ?_) | (with_reducible refine At.tick ?_) | (with_reducible refine At.gx ?_) | ((with_reducible refine At.new' ?_); focus (simp; done)) | (with_reducible refine At.alloc ?_) | (with_reducible refine At.drew ?_) | (with_reducible exact Is.new _ _ _) | (with_reducible refine Is.row ?_) | ((with_reducible refine Is.row_other ?_ ?_); rotate_left; (focus (simp <;> omega))) | (with_reducible refine Is.gx ?_) | ((with_reducible refine Is.new' ?_); focus (simp; done)) | (with_reducible refine Is.alloc ?_) | (with_reducible refine Is.drew ?_)))); done)) | (with_reducible refine Shows.app ?_) | (with_reducible refine Shows.tick ?_) | (with_reducible refine Shows.gx ?_) | (with_reducible refine Shows.alloc ?_) | (with_reducible refine Shows.drew ?_)))); (focus (simp [Value.oneCell']; done)); (focus (simp only [maxLen]; omega)); (focus omega); (focus decide); rintro v2 W2 hW2 hO2 hg2; obtain ⟨A4, c4, rfl, -⟩ := hO2.is; have hN2 := RjSt.step (HS.out.of_gx (by repeat (first | (with_reducible exact Gx.refl _) | (with_reducible assumption) | (with_reducible refine Gx.gx ?_) | (with_reducible refine Gx.alloc ?_) | (with_reducible refine Gx.drew ?_) | (with_reducible refine Gx.drewN ?_) | (with_reducible refine Gx.setRow ?_ (by first | omega | (simp; done) | (simp <;> omega))) | (with_reducible refine Gx.setCell ?_ (by first | omega | (simp; done) | (simp <;> omega)))))) hW2 hg2 (by rw [HFq.out]; exact hO2); have ho := ((HS.out.of_gx (W' := _) (by repeat (first | (with_reducible exact Gx.refl _) | (with_reducible assumption) | (with_reducible refine Gx.gx ?_) | (with_reducible refine Gx.alloc ?_) | (with_reducible refine Gx.drew ?_) | (with_reducible refine Gx.drewN ?_) | (with_reducible refine Gx.setRow ?_ (by first | omega | (simp; done) | (simp <;> omega))) | (with_reducible refine Gx.setCell ?_ (by first | omega | (simp; done) | (simp <;> omega)))))).out).grown hg2 (own_ne_at (HS.out.of_gx (by repeat (first | (with_reducible exact Gx.refl _) | (with_reducible assumption) | (with_reducible refine Gx.gx ?_) | (with_reducible refine Gx.alloc ?_) | (with_reducible refine Gx.drew ?_) | (with_reducible refine Gx.drewN ?_) | (with_reducible refine Gx.setRow ?_ (by first | omega | (simp; done) | (simp <;> omega))) | (with_reducible refine Gx.setCell ?_ (by first | omega | (simp; done) | (simp <;> omega)))))).own (HS.out.of_gx (by repeat (first | (with_reducible exact Gx.refl _) | (with_reducible assumption) | (with_reducible refine Gx.gx ?_) | (with_reducible refine Gx.alloc ?_) | (with_reducible refine Gx.drew ?_) | (with_reducible refine Gx.drewN ?_) | (with_reducible refine Gx.setRow ?_ (by first | omega | (simp; done) | (simp <;> omega))) | (with_reducible refine Gx.setCell ?_ (by first | omega | (simp; done) | (simp <;> omega)))))).out (by decide)); have p1 : W2.cell? ⟨gO, 1, none⟩ = some (.slice A1 q c1) := (by rw [cell_of_row W2 _ _ _ _ _ ho]; rfl); have pf : W2.frozen? ⟨gO, 1, none⟩ = false := ho.frz; have HN2 := Lib.hid hN2; clear hN2 ho hO2 hg2 hW2)
            all_goals go_wp2
            all_goals refine ⟨⟨i + 1, k, q + 1, A4, c4, ?_, ?_, HN.out.1, HN2.out⟩, ?_⟩
            all_goals first | (go_num; done) | (simp [intOf]; omega)
        · have HN := Lib.hid (hJ.ab hi hk ht)
          have HFq : Hid (f q = agr (g i) (h k)) := Lib.hid (by rw [HF.out]; exact HN.out.2)
          have d1 : decide (i < n) = true := decide_eq_true hi
          have z1 : (i : Int) < (n : Int) := by omega
          have z2 : (k : Int) < (m : Int) := by omega
          have d2 : ((k : Int) == (m : Int)) = false := by rw [beq_eq_false_iff_ne]; omega
          have d3 : ((i : Int) == (n : Int)) = false := by rw [beq_eq_false_iff_ne]; omega
          have dt : decide ((g i).t < (h k).t) = false := decide_eq_false (by omega)
          have dt2 : decide ((h k).t < (g i).t) = false := decide_eq_false (by omega)
          obtain ⟨b1, oA, rfl, hb1, hb1', x1, x2, x3⟩ := smAt_head hL hst.grew hi
          obtain ⟨b2, oB, rfl, hb2, hb2', y1, y2, y3⟩ := smAt_head hM hst.grew hk
          have HB := Lib.hid (fun W => both_any (g i) (h k) W ht)
          generalize agr (g i) (h k) = Z at *
          obtain ⟨zt, zn, zm⟩ := Z
          clear hst hJ ht
          generalize g i = X at *
          obtain ⟨xt, xn, xm⟩ := X
          generalize h k = Y at *
          obtain ⟨yt, yn, ym⟩ := Y
          simp only at x1 x2 x3 y1 y2 y3 dt dt2 HB
          as_aux_lemma =>
            go_wp2
            go_quiet (fail)
            go_wp2
            go_quiet (fail)
            go_wp2
            go_region_law (first | (go_simp; go_at_call 54; refine (HB.out _).mono ?_; rintro e W1 ⟨rfl, z, rfl⟩) | (apply step_append_own el_sample w (w.heap.size + 1 + 1 + 1) (v := .slice A1 q c1) (n := q) (xs := smC f q) (m := 1) (news := [.int .i64 zt, .int .i64 zn, .int .i64 zm]); exact rfl; exact rfl; exact rfl; exact rfl; (focus omega); exact (HS.out.of_gx (by repeat (first | (with_reducible exact Gx.refl _) | (with_reducible assumption) | (with_reducible refine Gx.gx ?_) | (with_reducible refine Gx.alloc ?_) | (with_reducible refine Gx.drew ?_) | (with_reducible refine Gx.drewN ?_) | (with_reducible refine Gx.setRow ?_ (by first | omega | (simp; done) | (simp <;> omega))) | (with_reducible refine Gx.setCell ?_ (by first | omega | (simp; done) | (simp <;> omega)))))).own; exact (HS.out.of_gx (by repeat (first | (with_reducible exact Gx.refl _) | (with_reducible assumption) | (with_reducible refine Gx.gx ?_) | (with_reducible refine Gx.alloc ?_) | (with_reducible refine Gx.drew ?_) | (with_reducible refine Gx.drewN ?_) | (with_reducible refine Gx.setRow ?_ (by first | omega | (simp; done) | (simp <;> omega))) | (with_reducible refine Gx.setCell ?_ (by first | omega | (simp; done) | (simp <;> omega)))))).grew; (focus (simp <;> omega)); exact rfl; (focus (repeat (first | (with_reducible assumption) | ((with_reducible apply Shows.whole); focus ((focus (repeat (first | (with_reducible assumption) | (with_reducible exact At.new _ _) | (with_reducible refine At.row ?_) | ((with_reducible refine At.row_other ?_ ?_); rotate_left; (focus (simp <;> omega))) | (with_reducible refine At.app ?_) | (with_reducible refine At.tick ?_) | (with_reducible refine At.gx ?_) | ((with_reducible refine At.new' ?_); focus (simp; done)) | (with_reducible refine At.alloc ?_) | (with_reducible refine At.drew ?_) | (with_reducible exact Is.new _ _ _) | (with_reducible refine Is.row ?_) | ((with_reducible refine Is.row_other ?_ ?_); rotate_left; (focus (simp <;> omega))) | (with_reducible refine Is.gx ?_) | ((with_reducible refine Is.new' ?_); focus (simp; done)) | (with_reducible refine Is.alloc ?_) | (with_reducible refine Is.drew ?_)))); done)) | (with_reducible refine Shows.app ?_) | (with_reducible refine Shows.tick ?_) | (with_reducible refine Shows.gx ?_) | (with_reducible refine Shows.alloc ?_) | (with_reducible refine Shows.drew ?_)))); (focus (simp [Value.oneCell']; done)); (focus (simp only [maxLen]; omega)); (focus omega); (focus decide); rintro v2 W2 hW2 hO2 hg2; obtain ⟨A4, c4, rfl, -⟩ := hO2.is; have hN2 := RjSt.step (HS.out.of_gx (by repeat (first | (with_reducible exact Gx.refl _) | (with_reducible assumption) | (with_reducible refine Gx.gx ?_) | (with_reducible refine Gx.alloc ?_) | (with_reducible refine Gx.drew ?_) | (with_reducible refine Gx.drewN ?_) | (with_reducible refine Gx.setRow ?_ (by first | omega | (simp; done) | (simp <;> omega))) | (with_reducible refine Gx.setCell ?_ (by first | omega | (simp; done) | (simp <;> omega)))))) hW2 hg2 (by rw [HFq.out]; exact hO2); have ho := ((HS.out.of_gx (W' := _) (by repeat (first | (with_reducible exact Gx.refl _) | (with_reducible assumption) | (with_reducible refine Gx.gx ?_) | (with_reducible refine Gx.alloc ?_) | (with_reducible refine Gx.drew ?_) | (with_reducible refine Gx.drewN ?_) | (with_reducible refine Gx.setRow ?_ (by first | omega | (simp; done) | (simp <;> omega))) | (with_reducible refine Gx.setCell ?_ (by first | omega | (simp; done) | (simp <;> omega)))))).out).grown hg2 (own_ne_at (HS.out.of_gx (by repeat (first | (with_reducible exact Gx.refl _) | (with_reducible assumption) | (with_reducible refine Gx.gx ?_) | (with_reducible refine Gx.alloc ?_) | (with_reducible refine Gx.drew ?_) | (with_reducible refine Gx.drewN ?_) | (with_reducible refine Gx.setRow ?_ (by first | omega | (simp; done) | (simp <;> omega))) | (with_reducible refine Gx.setCell ?_ (by first | omega | (simp; done) | (simp <;> omega)))))).own (HS.out.of_gx (by repeat (first | (with_reducible exact Gx.refl _) | (with_reducible assumption) | (with_reducible refine Gx.gx ?_) | (with_reducible refine Gx.alloc ?_) | (with_reducible refine Gx.drew ?_) | (with_reducible refine Gx.drewN ?_) | (with_reducible refine Gx.setRow ?_ (by first | omega | (simp; done) | (simp <;> omega))) | (with_reducible refine Gx.setCell ?_ (by first | omega | (simp; done) | (simp <;> omega)))))).out (by decide)); have p1 : W2.cell? ⟨gO, 1, none⟩ = some (.slice A1 q c1) := (by rw [cell_of_row W2 _ _ _ _ _ ho]; rfl); have pf : W2.frozen? ⟨gO, 1, none⟩ = false := ho.frz; have HN2 := Lib.hid hN2; clear hN2 ho hO2 hg2 hW2))
            all_goals go_wp2
            all_goals refine ⟨⟨i + 1, k + 1, q + 1, A4, c4, ?_, ?_, HN.out.1, HN2.out⟩, ?_⟩
            all_goals first | (go_num; done) | (simp [intOf]; omega)
        · have HN := Lib.hid (hJ.b hk (.inr ht))
          have HFq : Hid (f q = h k) := Lib.hid (by rw [HF.out]; exact HN.out.2)
          have d1 : decide (i < n) = true := decide_eq_true hi
          have z1 : (i : Int) < (n : Int) := by omega
          have z2 : (k : Int) < (m : Int) := by omega
          have d2 : ((k : Int) == (m : Int)) = false := by rw [beq_eq_false_iff_ne]; omega
          have d3 : ((i : Int) == (n : Int)) = false := by rw [beq_eq_false_iff_ne]; omega
          have dt : decide ((g i).t < (h k).t) = false := decide_eq_false (by omega)
          have dt2 : decide ((h k).t < (g i).t) = true := decide_eq_true ht
          obtain ⟨b1, oA, rfl, hb1, hb1', x1, x2, x3⟩ := smAt_head hL hst.grew hi
          obtain ⟨b2, oB, rfl, hb2, hb2', y1, y2, y3⟩ := smAt_head hM hst.grew hk
          clear hst hJ ht
          generalize g i = X at *
          obtain ⟨xt, xn, xm⟩ := X
          generalize h k = Y at *
          obtain ⟨yt, yn, ym⟩ := Y
          simp only at x1 x2 x3 y1 y2 y3 dt dt2
          as_aux_lemma =>
            go_wp2
            go_quiet (fail)
            go_wp2
            go_quiet (fail)
            go_wp2
            go_region_law (apply step_append_own el_sample w (w.heap.size + 1 + 1 + 1) (v := .slice A1 q c1) (n := q) (xs := smC f q) (m := 1) (news := [.int .i64 yt, .int .i64 yn, .int .i64 ym]); exact rfl; exact rfl; exact rfl; exact rfl; (focus omega); exact (HS.out.of_gx (by repeat (first | (with_reducible exact Gx.refl _) | (with_reducible assumption) | (with_reducible refine Gx.gx ?_) | (with_reducible refine Gx.alloc ?_) | (with_reducible refine Gx.drew ?_) | (with_reducible refine Gx.drewN ?_) | (with_reducible refine Gx.setRow ?_ (by first | omega | (simp; done) | (simp <;> omega))) | (with_reducible refine Gx.setCell ?_ (by first | omega | (simp; done) | (simp <;> omega)))))).own; exact (HS.out.of_gx (by repeat (first | (with_reducible exact Gx.refl _) | (with_reducible assumption) | (with_reducible refine Gx.gx ?_) | (with_reducible refine Gx.alloc ?_) | (with_reducible refine Gx.drew ?_) | (with_reducible refine Gx.drewN ?_) | (with_reducible refine Gx.setRow ?_ (by first | omega | (simp; done) | (simp <;> omega))) | (with_reducible refine Gx.setCell ?_ (by first | omega | (simp; done) | (simp <;> omega)))))).grew; (focus (simp <;> omega)); exact rfl; (focus (repeat (first | (with_reducible assumption) | ((with_reducible apply Shows.whole); focus ((focus (repeat (first | (with_reducible assumption) | (with_reducible exact At.new _ _) | (with_reducible refine At.row ?_) | ((with_reducible refine At.row_other ?_ ?_); rotate_left; (focus (simp <;> omega))) | (with_reducible refine At.app ?_) | (with_reducible refine At.tick ?_) | (with_reducible refine At.gx ?_) | ((with_reducible refine At.new' ?_); focus (simp; done)) | (with_reducible refine At.alloc ?_) | (with_reducible refine At.drew ?_) | (with_reducible exact Is.new _ _ _) | (with_reducible refine Is.row ?_) | ((with_reducible refine Is.row_other ?_ ?_); rotate_left; (focus (simp <;> omega))) | (with_reducible refine Is.gx ?_) | ((with_reducible refine Is.new' ?_); focus (simp; done)) | (with_reducible refine Is.alloc ?_) | (with_reducible refine Is.drew ?_)))); done)) | (with_reducible refine Shows.app ?_) | (with_reducible refine Shows.tick ?_) | (with_reducible refine Shows.gx ?_) | (with_reducible refine Shows.alloc ?_) | (with_reducible refine Shows.drew ?_)))); (focus (simp [Value.oneCell']; done)); (focus (simp only [maxLen]; omega)); (focus omega); (focus decide); rintro v2 W2 hW2 hO2 hg2; obtain ⟨A4, c4, rfl, -⟩ := hO2.is; have hN2 := RjSt.step (HS.out.of_gx (by repeat (first | (with_reducible exact Gx.refl _) | (with_reducible assumption) | (with_reducible refine Gx.gx ?_) | (with_reducible refine Gx.alloc ?_) | (with_reducible refine Gx.drew ?_) | (with_reducible refine Gx.drewN ?_) | (with_reducible refine Gx.setRow ?_ (by first | omega | (simp; done) | (simp <;> omega))) | (with_reducible refine Gx.setCell ?_ (by first | omega | (simp; done) | (simp <;> omega)))))) hW2 hg2 (by rw [HFq.out]; exact hO2); have ho := ((HS.out.of_gx (W' := _) (by repeat (first | (with_reducible exact Gx.refl _) | (with_reducible assumption) | (with_reducible refine Gx.gx ?_) | (with_reducible refine Gx.alloc ?_) | (with_reducible refine Gx.drew ?_) | (with_reducible refine Gx.drewN ?_) | (with_reducible refine Gx.setRow ?_ (by first | omega | (simp; done) | (simp <;> omega))) | (with_reducible refine Gx.setCell ?_ (by first | omega | (simp; done) | (simp <;> omega)))))).out).grown hg2 (own_ne_at (HS.out.of_gx (by repeat (first | (with_reducible exact Gx.refl _) | (with_reducible assumption) | (with_reducible refine Gx.gx ?_) | (with_reducible refine Gx.alloc ?_) | (with_reducible refine Gx.drew ?_) | (with_reducible refine Gx.drewN ?_) | (with_reducible refine Gx.setRow ?_ (by first | omega | (simp; done) | (simp <;> omega))) | (with_reducible refine Gx.setCell ?_ (by first | omega | (simp; done) | (simp <;> omega)))))).own (HS.out.of_gx (by repeat (first | (with_reducible exact Gx.refl _) | (with_reducible assumption) | (with_reducible refine Gx.gx ?_) | (with_reducible refine Gx.alloc ?_) | (with_reducible refine Gx.drew ?_) | (with_reducible refine Gx.drewN ?_) | (with_reducible refine Gx.setRow ?_ (by first | omega | (simp; done) | (simp <;> omega))) | (with_reducible refine Gx.setCell ?_ (by first | omega | (simp; done) | (simp <;> omega)))))).out (by decide)); have p1 : W2.cell? ⟨gO, 1, none⟩ = some (.slice A1 q c1) := (by rw [cell_of_row W2 _ _ _ _ _ ho]; rfl); have pf : W2.frozen? ⟨gO, 1, none⟩ = false := ho.frz; have HN2 := Lib.hid hN2; clear hN2 ho hO2 hg2 hW2)
            all_goals go_wp2
            all_goals refine ⟨⟨i, k + 1, q + 1, A4, c4, ?_, ?_, HN.out.1, HN2.out⟩, ?_⟩
            all_goals first | (go_num; done) | (simp [intOf]; omega)
      · obtain rfl : k = m := by omega
        have HN := Lib.hid (hJ.a hi (.inl (Nat.le_refl _)))
        have HFq : Hid (f q = g i) := Lib.hid (by rw [HF.out]; exact HN.out.2)
        have d1 : decide (i < n) = true := decide_eq_true hi
        have z1 : (i : Int) < (n : Int) := by omega
        have d2 : ((k : Int) == (k : Int)) = true := by simp
        obtain ⟨b1, oA, rfl, hb1, hb1', x1, x2, x3⟩ := smAt_head hL hst.grew hi
        clear hst hJ
        generalize g i = X at *
        obtain ⟨xt, xn, xm⟩ := X
        simp only at x1 x2 x3
        as_aux_lemma =>
          go_wp2
          go_quiet (fail)
          go_wp2
          go_region_law (apply step_append_own el_sample w (w.heap.size + 1 + 1 + 1) (v := .slice A1 q c1) (n := q) (xs := smC f q) (m := 1) (news := [.int .i64 xt, .int .i64 xn, .int .i64 xm]); exact rfl; exact rfl; exact rfl; exact rfl; (focus omega); exact (HS.out.of_gx (by repeat (first | (with_reducible exact Gx.refl _) | (with_reducible assumption) | (with_reducible refine Gx.gx ?_) | (with_reducible refine Gx.alloc ?_) | (with_reducible refine Gx.drew ?_) | (with_reducible refine Gx.drewN ?_) | (with_reducible refine Gx.setRow ?_ (by first | omega | (simp; done) | (simp <;> omega))) | (with_reducible refine Gx.setCell ?_ (by first | omega | (simp; done) | (simp <;> omega)))))).own; exact (HS.out.of_gx (by repeat (first | (with_reducible exact Gx.refl _) | (with_reducible assumption) | (with_reducible refine Gx.gx ?_) | (with_reducible refine Gx.alloc ?_) | (with_reducible refine Gx.drew ?_) | (with_reducible refine Gx.drewN ?_) | (with_reducible refine Gx.setRow ?_ (by first | omega | (simp; done) | (simp <;> omega))) | (with_reducible refine Gx.setCell ?_ (by first | omega | (simp; done) | (simp <;> omega)))))).grew; (focus (simp <;> omega)); exact rfl; (focus (repeat (first | (with_reducible assumption) | ((with_reducible apply Shows.whole); focus ((focus (repeat (first | (with_reducible assumption) | (with_reducible exact At.new _ _) | (with_reducible refine At.row ?_) | ((with_reducible refine At.row_other ?_ ?_); rotate_left; (focus (simp <;> omega))) | (with_reducible refine At.app ?_) | (with_reducible refine At.tick ?_) | (with_reducible refine At.gx ?_) | ((with_reducible refine At.new' ?_); focus (simp; done)) | (with_reducible refine At.alloc ?_) | (with_reducible refine At.drew ?_) | (with_reducible exact Is.new _ _ _) | (with_reducible refine Is.row ?_) | ((with_reducible refine Is.row_other ?_ ?_); rotate_left; (focus (simp <;> omega))) | (with_reducible refine Is.gx ?_) | ((with_reducible refine Is.new' ?_); focus (simp; done)) | (with_reducible refine Is.alloc ?_) | (with_reducible refine Is.drew ?_)))); done)) | (with_reducible refine Shows.app ?_) | (with_reducible refine Shows.tick ?_) | (with_reducible refine Shows.gx ?_) | (with_reducible refine Shows.alloc ?_) | (with_reducible refine Shows.drew ?_)))); (focus (simp [Value.oneCell']; done)); (focus (simp only [maxLen]; omega)); (focus omega); (focus decide); rintro v2 W2 hW2 hO2 hg2; obtain ⟨A4, c4, rfl, -⟩ := hO2.is; have hN2 := RjSt.step (HS.out.of_gx (by repeat (first | (with_reducible exact Gx.refl _) | (with_reducible assumption) | (with_reducible refine Gx.gx ?_) | (with_reducible refine Gx.alloc ?_) | (with_reducible refine Gx.drew ?_) | (with_reducible refine Gx.drewN ?_) | (with_reducible refine Gx.setRow ?_ (by first | omega | (simp; done) | (simp <;> omega))) | (with_reducible refine Gx.setCell ?_ (by first | omega | (simp; done) | (simp <;> omega)))))) hW2 hg2 (by rw [HFq.out]; exact hO2); have ho := ((HS.out.of_gx (W' := _) (by repeat (first | (with_reducible exact Gx.refl _) | (with_reducible assumption) | (with_reducible refine Gx.gx ?_) | (with_reducible refine Gx.alloc ?_) | (with_reducible refine Gx.drew ?_) | (with_reducible refine Gx.drewN ?_) | (with_reducible refine Gx.setRow ?_ (by first | omega | (simp; done) | (simp <;> omega))) | (with_reducible refine Gx.setCell ?_ (by first | omega | (simp; done) | (simp <;> omega)))))).out).grown hg2 (own_ne_at (HS.out.of_gx (by repeat (first | (with_reducible exact Gx.refl _) | (with_reducible assumption) | (with_reducible refine Gx.gx ?_) | (with_reducible refine Gx.alloc ?_) | (with_reducible refine Gx.drew ?_) | (with_reducible refine Gx.drewN ?_) | (with_reducible refine Gx.setRow ?_ (by first | omega | (simp; done) | (simp <;> omega))) | (with_reducible refine Gx.setCell ?_ (by first | omega | (simp; done) | (simp <;> omega)))))).own (HS.out.of_gx (by repeat (first | (with_reducible exact Gx.refl _) | (with_reducible assumption) | (with_reducible refine Gx.gx ?_) | (with_reducible refine Gx.alloc ?_) | (with_reducible refine Gx.drew ?_) | (with_reducible refine Gx.drewN ?_) | (with_reducible refine Gx.setRow ?_ (by first | omega | (simp; done) | (simp <;> omega))) | (with_reducible refine Gx.setCell ?_ (by first | omega | (simp; done) | (simp <;> omega)))))).out (by decide)); have p1 : W2.cell? ⟨gO, 1, none⟩ = some (.slice A1 q c1) := (by rw [cell_of_row W2 _ _ _ _ _ ho]; rfl); have pf : W2.frozen? ⟨gO, 1, none⟩ = false := ho.frz; have HN2 := Lib.hid hN2; clear hN2 ho hO2 hg2 hW2)
          all_goals go_wp2
          all_goals refine ⟨⟨i + 1, k, q + 1, A4, c4, ?_, ?_, HN.out.1, HN2.out⟩, ?_⟩
          all_goals first | (go_num; done) | (simp [intOf]; omega)
    · obtain rfl : i = n := by omega
      have d1 : decide (i < i) = false := decide_eq_false hi
      by_cases hk : k < m
      · have HN := Lib.hid (hJ.b hk (.inl (Nat.le_refl _)))
        have HFq : Hid (f q = h k) := Lib.hid (by rw [HF.out]; exact HN.out.2)
        have dk : decide (k < m) = true := decide_eq_true hk
        have z2 : (k : Int) < (m : Int) := by omega
        have d2 : ((k : Int) == (m : Int)) = false := by rw [beq_eq_false_iff_ne]; omega
        have d3 : ((i : Int) == (i : Int)) = true := by simp
        obtain ⟨b2, oB, rfl, hb2, hb2', y1, y2, y3⟩ := smAt_head hM hst.grew hk
        clear hst hJ
        generalize h k = Y at *
        obtain ⟨yt, yn, ym⟩ := Y
        simp only at y1 y2 y3
        as_aux_lemma =>
          go_wp2
          go_quiet (fail)
          go_wp2
          go_quiet (fail)
          go_wp2
          go_region_law (apply step_append_own el_sample w (w.heap.size + 1 + 1 + 1) (v := .slice A1 q c1) (n := q) (xs := smC f q) (m := 1) (news := [.int .i64 yt, .int .i64 yn, .int .i64 ym]); exact rfl; exact rfl; exact rfl; exact rfl; (focus omega); exact (HS.out.of_gx (by repeat (first | (with_reducible exact Gx.refl _) | (with_reducible assumption) | (with_reducible refine Gx.gx ?_) | (with_reducible refine Gx.alloc ?_) | (with_reducible refine Gx.drew ?_) | (with_reducible refine Gx.drewN ?_) | (with_reducible refine Gx.setRow ?_ (by first | omega | (simp; done) | (simp <;> omega))) | (with_reducible refine Gx.setCell ?_ (by first | omega | (simp; done) | (simp <;> omega)))))).own; exact (HS.out.of_gx (by repeat (first | (with_reducible exact Gx.refl _) | (with_reducible assumption) | (with_reducible refine Gx.gx ?_) | (with_reducible refine Gx.alloc ?_) | (with_reducible refine Gx.drew ?_) | (with_reducible refine Gx.drewN ?_) | (with_reducible refine Gx.setRow ?_ (by first | omega | (simp; done) | (simp <;> omega))) | (with_reducible refine Gx.setCell ?_ (by first | omega | (simp; done) | (simp <;> omega)))))).grew; (focus (simp <;> omega)); exact rfl; (focus (repeat (first | (with_reducible assumption) | ((with_reducible apply Shows.whole); focus ((focus (repeat (first | (with_reducible assumption) | (with_reducible exact At.new _ _) | (with_reducible refine At.row ?_) | ((with_reducible refine At.row_other ?_ ?_); rotate_left; (focus (simp <;> omega))) | (with_reducible refine At.app ?_) | (with_reducible refine At.tick ?_) | (with_reducible refine At.gx ?_) | ((with_reducible refine At.new' ?_); focus (simp; done)) | (with_reducible refine At.alloc ?_) | (with_reducible refine At.drew ?_) | (with_reducible exact Is.new _ _ _) | (with_reducible refine Is.row ?_) | ((with_reducible refine Is.row_other ?_ ?_); rotate_left; (focus (simp <;> omega))) | (with_reducible refine Is.gx ?_) | ((with_reducible refine Is.new' ?_); focus (simp; done)) | (with_reducible refine Is.alloc ?_) | (with_reducible refine Is.drew ?_)))); done)) | (with_reducible refine Shows.app ?_) | (with_reducible refine Shows.tick ?_) | (with_reducible refine Shows.gx ?_) | (with_reducible refine Shows.alloc ?_) | (with_reducible refine Shows.drew ?_)))); (focus (simp [Value.oneCell']; done)); (focus (simp only [maxLen]; omega)); (focus omega); (focus decide); rintro v2 W2 hW2 hO2 hg2; obtain ⟨A4, c4, rfl, -⟩ := hO2.is; have hN2 := RjSt.step (HS.out.of_gx (by repeat (first | (with_reducible exact Gx.refl _) | (with_reducible assumption) | (with_reducible refine Gx.gx ?_) | (with_reducible refine Gx.alloc ?_) | (with_reducible refine Gx.drew ?_) | (with_reducible refine Gx.drewN ?_) | (with_reducible refine Gx.setRow ?_ (by first | omega | (simp; done) | (simp <;> omega))) | (with_reducible refine Gx.setCell ?_ (by first | omega | (simp; done) | (simp <;> omega)))))) hW2 hg2 (by rw [HFq.out]; exact hO2); have ho := ((HS.out.of_gx (W' := _) (by repeat (first | (with_reducible exact Gx.refl _) | (with_reducible assumption) | (with_reducible refine Gx.gx ?_) | (with_reducible refine Gx.alloc ?_) | (with_reducible refine Gx.drew ?_) | (with_reducible refine Gx.drewN ?_) | (with_reducible refine Gx.setRow ?_ (by first | omega | (simp; done) | (simp <;> omega))) | (with_reducible refine Gx.setCell ?_ (by first | omega | (simp; done) | (simp <;> omega)))))).out).grown hg2 (own_ne_at (HS.out.of_gx (by repeat (first | (with_reducible exact Gx.refl _) | (with_reducible assumption) | (with_reducible refine Gx.gx ?_) | (with_reducible refine Gx.alloc ?_) | (with_reducible refine Gx.drew ?_) | (with_reducible refine Gx.drewN ?_) | (with_reducible refine Gx.setRow ?_ (by first | omega | (simp; done) | (simp <;> omega))) | (with_reducible refine Gx.setCell ?_ (by first | omega | (simp; done) | (simp <;> omega)))))).own (HS.out.of_gx (by repeat (first | (with_reducible exact Gx.refl _) | (with_reducible assumption) | (with_reducible refine Gx.gx ?_) | (with_reducible refine Gx.alloc ?_) | (with_reducible refine Gx.drew ?_) | (with_reducible refine Gx.drewN ?_) | (with_reducible refine Gx.setRow ?_ (by first | omega | (simp; done) | (simp <;> omega))) | (with_reducible refine Gx.setCell ?_ (by first | omega | (simp; done) | (simp <;> omega)))))).out (by decide)); have p1 : W2.cell? ⟨gO, 1, none⟩ = some (.slice A1 q c1) := (by rw [cell_of_row W2 _ _ _ _ _ ho]; rfl); have pf : W2.frozen? ⟨gO, 1, none⟩ = false := ho.frz; have HN2 := Lib.hid hN2; clear hN2 ho hO2 hg2 hW2)
          all_goals go_wp2
          all_goals refine ⟨⟨i, k + 1, q + 1, A4, c4, ?_, ?_, HN.out.1, HN2.out⟩, ?_⟩
          all_goals first | (go_num; done) | (simp [intOf]; omega)
      · obtain rfl : k = m := by omega
        have d2 : decide (k < k) = false := decide_eq_false hk
        have qr : wr.cell? ⟨w.heap.size + 1 + 1, 0, none⟩ = some (.int .i64 0) := by rw [cell_of_row wr _ _ _ _ _ hst.res]; rfl
        have qr1 : wr.cell? ⟨w.heap.size + 1 + 1, 1, none⟩ = some (.slice none 0 0) := by rw [cell_of_row wr _ _ _ _ _ hst.res]; rfl
        have qf0 : wr.frozen? ⟨w.heap.size + 1 + 1, 0, none⟩ = false := hst.res.frz
        have qf1 : wr.frozen? ⟨w.heap.size + 1 + 1, 1, none⟩ = false := hst.res.frz
        rw [← hJ.fin] at H1 H2
        by_cases hbig : 20000 < q
        · obtain ⟨h1, h2, h3⟩ := H1.out hbig
          have HE := Lib.hid (And.intro h1 (And.intro h2 h3))
          clear h1 h2 h3
          have e1 : ¬ (q : Int) ≤ 20000 := by omega
          have e2 : decide (20000 < q) = true := decide_eq_true hbig
          have e3 : decide ((20000 : Int) < (q : Int)) = true := decide_eq_true (by omega)
          clear hst hJ H1 H2
          go_wp2
          refine bodyPost_ret (v := .tuple #[serV 0 none 0 0, .int .i64 3]) (by simp [results, Tryd.results23, go_sem, qr, qr1]) rfl ?_
          have hgx := HG.out
          rw [HE.out.1, HE.out.2.1, HE.out.2.2]
          exact SerPost.zero (Gx.setCell (Gx.setCell (by repeat (first | (with_reducible exact Gx.refl _) | (with_reducible assumption) | (with_reducible refine Gx.gx ?_) | (with_reducible refine Gx.alloc ?_) | (with_reducible refine Gx.drew ?_) | (with_reducible refine Gx.drewN ?_) | (with_reducible refine Gx.setRow ?_ (by first | omega | (simp; done) | (simp <;> omega))) | (with_reducible refine Gx.setCell ?_ (by first | omega | (simp; done) | (simp <;> omega))))) (by omega)) (by omega))
        · obtain ⟨h1, h2, h3⟩ := H2.out hbig
          have HE := Lib.hid (And.intro h1 (And.intro h2 h3))
          clear h1 h2 h3
          have e1 : (q : Int) ≤ 20000 := by omega
          have e2 : decide (20000 < q) = false := decide_eq_false hbig
          have e3 : decide ((20000 : Int) < (q : Int)) = false := decide_eq_false (by omega)
          clear hst hJ H1 H2
          go_wp2
          refine bodyPost_ret (v := .tuple #[serV den A1 q c1, .int .i64 0]) (by simp [results, Tryd.results23, go_sem, qr, qr1]) rfl ?_
          rw [HE.out.1, HE.out.2.1, HE.out.2.2]
          exact RjSt.fin HS.out
end Go.Proofs.YtjlokobgdkkppaaDoor
