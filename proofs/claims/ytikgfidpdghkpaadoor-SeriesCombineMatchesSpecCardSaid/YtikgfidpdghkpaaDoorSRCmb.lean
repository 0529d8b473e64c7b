/-
  Combine of the reference.
-/
import Derived.Test.YtikgfidpdghkpaaDoorSOp
import Derived.Deep.RegionHeld3
namespace Go.Proofs.YtikgfidpdghkpaaDoor
open Go.RowKit
-- AT2
-- AT3

/-- What the reference's Combine has at hand in its loop. -/
structure CqSt (w wr : World) (gO k : Nat) (f : Nat → Sm) (den : Int) (A : Option Addr) (c : Nat) (aB bB : Array Value) : Prop where
  grew : ∃ x, wr = gx w x
  sa : At wr w.heap.size (.cells aB 24 (0, 0))
  sb : At wr (w.heap.size + 1) (.cells bB 24 (0, 0))
  res : At wr (w.heap.size + 1 + 1) (.cells #[.int .i64 0, .slice none 0 0] 24 (0, 0))
  out : At wr gO (.cells #[.int .i64 den, .slice A k c] 24 (0, 0))
  far : w.heap.size + 1 + 1 < gO
  own : Own (w.heap.size + 1 + 1 + 1) wr 44 3 (.slice A k c) k (smC f k)
theorem CqSt.gx {w wr : World} {gO k : Nat} {f : Nat → Sm} {den : Int} {A : Option Addr} {c : Nat} {aB bB : Array Value} {x : Ext} (h : CqSt w wr gO k f den A c aB bB) : CqSt w (gx wr x) gO k f den A c aB bB :=
  ⟨Gx.gx h.grew, h.sa.gx, h.sb.gx, h.res.gx, h.out.gx, h.far, h.own.gx⟩
theorem CqSt.alloc {w wr : World} {gO k : Nat} {f : Nat → Sm} {den : Int} {A : Option Addr} {c : Nat} {aB bB : Array Value} {o : Obj} (h : CqSt w wr gO k f den A c aB bB) : CqSt w (wr.alloc o) gO k f den A c aB bB := by rw [alloc_is]; exact h.gx
theorem CqSt.drew {w wr : World} {gO k : Nat} {f : Nat → Sm} {den : Int} {A : Option Addr} {c : Nat} {aB bB : Array Value} (h : CqSt w wr gO k f den A c aB bB) : CqSt w wr.drew gO k f den A c aB bB := by rw [drew_is]; exact h.gx
/-- A sample was appended, and the slice stored. -/
theorem CqSt.step {w W W2 : World} {gO k : Nat} {f : Nat → Sm} {den : Int} {A A2 : Option Addr} {c c2 : Nat} {aB bB : Array Value} (h : CqSt w W gO k f den A c aB bB) (hW : ∃ x, W2 = Go.Proofs.YtikgfidpdghkpaaDoor.gx w x) (hg : W.grownBy W2 (Value.slice A k c).ownBlock)
    (hO : Own (w.heap.size + 1 + 1 + 1) W2 44 3 (.slice A2 (k + 1) c2) (k + 1) (smC f k ++ [.int .i64 (f k).t, .int .i64 (f k).n, .int .i64 (f k).m])) : CqSt w (W2.setCell ⟨gO, 1, none⟩ (.slice A2 (k + 1) c2)) gO (k + 1) f den A2 c2 aB bB := by
  have n0 := own_ne_at h.own h.sa (by decide)
  have n1 := own_ne_at h.own h.sb (by decide)
  have n2 := own_ne_at h.own h.res (by decide)
  have n3 := own_ne_at h.own h.out (by decide)
  have a3 := h.out.grown hg n3
  have hf := h.far
  refine ⟨Gx.setCell hW (by omega), (h.sa.grown hg n0).setc_other (by omega), (h.sb.grown hg n1).setc_other (by omega), (h.res.grown hg n2).setc_other (by omega), a3.setc2, hf, ?_⟩
  rw [smC_succ]
  exact hO.setc (own_ne_at hO a3 (by decide))
theorem CqSt.fin {w wr : World} {gO k : Nat} {f : Nat → Sm} {den : Int} {A1 : Option Addr} {c1 : Nat} {aB bB : Array Value} {u v : Value} (h : CqSt w wr gO k f den A1 c1 aB bB) :
    SerPost w den f k 0 (.returned (.tuple #[serV den A1 k c1, .int .i64 0])) ((wr.setCell ⟨w.heap.size + 1 + 1, 0, none⟩ u).setCell ⟨w.heap.size + 1 + 1, 1, none⟩ v) := by
  have n2 := own_ne_at h.own h.res (by decide)
  exact SerPost.mk (Gx.setCell (Gx.setCell h.grew (by omega)) (by omega)) ((h.own.setc n2).setc n2).sm
theorem CqSt.of {w w1 W : World} {gO k : Nat} {f : Nat → Sm} {den : Int} {A : Option Addr} {c : Nat} {aB bB : Array Value} (h : CqSt w w1 gO k f den A c aB bB) (hW : ∃ x, W = Go.Proofs.YtikgfidpdghkpaaDoor.gx w1 x) : CqSt w W gO k f den A c aB bB := by
  obtain ⟨x, rfl⟩ := hW; exact h.gx
theorem cell_keep_drew' {w : World} {a : Addr} {v : Value} (h : w.cell? a = some v) : w.drew.cell? a = some v := h
theorem cell_keep_drewN' {w : World} {a : Addr} {v : Value} {n : Nat} (h : w.cell? a = some v) : (w.drewN n).cell? a = some v := h
theorem world_of {K : World → Prop} {W : World} (S : World → Prop) (hS : S W) (h : ∀ W', S W' → K W') : K W := h W hS
theorem three_z {W : World} {g : Nat} {u v x r q : Value} (c0 : W.cell? ⟨g, 0, none⟩ = some u) (c1 : W.cell? ⟨g, 1, none⟩ = some v) (c2 : W.cell? ⟨g, 2, none⟩ = some x) :
    ((W.setCell ⟨g, 1, none⟩ r).setCell ⟨g, 2, none⟩ q).cell? ⟨g, 0, none⟩ = some u ∧ ((W.setCell ⟨g, 1, none⟩ r).setCell ⟨g, 2, none⟩ q).cell? ⟨g, 1, none⟩ = some r ∧ ((W.setCell ⟨g, 1, none⟩ r).setCell ⟨g, 2, none⟩ q).cell? ⟨g, 2, none⟩ = some q :=
  ⟨setc_other (setc_other c0 (by simp)) (by simp), setc_other (World.cell?_setCell_same _ _ _ c1) (by simp), World.cell?_setCell_same _ _ _ (setc_other c2 (by simp))⟩
set_option maxHeartbeats 8000000 in
set_option maxRecDepth 100000 in
theorem RCombine_core (den : Int) (g : Nat → Sm) (n c : Nat) (A : Option Addr) (h : Nat → Sm) (m cb : Nat) (B : Option Addr) (op lg : Int) (w : World) (hL : SmAt w g n A) (hM : SmAt w h m B)
    (hn : n ≤ 20000) (hm : m ≤ 20000) (hG : GoodS g n) (hH : GoodS h m) (hop : 1 ≤ op ∧ op ≤ 5) (r6 : inB 0 1099511627776 lg = true) (f : Nat → Sm) (hf : Hid (∀ k, f k = cbS op g h m lg k))
    (HB : Hid (∀ W, (∃ x, W = gx w x) → Calls Tryd.prog 32 #[serV den A n c, serV den B m cb] W fun e w' => e = .returned (.int .i64 0) ∧ ∃ x, w' = gx W x))
    (D E : Int) (N : Nat) (E0 : Hid (firstOf (cbN op g h m lg) n = 0 → D = den ∧ N = n ∧ E = 0)) (E9 : Hid (firstOf (cbN op g h m lg) n = 9 → D = 0 ∧ N = 0 ∧ E = 9)) :
    Calls Tryd.prog 11 #[serV den A n c, serV den B m cb, .int .i64 op, .int .i64 lg] w (SerPost w D f N E) := by
  obtain ⟨l1, l2⟩ := inB_iff.1 r6
  have r5 : inB 1 5 op = true := inB_iff.2 hop
  go_enter Tryd.func11, Tryd.ntmps11
  go_wp2_with first
    | (go_at_call 32; refine (HB.out _ (by repeat (first | (with_reducible exact Gx.refl _) | (with_reducible assumption) | (with_reducible refine Gx.gx ?_) | (with_reducible refine Gx.alloc ?_) | (with_reducible refine Gx.drew ?_) | (with_reducible refine Gx.drewN ?_) | (with_reducible refine Gx.setRow ?_ (by first | omega | (simp; done) | (simp <;> omega))) | (with_reducible refine Gx.setCell ?_ (by first | omega | (simp; done) | (simp <;> omega)))))).mono ?_; rintro e w' ⟨rfl, z1, rfl⟩)
    | (go_at_call 22; refine (outside_any _ _ _ _).mono ?_; (first | rw [r5] | rw [r6]); rintro e w' ⟨rfl, rfl⟩)
  obtain ⟨gO, hgO⟩ : ∃ gO, gO = w.heap.size + 1 + 1 + 1 + z1.n := ⟨_, rfl⟩
  rw [← hgO]
  have HgO := Lib.hid hgO
  clear hgO
  go_loopw [12] (fun i wr => ∃ (k : Nat) (A1 : Option Addr) (c1 : Nat), k ≤ n ∧ i = .int .i64 k ∧ Hid (firstOf (cbN op g h m lg) k = 0) ∧ CqSt w wr gO k f den A1 c1 #[.int .i64 den, .slice A n c] #[.int .i64 den, .slice B m cb]) (fun i _ => n - (intOf i).toNat)
  case atStart =>
    have e1 := HgO.out
    refine ⟨0, none, 0, Nat.zero_le _, rfl, rfl, ⟨(by repeat (first | (with_reducible exact Gx.refl _) | (with_reducible assumption) | (with_reducible refine Gx.gx ?_) | (with_reducible refine Gx.alloc ?_) | (with_reducible refine Gx.drew ?_) | (with_reducible refine Gx.drewN ?_) | (with_reducible refine Gx.setRow ?_ (by first | omega | (simp; done) | (simp <;> omega))) | (with_reducible refine Gx.setCell ?_ (by first | omega | (simp; done) | (simp <;> omega))))), ?_, ?_, ?_, ?_, by omega, Own.nil _ _ _ _⟩⟩
    all_goals first | (refine At.new' ?_; simp; omega) | ((focus (repeat (first | (with_reducible assumption) | (with_reducible exact At.new _ _) | (with_reducible refine At.row ?_) | ((with_reducible refine At.row_other ?_ ?_); rotate_left; (focus (simp <;> omega))) | (with_reducible refine At.app ?_) | (with_reducible refine At.tick ?_) | (with_reducible refine At.gx ?_) | ((with_reducible refine At.new' ?_); focus (simp; done)) | (with_reducible refine At.alloc ?_) | (with_reducible refine At.drew ?_) | (with_reducible exact Is.new _ _ _) | (with_reducible refine Is.row ?_) | ((with_reducible refine Is.row_other ?_ ?_); rotate_left; (focus (simp <;> omega))) | (with_reducible refine Is.gx ?_) | ((with_reducible refine Is.new' ?_); focus (simp; done)) | (with_reducible refine Is.alloc ?_) | (with_reducible refine Is.drew ?_)))); done)
  case round =>
    obtain ⟨k, A1, c1, hk, rfl, hfo, hst⟩ := hrel
    have s0 : wr.cell? ⟨w.heap.size, 0, none⟩ = some (.int .i64 den) := by rw [cell_of_row wr _ _ _ _ _ hst.sa]; rfl
    have s1 : wr.cell? ⟨w.heap.size, 1, none⟩ = some (.slice A n c) := by rw [cell_of_row wr _ _ _ _ _ hst.sa]; rfl
    have t0 : wr.cell? ⟨w.heap.size + 1, 0, none⟩ = some (.int .i64 den) := by rw [cell_of_row wr _ _ _ _ _ hst.sb]; rfl
    have t1 : wr.cell? ⟨w.heap.size + 1, 1, none⟩ = some (.slice B m cb) := by rw [cell_of_row wr _ _ _ _ _ hst.sb]; rfl
    have l0 : w.heap.size < wr.heap.size := hst.sa.lt
    have l0' : w.heap.size + 1 < wr.heap.size := hst.sb.lt
    have hfar := hst.far
    by_cases hlt : k < n
    · have hkz : (k : Int) < (n : Int) := by omega
      obtain ⟨x, hx⟩ := hst.grew
      have hLr : SmAt wr g n A := by rw [hx]; exact hL.gx
      obtain ⟨b, o, rfl, hbw, HCs⟩ := hLr.get (by omega)
      obtain ⟨d1, d2, d3⟩ := HCs.out k hlt
      have hok := hG.ok k hlt
      unfold smOk at hok
      obtain ⟨o1, o2, o3, o4, o5, o6⟩ := hok
      have HHo := fun W (hW : SmAt W h m B) => Held_any den h m cb B (g k).t lg W hW hm hH o1 o2
      have HS := Lib.hid hst
      have hfk := hf.out k
      have hvb : heldB h (aheadN h ((g k).t + 1) m) (g k).t lg = true → -1125899906842624 ≤ (heldV h (aheadN h ((g k).t + 1) m) (g k).t lg).n ∧ (heldV h (aheadN h ((g k).t + 1) m) (g k).t lg).n ≤ 1125899906842624 := fun e => by
        rw [heldV_yes e]
        have hi := heldB_iff.1 e
        have := hH.ok (aheadN h ((g k).t + 1) m - 1) (by have := aheadN_le h ((g k).t + 1) m; omega)
        unfold smOk at this
        omega
      have hNo : ¬ (3 ≤ (g k).m ∧ heldB h (aheadN h ((g k).t + 1) m) (g k).t lg = true) → f k = ⟨(g k).t, 0, 0⟩ ∧ cbN op g h m lg k = 0 := fun e => by
        have := cbS_no (op := op) e
        refine ⟨by rw [hfk, this], ?_⟩
        unfold cbN
        rw [this, if_pos (by simp)]
      have hYes : 3 ≤ (g k).m → heldB h (aheadN h ((g k).t + 1) m) (g k).t lg = true → f k = ⟨(g k).t, opN op (g k).n (heldV h (aheadN h ((g k).t + 1) m) (g k).t lg).n, min (g k).m (heldV h (aheadN h ((g k).t + 1) m) (g k).t lg).m⟩ ∧ cbN op g h m lg k = if -1125899906842624 ≤ opN op (g k).n (heldV h (aheadN h ((g k).t + 1) m) (g k).t lg).n ∧ opN op (g k).n (heldV h (aheadN h ((g k).t + 1) m) (g k).t lg).n ≤ 1125899906842624 then 0 else 9 := fun e1 e2 => by
        have := cbS_yes (op := op) e1 e2
        refine ⟨by rw [hfk, this], ?_⟩
        unfold cbN
        rw [this]
      clear hst hx hfk HCs
      generalize heldV h (aheadN h ((g k).t + 1) m) (g k).t lg = V at *
      generalize heldB h (aheadN h ((g k).t + 1) m) (g k).t lg = bb at *
      obtain ⟨vt, vn, vm⟩ := V
      simp only at HHo hYes hvb
      generalize hgk : g k = X at *
      obtain ⟨xt, xn, xm⟩ := X
      simp only at d1 d2 d3 o1 o2 o3 o4 o5 o6 HHo hNo hYes
      have HHid := Lib.hid HHo
      clear HHo hgk
      by_cases hyn : 3 ≤ xm ∧ bb = true
      · obtain ⟨h3, rfl⟩ := hyn
        have p3 : decide (3 ≤ xm) = true := decide_eq_true h3
        obtain ⟨e1, e2⟩ := hYes h3 rfl
        have hvv := hvb rfl
        have HFr := Lib.hid (fun W => combined_any op xn vn hop W ⟨o3, o4⟩ hvv)
        have He1 := Lib.hid e1
        generalize hmn : min xm vm = mn at *
        by_cases hnn : -1125899906842624 ≤ opN op xn vn ∧ opN op xn vn ≤ 1125899906842624
        · rw [if_pos hnn] at e2
          have Hn := Lib.hid ((firstOf_succ hfo.out).trans e2)
          have hnb : inB (-1125899906842624) 1125899906842624 (opN op xn vn) = true := inB_iff.2 hnn
          clear hNo hYes e1 e2 hvb hvv hnn h3
          generalize opN op xn vn = r at *
          go_wp2_with first
            | (go_at_call 33; go_loud (refine (HHid.out _ (smAt_of hM (by have hx := HS.out.grew; exact (by repeat (first | (with_reducible exact Gx.refl _) | (with_reducible assumption) | (with_reducible refine Gx.gx ?_) | (with_reducible refine Gx.alloc ?_) | (with_reducible refine Gx.drew ?_) | (with_reducible refine Gx.drewN ?_) | (with_reducible refine Gx.setRow ?_ (by first | omega | (simp; done) | (simp <;> omega))) | (with_reducible refine Gx.setCell ?_ (by first | omega | (simp; done) | (simp <;> omega)))))))).mono ?_; rintro e w1 ⟨rfl, z, hw1⟩; have HS1 : Hid (CqSt w w1 gO k f den A1 c1 #[.int .i64 den, .slice (some ⟨b, o, none⟩) n c] #[.int .i64 den, .slice B m cb]) := (by rw [hw1]; exact HS.out.alloc.gx); have X1 : At w1 wr.heap.size (.cells #[.int .i64 xt, .int .i64 xn, .int .i64 xm] 44 (0, 0)) := (by rw [hw1]; exact At.gx (At.new _ _)); clear hw1; have y0 : w1.cell? ⟨wr.heap.size, 0, none⟩ = some (.int .i64 xt) := (by rw [cell_of_row w1 _ _ _ _ _ X1]; rfl); have y1 : w1.cell? ⟨wr.heap.size, 1, none⟩ = some (.int .i64 xn) := (by rw [cell_of_row w1 _ _ _ _ _ X1]; rfl); have y2 : w1.cell? ⟨wr.heap.size, 2, none⟩ = some (.int .i64 xm) := (by rw [cell_of_row w1 _ _ _ _ _ X1]; rfl); have lx : wr.heap.size < w1.heap.size := X1.lt; have hlO : gO < w1.heap.size := HS1.out.out.lt; have oo0 : w1.cell? ⟨gO, 0, none⟩ = some (.int .i64 den) := (by rw [cell_of_row w1 _ _ _ _ _ HS1.out.out]; rfl); have oo1 : w1.cell? ⟨gO, 1, none⟩ = some (.slice A1 k c1) := (by rw [cell_of_row w1 _ _ _ _ _ HS1.out.out]; rfl); have oof : w1.frozen? ⟨gO, 1, none⟩ = false := HS1.out.out.frz; have qr : w1.cell? ⟨w.heap.size + 1 + 1, 0, none⟩ = some (.int .i64 0) := (by rw [cell_of_row w1 _ _ _ _ _ HS1.out.res]; rfl); have qr1 : w1.cell? ⟨w.heap.size + 1 + 1, 1, none⟩ = some (.slice none 0 0) := (by rw [cell_of_row w1 _ _ _ _ _ HS1.out.res]; rfl); have hlr : w.heap.size + 1 + 1 < w1.heap.size := HS1.out.res.lt; have qf0 : w1.frozen? ⟨w.heap.size + 1 + 1, 0, none⟩ = false := HS1.out.res.frz; have qf1 : w1.frozen? ⟨w.heap.size + 1 + 1, 1, none⟩ = false := HS1.out.res.frz; clear X1))
            | (go_at_call 34; refine (Rsolid_any _ _).mono ?_; rw [p3]; rintro e w' ⟨rfl, rfl⟩)
          obtain ⟨Wb, hWb⟩ : ∃ Wb, Wb = ((w1.alloc (.cells #[.int .i64 vt, .int .i64 vn, .int .i64 vm] 44)).alloc (.cells #[.int .i64 xt, .int .i64 0, .int .i64 0] 44)) := ⟨_, rfl⟩
          rw [← hWb]
          have GB : ∃ x, Wb = gx w1 x := by rw [hWb]; exact (by repeat (first | (with_reducible exact Gx.refl _) | (with_reducible assumption) | (with_reducible refine Gx.gx ?_) | (with_reducible refine Gx.alloc ?_) | (with_reducible refine Gx.drew ?_) | (with_reducible refine Gx.drewN ?_) | (with_reducible refine Gx.setRow ?_ (by first | omega | (simp; done) | (simp <;> omega))) | (with_reducible refine Gx.setCell ?_ (by first | omega | (simp; done) | (simp <;> omega)))))
          have Yb : At Wb w1.heap.size (.cells #[.int .i64 vt, .int .i64 vn, .int .i64 vm] 44 (0, 0)) := by rw [hWb]; exact At.alloc (At.new _ _)
          have Zb : At Wb (w1.heap.size + 1) (.cells #[.int .i64 xt, .int .i64 0, .int .i64 0] 44 (0, 0)) := by rw [hWb]; exact At.new' (by simp)
          have x1 : Wb.cell? ⟨wr.heap.size, 1, none⟩ = some (.int .i64 xn) := by rw [hWb]; exact cell_keep_alloc (cell_keep_alloc y1)
          have x2 : Wb.cell? ⟨wr.heap.size, 2, none⟩ = some (.int .i64 xm) := by rw [hWb]; exact cell_keep_alloc (cell_keep_alloc y2)
          have b1 : Wb.cell? ⟨w1.heap.size, 1, none⟩ = some (.int .i64 vn) := by rw [cell_of_row Wb _ _ _ _ _ Yb]; rfl
          have b2 : Wb.cell? ⟨w1.heap.size, 2, none⟩ = some (.int .i64 vm) := by rw [cell_of_row Wb _ _ _ _ _ Yb]; rfl
          have c0 : Wb.cell? ⟨w1.heap.size + 1, 0, none⟩ = some (.int .i64 xt) := by rw [cell_of_row Wb _ _ _ _ _ Zb]; rfl
          have c1' : Wb.cell? ⟨w1.heap.size + 1, 1, none⟩ = some (.int .i64 0) := by rw [cell_of_row Wb _ _ _ _ _ Zb]; rfl
          have c2' : Wb.cell? ⟨w1.heap.size + 1, 2, none⟩ = some (.int .i64 0) := by rw [cell_of_row Wb _ _ _ _ _ Zb]; rfl
          have zf1 : Wb.frozen? ⟨w1.heap.size + 1, 1, none⟩ = false := Zb.frz
          have zf2 : Wb.frozen? ⟨w1.heap.size + 1, 2, none⟩ = false := Zb.frz
          have lz : w1.heap.size + 1 < Wb.heap.size := Zb.lt
          clear hWb Yb Zb
          go_region_held3 (fun W => (∃ x, W = gx w1 x) ∧ W.cell? ⟨wr.heap.size, 1, none⟩ = some (.int .i64 xn) ∧ W.cell? ⟨wr.heap.size, 2, none⟩ = some (.int .i64 xm) ∧ W.cell? ⟨w1.heap.size, 1, none⟩ = some (.int .i64 vn) ∧ W.cell? ⟨w1.heap.size, 2, none⟩ = some (.int .i64 vm))
            (refine ⟨(by repeat (first | (with_reducible exact Gx.refl _) | (with_reducible assumption) | (with_reducible refine Gx.gx ?_) | (with_reducible refine Gx.alloc ?_) | (with_reducible refine Gx.drew ?_) | (with_reducible refine Gx.drewN ?_) | (with_reducible refine Gx.setRow ?_ (by first | omega | (simp; done) | (simp <;> omega))) | (with_reducible refine Gx.setCell ?_ (by first | omega | (simp; done) | (simp <;> omega))))), ?_, ?_, ?_, ?_⟩ <;> (focus (repeat (first | (with_reducible assumption) | (with_reducible refine cell_keep_gx ?_) | (with_reducible refine cell_keep_alloc ?_) | (with_reducible refine cell_keep_drew' ?_) | ((with_reducible refine setc_other ?_ (fun e => by injection e with e1 e2; omega)))))))
            (first | (go_at_call 35; refine (HFr.out _).mono ?_; rintro e w' ⟨rfl, y, rfl⟩))
          all_goals refine world_of (fun W => (∃ x, W = gx w1 x) ∧ W.cell? ⟨w1.heap.size + 1, 0, none⟩ = some (.int .i64 xt) ∧ W.cell? ⟨w1.heap.size + 1, 1, none⟩ = some (.int .i64 r) ∧ W.cell? ⟨w1.heap.size + 1, 2, none⟩ = some (.int .i64 mn)) ?_ ?_
          all_goals first
            | exact ⟨(by repeat (first | (with_reducible exact Gx.refl _) | (with_reducible assumption) | (with_reducible refine Gx.gx ?_) | (with_reducible refine Gx.alloc ?_) | (with_reducible refine Gx.drew ?_) | (with_reducible refine Gx.drewN ?_) | (with_reducible refine Gx.setRow ?_ (by first | omega | (simp; done) | (simp <;> omega))) | (with_reducible refine Gx.setCell ?_ (by first | omega | (simp; done) | (simp <;> omega))))), cell_keep_gx (three_z c0 c1' c2').1, cell_keep_gx (three_z c0 c1' c2').2.1, cell_keep_gx (three_z c0 c1' c2').2.2⟩
            | skip
          all_goals (rintro W3 ⟨hW3, q0, q1, q2⟩)
          all_goals (have HS3 := Lib.hid (CqSt.of HS1.out hW3); have lz3 : w1.heap.size + 1 < W3.heap.size := World.block_lt_of_cell? W3 _ q0; have lO3 : gO < W3.heap.size := HS3.out.out.lt; have ee1 : W3.cell? ⟨gO, 1, none⟩ = some (.slice A1 k c1) := (by rw [cell_of_row W3 _ _ _ _ _ HS3.out.out]; rfl); have eef : W3.frozen? ⟨gO, 1, none⟩ = false := HS3.out.out.frz; have qr3 : W3.cell? ⟨w.heap.size + 1 + 1, 0, none⟩ = some (.int .i64 0) := (by rw [cell_of_row W3 _ _ _ _ _ HS3.out.res]; rfl); have qr13 : W3.cell? ⟨w.heap.size + 1 + 1, 1, none⟩ = some (.slice none 0 0) := (by rw [cell_of_row W3 _ _ _ _ _ HS3.out.res]; rfl); have hlr3 : w.heap.size + 1 + 1 < W3.heap.size := HS3.out.res.lt; have qf03 : W3.frozen? ⟨w.heap.size + 1 + 1, 0, none⟩ = false := HS3.out.res.frz; have qf13 : W3.frozen? ⟨w.heap.size + 1 + 1, 1, none⟩ = false := HS3.out.res.frz; clear hW3)
          all_goals go_wp2_with first
            | (go_at_call 22; refine (outside_any _ _ _ _).mono ?_; rw [hnb]; rintro e w' ⟨rfl, rfl⟩)
            | (at_builtin; (with_reducible apply append_new (o := ⟨some 83, _, _, _, _, _⟩) el_sample w (w.heap.size + 1 + 1 + 1) (v := .slice A1 k c1) (n := k) (xs := smC f k) (m := 1) (news := [.int .i64 xt, .int .i64 r, .int .i64 mn])); go_loud (exact rfl; exact rfl; exact rfl; exact rfl; (focus omega); exact (HS3.out.alloc (o := (.cells #[.int .i64 xt, .int .i64 r, .int .i64 mn] 44))).own; exact (HS3.out.alloc (o := (.cells #[.int .i64 xt, .int .i64 r, .int .i64 mn] 44))).grew; (focus (simp <;> omega)); exact rfl; (focus (repeat (first | (with_reducible assumption) | ((with_reducible apply Shows.whole); focus ((focus (repeat (first | (with_reducible assumption) | (with_reducible exact At.new _ _) | (with_reducible refine At.row ?_) | ((with_reducible refine At.row_other ?_ ?_); rotate_left; (focus (simp <;> omega))) | (with_reducible refine At.app ?_) | (with_reducible refine At.tick ?_) | (with_reducible refine At.gx ?_) | ((with_reducible refine At.new' ?_); focus (simp; done)) | (with_reducible refine At.alloc ?_) | (with_reducible refine At.drew ?_) | (with_reducible exact Is.new _ _ _) | (with_reducible refine Is.row ?_) | ((with_reducible refine Is.row_other ?_ ?_); rotate_left; (focus (simp <;> omega))) | (with_reducible refine Is.gx ?_) | ((with_reducible refine Is.new' ?_); focus (simp; done)) | (with_reducible refine Is.alloc ?_) | (with_reducible refine Is.drew ?_)))); done)) | (with_reducible refine Shows.app ?_) | (with_reducible refine Shows.tick ?_) | (with_reducible refine Shows.gx ?_) | (with_reducible refine Shows.alloc ?_) | (with_reducible refine Shows.drew ?_)))); (focus (simp [Value.oneCell']; done)); (focus (simp only [maxLen]; omega)); (focus omega); rintro v2 W2 hW2 hO2 hg; obtain ⟨A2, c2, rfl, -⟩ := hO2.is; have HN : Hid (CqSt w (W2.setCell ⟨gO, 1, none⟩ (.slice A2 (k + 1) c2)) gO (k + 1) f den A2 c2 #[.int .i64 den, .slice (some ⟨b, o, none⟩) n c] #[.int .i64 den, .slice B m cb]) := (CqSt.step (HS3.out.alloc (o := (.cells #[.int .i64 xt, .int .i64 r, .int .i64 mn] 44))) hW2 hg (by rw [He1.out]; exact hO2)); (have hlO2 : gO < W2.heap.size := (by have := HN.out.out.lt; simpa using this)); (have e1O := (HS3.out.alloc (o := (.cells #[.int .i64 xt, .int .i64 r, .int .i64 mn] 44))).out.grown hg (own_ne_at (HS3.out.alloc (o := (.cells #[.int .i64 xt, .int .i64 r, .int .i64 mn] 44))).own (HS3.out.alloc (o := (.cells #[.int .i64 xt, .int .i64 r, .int .i64 mn] 44))).out (by decide))); (have o1' : W2.cell? ⟨gO, 1, none⟩ = some (.slice A1 k c1) := (by rw [cell_of_row W2 _ _ _ _ _ e1O]; rfl)); have of1' : W2.frozen? ⟨gO, 1, none⟩ = false := e1O.frz; clear hg hO2 e1O))
          all_goals go_roundw
          all_goals first
            | exact ⟨k + 1, A2, c2, by omega, by go_num, Hn.out, HN.out⟩
            | (simp [intOf]; omega)
        · rw [if_neg hnn] at e2
          have h9 := firstOf_bad hfo.out hlt e2 (by decide)
          have HE := Lib.hid (E9.out h9)
          have hnb : inB (-1125899906842624) 1125899906842624 (opN op xn vn) = false := inB_no.2 hnn
          clear hNo hYes e1 e2 hvb hvv hnn h3 h9
          generalize opN op xn vn = r at *
          go_wp2_with first
            | (go_at_call 33; go_loud (refine (HHid.out _ (smAt_of hM (by have hx := HS.out.grew; exact (by repeat (first | (with_reducible exact Gx.refl _) | (with_reducible assumption) | (with_reducible refine Gx.gx ?_) | (with_reducible refine Gx.alloc ?_) | (with_reducible refine Gx.drew ?_) | (with_reducible refine Gx.drewN ?_) | (with_reducible refine Gx.setRow ?_ (by first | omega | (simp; done) | (simp <;> omega))) | (with_reducible refine Gx.setCell ?_ (by first | omega | (simp; done) | (simp <;> omega)))))))).mono ?_; rintro e w1 ⟨rfl, z, hw1⟩; have HS1 : Hid (CqSt w w1 gO k f den A1 c1 #[.int .i64 den, .slice (some ⟨b, o, none⟩) n c] #[.int .i64 den, .slice B m cb]) := (by rw [hw1]; exact HS.out.alloc.gx); have X1 : At w1 wr.heap.size (.cells #[.int .i64 xt, .int .i64 xn, .int .i64 xm] 44 (0, 0)) := (by rw [hw1]; exact At.gx (At.new _ _)); clear hw1; have y0 : w1.cell? ⟨wr.heap.size, 0, none⟩ = some (.int .i64 xt) := (by rw [cell_of_row w1 _ _ _ _ _ X1]; rfl); have y1 : w1.cell? ⟨wr.heap.size, 1, none⟩ = some (.int .i64 xn) := (by rw [cell_of_row w1 _ _ _ _ _ X1]; rfl); have y2 : w1.cell? ⟨wr.heap.size, 2, none⟩ = some (.int .i64 xm) := (by rw [cell_of_row w1 _ _ _ _ _ X1]; rfl); have lx : wr.heap.size < w1.heap.size := X1.lt; have hlO : gO < w1.heap.size := HS1.out.out.lt; have oo0 : w1.cell? ⟨gO, 0, none⟩ = some (.int .i64 den) := (by rw [cell_of_row w1 _ _ _ _ _ HS1.out.out]; rfl); have oo1 : w1.cell? ⟨gO, 1, none⟩ = some (.slice A1 k c1) := (by rw [cell_of_row w1 _ _ _ _ _ HS1.out.out]; rfl); have oof : w1.frozen? ⟨gO, 1, none⟩ = false := HS1.out.out.frz; have qr : w1.cell? ⟨w.heap.size + 1 + 1, 0, none⟩ = some (.int .i64 0) := (by rw [cell_of_row w1 _ _ _ _ _ HS1.out.res]; rfl); have qr1 : w1.cell? ⟨w.heap.size + 1 + 1, 1, none⟩ = some (.slice none 0 0) := (by rw [cell_of_row w1 _ _ _ _ _ HS1.out.res]; rfl); have hlr : w.heap.size + 1 + 1 < w1.heap.size := HS1.out.res.lt; have qf0 : w1.frozen? ⟨w.heap.size + 1 + 1, 0, none⟩ = false := HS1.out.res.frz; have qf1 : w1.frozen? ⟨w.heap.size + 1 + 1, 1, none⟩ = false := HS1.out.res.frz; clear X1))
            | (go_at_call 34; refine (Rsolid_any _ _).mono ?_; rw [p3]; rintro e w' ⟨rfl, rfl⟩)
          obtain ⟨Wb, hWb⟩ : ∃ Wb, Wb = ((w1.alloc (.cells #[.int .i64 vt, .int .i64 vn, .int .i64 vm] 44)).alloc (.cells #[.int .i64 xt, .int .i64 0, .int .i64 0] 44)) := ⟨_, rfl⟩
          rw [← hWb]
          have GB : ∃ x, Wb = gx w1 x := by rw [hWb]; exact (by repeat (first | (with_reducible exact Gx.refl _) | (with_reducible assumption) | (with_reducible refine Gx.gx ?_) | (with_reducible refine Gx.alloc ?_) | (with_reducible refine Gx.drew ?_) | (with_reducible refine Gx.drewN ?_) | (with_reducible refine Gx.setRow ?_ (by first | omega | (simp; done) | (simp <;> omega))) | (with_reducible refine Gx.setCell ?_ (by first | omega | (simp; done) | (simp <;> omega)))))
          have Yb : At Wb w1.heap.size (.cells #[.int .i64 vt, .int .i64 vn, .int .i64 vm] 44 (0, 0)) := by rw [hWb]; exact At.alloc (At.new _ _)
          have Zb : At Wb (w1.heap.size + 1) (.cells #[.int .i64 xt, .int .i64 0, .int .i64 0] 44 (0, 0)) := by rw [hWb]; exact At.new' (by simp)
          have x1 : Wb.cell? ⟨wr.heap.size, 1, none⟩ = some (.int .i64 xn) := by rw [hWb]; exact cell_keep_alloc (cell_keep_alloc y1)
          have x2 : Wb.cell? ⟨wr.heap.size, 2, none⟩ = some (.int .i64 xm) := by rw [hWb]; exact cell_keep_alloc (cell_keep_alloc y2)
          have b1 : Wb.cell? ⟨w1.heap.size, 1, none⟩ = some (.int .i64 vn) := by rw [cell_of_row Wb _ _ _ _ _ Yb]; rfl
          have b2 : Wb.cell? ⟨w1.heap.size, 2, none⟩ = some (.int .i64 vm) := by rw [cell_of_row Wb _ _ _ _ _ Yb]; rfl
          have c0 : Wb.cell? ⟨w1.heap.size + 1, 0, none⟩ = some (.int .i64 xt) := by rw [cell_of_row Wb _ _ _ _ _ Zb]; rfl
          have c1' : Wb.cell? ⟨w1.heap.size + 1, 1, none⟩ = some (.int .i64 0) := by rw [cell_of_row Wb _ _ _ _ _ Zb]; rfl
          have c2' : Wb.cell? ⟨w1.heap.size + 1, 2, none⟩ = some (.int .i64 0) := by rw [cell_of_row Wb _ _ _ _ _ Zb]; rfl
          have zf1 : Wb.frozen? ⟨w1.heap.size + 1, 1, none⟩ = false := Zb.frz
          have zf2 : Wb.frozen? ⟨w1.heap.size + 1, 2, none⟩ = false := Zb.frz
          have lz : w1.heap.size + 1 < Wb.heap.size := Zb.lt
          clear hWb Yb Zb
          go_region_held3 (fun W => (∃ x, W = gx w1 x) ∧ W.cell? ⟨wr.heap.size, 1, none⟩ = some (.int .i64 xn) ∧ W.cell? ⟨wr.heap.size, 2, none⟩ = some (.int .i64 xm) ∧ W.cell? ⟨w1.heap.size, 1, none⟩ = some (.int .i64 vn) ∧ W.cell? ⟨w1.heap.size, 2, none⟩ = some (.int .i64 vm))
            (refine ⟨(by repeat (first | (with_reducible exact Gx.refl _) | (with_reducible assumption) | (with_reducible refine Gx.gx ?_) | (with_reducible refine Gx.alloc ?_) | (with_reducible refine Gx.drew ?_) | (with_reducible refine Gx.drewN ?_) | (with_reducible refine Gx.setRow ?_ (by first | omega | (simp; done) | (simp <;> omega))) | (with_reducible refine Gx.setCell ?_ (by first | omega | (simp; done) | (simp <;> omega))))), ?_, ?_, ?_, ?_⟩ <;> (focus (repeat (first | (with_reducible assumption) | (with_reducible refine cell_keep_gx ?_) | (with_reducible refine cell_keep_alloc ?_) | (with_reducible refine cell_keep_drew' ?_) | ((with_reducible refine setc_other ?_ (fun e => by injection e with e1 e2; omega)))))))
            (first | (go_at_call 35; refine (HFr.out _).mono ?_; rintro e w' ⟨rfl, y, rfl⟩))
          all_goals refine world_of (fun W => (∃ x, W = gx w1 x) ∧ W.cell? ⟨w1.heap.size + 1, 0, none⟩ = some (.int .i64 xt) ∧ W.cell? ⟨w1.heap.size + 1, 1, none⟩ = some (.int .i64 r) ∧ W.cell? ⟨w1.heap.size + 1, 2, none⟩ = some (.int .i64 mn)) ?_ ?_
          all_goals first
            | exact ⟨(by repeat (first | (with_reducible exact Gx.refl _) | (with_reducible assumption) | (with_reducible refine Gx.gx ?_) | (with_reducible refine Gx.alloc ?_) | (with_reducible refine Gx.drew ?_) | (with_reducible refine Gx.drewN ?_) | (with_reducible refine Gx.setRow ?_ (by first | omega | (simp; done) | (simp <;> omega))) | (with_reducible refine Gx.setCell ?_ (by first | omega | (simp; done) | (simp <;> omega))))), cell_keep_gx (three_z c0 c1' c2').1, cell_keep_gx (three_z c0 c1' c2').2.1, cell_keep_gx (three_z c0 c1' c2').2.2⟩
            | skip
          all_goals (rintro W3 ⟨hW3, q0, q1, q2⟩)
          all_goals (have HS3 := Lib.hid (CqSt.of HS1.out hW3); have lz3 : w1.heap.size + 1 < W3.heap.size := World.block_lt_of_cell? W3 _ q0; have lO3 : gO < W3.heap.size := HS3.out.out.lt; have ee1 : W3.cell? ⟨gO, 1, none⟩ = some (.slice A1 k c1) := (by rw [cell_of_row W3 _ _ _ _ _ HS3.out.out]; rfl); have eef : W3.frozen? ⟨gO, 1, none⟩ = false := HS3.out.out.frz; have qr3 : W3.cell? ⟨w.heap.size + 1 + 1, 0, none⟩ = some (.int .i64 0) := (by rw [cell_of_row W3 _ _ _ _ _ HS3.out.res]; rfl); have qr13 : W3.cell? ⟨w.heap.size + 1 + 1, 1, none⟩ = some (.slice none 0 0) := (by rw [cell_of_row W3 _ _ _ _ _ HS3.out.res]; rfl); have hlr3 : w.heap.size + 1 + 1 < W3.heap.size := HS3.out.res.lt; have qf03 : W3.frozen? ⟨w.heap.size + 1 + 1, 0, none⟩ = false := HS3.out.res.frz; have qf13 : W3.frozen? ⟨w.heap.size + 1 + 1, 1, none⟩ = false := HS3.out.res.frz; clear hW3)
          all_goals go_wp2_with (go_at_call 22; refine (outside_any _ _ _ _).mono ?_; rw [hnb]; rintro e w' ⟨rfl, rfl⟩)
          all_goals obtain ⟨rfl, rfl, rfl⟩ := HE.out
          all_goals refine bodyPost_ret (v := .tuple #[serV 0 none 0 0, .int .i64 9]) (by simp [results, Tryd.results11, go_sem, qr3, qr13]) rfl ?_
          all_goals exact SerPost.zero (by have hx := HS3.out.grew; exact (by repeat (first | (with_reducible exact Gx.refl _) | (with_reducible assumption) | (with_reducible refine Gx.gx ?_) | (with_reducible refine Gx.alloc ?_) | (with_reducible refine Gx.drew ?_) | (with_reducible refine Gx.drewN ?_) | (with_reducible refine Gx.setRow ?_ (by first | omega | (simp; done) | (simp <;> omega))) | (with_reducible refine Gx.setCell ?_ (by first | omega | (simp; done) | (simp <;> omega))))))
      · obtain ⟨e1, e2⟩ := hNo hyn
        have He1 := Lib.hid e1
        have Hn := Lib.hid ((firstOf_succ hfo.out).trans e2)
        have hnb : inB (-1125899906842624) 1125899906842624 0 = true := inB_iff.2 (by decide)
        have hcase : decide (3 ≤ xm) = false ∨ decide (3 ≤ xm) = true ∧ bb = false := by
          by_cases h3 : 3 ≤ xm
          · exact .inr ⟨decide_eq_true h3, by cases bb; rfl; exact absurd ⟨h3, rfl⟩ hyn⟩
          · exact .inl (decide_eq_false h3)
        clear hNo hYes e1 e2 hvb hyn
        rcases hcase with p3 | ⟨p3, rfl⟩
        all_goals go_wp2_with first
          | (go_at_call 33; go_loud (refine (HHid.out _ (smAt_of hM (by have hx := HS.out.grew; exact (by repeat (first | (with_reducible exact Gx.refl _) | (with_reducible assumption) | (with_reducible refine Gx.gx ?_) | (with_reducible refine Gx.alloc ?_) | (with_reducible refine Gx.drew ?_) | (with_reducible refine Gx.drewN ?_) | (with_reducible refine Gx.setRow ?_ (by first | omega | (simp; done) | (simp <;> omega))) | (with_reducible refine Gx.setCell ?_ (by first | omega | (simp; done) | (simp <;> omega)))))))).mono ?_; rintro e w1 ⟨rfl, z, hw1⟩; have HS1 : Hid (CqSt w w1 gO k f den A1 c1 #[.int .i64 den, .slice (some ⟨b, o, none⟩) n c] #[.int .i64 den, .slice B m cb]) := (by rw [hw1]; exact HS.out.alloc.gx); have X1 : At w1 wr.heap.size (.cells #[.int .i64 xt, .int .i64 xn, .int .i64 xm] 44 (0, 0)) := (by rw [hw1]; exact At.gx (At.new _ _)); clear hw1; have y0 : w1.cell? ⟨wr.heap.size, 0, none⟩ = some (.int .i64 xt) := (by rw [cell_of_row w1 _ _ _ _ _ X1]; rfl); have y1 : w1.cell? ⟨wr.heap.size, 1, none⟩ = some (.int .i64 xn) := (by rw [cell_of_row w1 _ _ _ _ _ X1]; rfl); have y2 : w1.cell? ⟨wr.heap.size, 2, none⟩ = some (.int .i64 xm) := (by rw [cell_of_row w1 _ _ _ _ _ X1]; rfl); have lx : wr.heap.size < w1.heap.size := X1.lt; have hlO : gO < w1.heap.size := HS1.out.out.lt; have oo0 : w1.cell? ⟨gO, 0, none⟩ = some (.int .i64 den) := (by rw [cell_of_row w1 _ _ _ _ _ HS1.out.out]; rfl); have oo1 : w1.cell? ⟨gO, 1, none⟩ = some (.slice A1 k c1) := (by rw [cell_of_row w1 _ _ _ _ _ HS1.out.out]; rfl); have oof : w1.frozen? ⟨gO, 1, none⟩ = false := HS1.out.out.frz; have qr : w1.cell? ⟨w.heap.size + 1 + 1, 0, none⟩ = some (.int .i64 0) := (by rw [cell_of_row w1 _ _ _ _ _ HS1.out.res]; rfl); have qr1 : w1.cell? ⟨w.heap.size + 1 + 1, 1, none⟩ = some (.slice none 0 0) := (by rw [cell_of_row w1 _ _ _ _ _ HS1.out.res]; rfl); have hlr : w.heap.size + 1 + 1 < w1.heap.size := HS1.out.res.lt; have qf0 : w1.frozen? ⟨w.heap.size + 1 + 1, 0, none⟩ = false := HS1.out.res.frz; have qf1 : w1.frozen? ⟨w.heap.size + 1 + 1, 1, none⟩ = false := HS1.out.res.frz; clear X1))
          | (go_at_call 34; refine (Rsolid_any _ _).mono ?_; rw [p3]; rintro e w' ⟨rfl, rfl⟩)
          | (go_at_call 22; refine (outside_any _ _ _ _).mono ?_; rw [hnb]; rintro e w' ⟨rfl, rfl⟩)
          | (at_builtin; (with_reducible apply append_new (o := ⟨some 83, _, _, _, _, _⟩) el_sample w (w.heap.size + 1 + 1 + 1) (v := .slice A1 k c1) (n := k) (xs := smC f k) (m := 1) (news := [.int .i64 xt, .int .i64 0, .int .i64 0])); go_loud (exact rfl; exact rfl; exact rfl; exact rfl; (focus omega); exact (((HS1.out.alloc (o := (.cells #[.int .i64 vt, .int .i64 vn, .int .i64 vm] 44))).alloc (o := (.cells #[.int .i64 xt, .int .i64 0, .int .i64 0] 44))).alloc (o := (.cells #[.int .i64 xt, .int .i64 0, .int .i64 0] 44))).own; exact (((HS1.out.alloc (o := (.cells #[.int .i64 vt, .int .i64 vn, .int .i64 vm] 44))).alloc (o := (.cells #[.int .i64 xt, .int .i64 0, .int .i64 0] 44))).alloc (o := (.cells #[.int .i64 xt, .int .i64 0, .int .i64 0] 44))).grew; (focus (simp <;> omega)); exact rfl; (focus (repeat (first | (with_reducible assumption) | ((with_reducible apply Shows.whole); focus ((focus (repeat (first | (with_reducible assumption) | (with_reducible exact At.new _ _) | (with_reducible refine At.row ?_) | ((with_reducible refine At.row_other ?_ ?_); rotate_left; (focus (simp <;> omega))) | (with_reducible refine At.app ?_) | (with_reducible refine At.tick ?_) | (with_reducible refine At.gx ?_) | ((with_reducible refine At.new' ?_); focus (simp; done)) | (with_reducible refine At.alloc ?_) | (with_reducible refine At.drew ?_) | (with_reducible exact Is.new _ _ _) | (with_reducible refine Is.row ?_) | ((with_reducible refine Is.row_other ?_ ?_); rotate_left; (focus (simp <;> omega))) | (with_reducible refine Is.gx ?_) | ((with_reducible refine Is.new' ?_); focus (simp; done)) | (with_reducible refine Is.alloc ?_) | (with_reducible refine Is.drew ?_)))); done)) | (with_reducible refine Shows.app ?_) | (with_reducible refine Shows.tick ?_) | (with_reducible refine Shows.gx ?_) | (with_reducible refine Shows.alloc ?_) | (with_reducible refine Shows.drew ?_)))); (focus (simp [Value.oneCell']; done)); (focus (simp only [maxLen]; omega)); (focus omega); rintro v2 W2 hW2 hO2 hg; obtain ⟨A2, c2, rfl, -⟩ := hO2.is; have HN : Hid (CqSt w (W2.setCell ⟨gO, 1, none⟩ (.slice A2 (k + 1) c2)) gO (k + 1) f den A2 c2 #[.int .i64 den, .slice (some ⟨b, o, none⟩) n c] #[.int .i64 den, .slice B m cb]) := (CqSt.step (((HS1.out.alloc (o := (.cells #[.int .i64 vt, .int .i64 vn, .int .i64 vm] 44))).alloc (o := (.cells #[.int .i64 xt, .int .i64 0, .int .i64 0] 44))).alloc (o := (.cells #[.int .i64 xt, .int .i64 0, .int .i64 0] 44))) hW2 hg (by rw [He1.out]; exact hO2)); (have hlO2 : gO < W2.heap.size := (by have := HN.out.out.lt; simpa using this)); (have e1O := (((HS1.out.alloc (o := (.cells #[.int .i64 vt, .int .i64 vn, .int .i64 vm] 44))).alloc (o := (.cells #[.int .i64 xt, .int .i64 0, .int .i64 0] 44))).alloc (o := (.cells #[.int .i64 xt, .int .i64 0, .int .i64 0] 44))).out.grown hg (own_ne_at (((HS1.out.alloc (o := (.cells #[.int .i64 vt, .int .i64 vn, .int .i64 vm] 44))).alloc (o := (.cells #[.int .i64 xt, .int .i64 0, .int .i64 0] 44))).alloc (o := (.cells #[.int .i64 xt, .int .i64 0, .int .i64 0] 44))).own (((HS1.out.alloc (o := (.cells #[.int .i64 vt, .int .i64 vn, .int .i64 vm] 44))).alloc (o := (.cells #[.int .i64 xt, .int .i64 0, .int .i64 0] 44))).alloc (o := (.cells #[.int .i64 xt, .int .i64 0, .int .i64 0] 44))).out (by decide))); (have o1' : W2.cell? ⟨gO, 1, none⟩ = some (.slice A1 k c1) := (by rw [cell_of_row W2 _ _ _ _ _ e1O]; rfl)); have of1' : W2.frozen? ⟨gO, 1, none⟩ = false := e1O.frz; clear hg hO2 e1O))
        all_goals go_roundw
        all_goals first
          | exact ⟨k + 1, A2, c2, by omega, by go_num, Hn.out, HN.out⟩
          | (simp [intOf]; omega)
    · obtain rfl : k = n := by omega
      obtain ⟨rfl, rfl, rfl⟩ := E0.out hfo.out
      have HS := Lib.hid hst
      have qr : wr.cell? ⟨w.heap.size + 1 + 1, 0, none⟩ = some (.int .i64 0) := by rw [cell_of_row wr _ _ _ _ _ hst.res]; rfl
      have qr1 : wr.cell? ⟨w.heap.size + 1 + 1, 1, none⟩ = some (.slice none 0 0) := by rw [cell_of_row wr _ _ _ _ _ hst.res]; rfl
      have qf0 : wr.frozen? ⟨w.heap.size + 1 + 1, 0, none⟩ = false := hst.res.frz
      have qf1 : wr.frozen? ⟨w.heap.size + 1 + 1, 1, none⟩ = false := hst.res.frz
      have hlr : w.heap.size + 1 + 1 < wr.heap.size := hst.res.lt
      have hlO : gO < wr.heap.size := hst.out.lt
      have oo0 : wr.cell? ⟨gO, 0, none⟩ = some (.int .i64 D) := by rw [cell_of_row wr _ _ _ _ _ hst.out]; rfl
      have oo1 : wr.cell? ⟨gO, 1, none⟩ = some (.slice A1 N c1) := by rw [cell_of_row wr _ _ _ _ _ hst.out]; rfl
      clear hst
      go_wp2
      refine bodyPost_ret (v := .tuple #[serV D A1 N c1, .int .i64 0]) (by simp [results, Tryd.results11, go_sem, qr, qr1]) rfl ?_
      exact CqSt.fin HS.out
end Go.Proofs.YtikgfidpdghkpaaDoor
