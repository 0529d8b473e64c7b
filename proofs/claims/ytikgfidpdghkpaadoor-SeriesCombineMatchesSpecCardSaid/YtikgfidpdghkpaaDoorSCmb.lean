/-
  Combine of the program.
-/
import Derived.Test.YtikgfidpdghkpaaDoorSOp
namespace Go.Proofs.YtikgfidpdghkpaaDoor
open Go.RowKit
-- AT2
-- AT3

theorem MadeAt.smear {wr : World} {gM n k : Nat} {f : Nat → Sm} {o : Nat} {u : Value} (h : MadeAt wr gM n k f) (ho : k * 3 ≤ o) : MadeAt (wr.setCell ⟨gM, o, none⟩ u) gM n k f := by
  have ne : ∀ i j : Nat, i ≠ j → (⟨gM, i, none⟩ : Addr) ≠ ⟨gM, j, none⟩ := fun i j hij e => by injection e with _ e2; exact hij e2
  refine ⟨h.is.setc, fun j hj => ?_, fun i hi => ?_, fun i hi => ?_, fun i hi => ?_⟩
  · obtain ⟨v, e⟩ := h.all j hj
    by_cases e0 : j = o
    · subst e0; exact ⟨_, World.cell?_setCell_same _ _ _ e⟩
    · exact ⟨v, setc_other e (ne _ _ (Ne.symm e0))⟩
  · exact setc_other (h.t i hi) (ne _ _ (by omega))
  · exact setc_other (h.n' i hi) (ne _ _ (by omega))
  · exact setc_other (h.m i hi) (ne _ _ (by omega))
theorem two_cells {wr : World} {b : Nat} {p q u v : Value} (c0 : wr.cell? ⟨b, 0, none⟩ = some u) (c1 : wr.cell? ⟨b, 1, none⟩ = some v) :
    ((wr.setCell ⟨b, 0, none⟩ p).setCell ⟨b, 1, none⟩ q).cell? ⟨b, 0, none⟩ = some p ∧ ((wr.setCell ⟨b, 0, none⟩ p).setCell ⟨b, 1, none⟩ q).cell? ⟨b, 1, none⟩ = some q :=
  ⟨(World.cell?_setCell_other _ _ _ _ (by simp)).trans (World.cell?_setCell_same _ _ _ c0), World.cell?_setCell_same _ _ _ ((World.cell?_setCell_other _ _ _ _ (by simp)).trans c1)⟩
/-- What Combine has at hand in its loop. -/
structure CmSt (w wr : World) (gM g8 : Nat) (n k : Nat) (f : Nat → Sm) (aB bB tB : Array Value) : Prop where
  grew : ∃ x, wr = gx w x
  made : MadeAt wr gM n k f
  sa : At wr w.heap.size (.cells aB 24 (0, 0))
  sb : At wr (w.heap.size + 1) (.cells bB 24 (0, 0))
  res : At wr (w.heap.size + 1 + 1) (.cells #[.int .i64 0, .slice none 0 0] 24 (0, 0))
  told : At wr g8 (.cells tB 24 (0, 0))
  far : w.heap.size + 1 + 1 < gM ∧ w.heap.size + 1 + 1 < g8 ∧ gM ≠ g8
theorem CmSt.gx {w wr : World} {gM g8 n k : Nat} {f : Nat → Sm} {aB bB tB : Array Value} {x : Ext} (h : CmSt w wr gM g8 n k f aB bB tB) : CmSt w (gx wr x) gM g8 n k f aB bB tB :=
  ⟨Gx.gx h.grew, h.made.gx, h.sa.gx, h.sb.gx, h.res.gx, h.told.gx, h.far⟩
theorem CmSt.alloc {w wr : World} {gM g8 n k : Nat} {f : Nat → Sm} {aB bB tB : Array Value} {ob : Obj} (h : CmSt w wr gM g8 n k f aB bB tB) : CmSt w (wr.alloc ob) gM g8 n k f aB bB tB := by rw [alloc_is]; exact h.gx
theorem CmSt.set3 {w wr : World} {gM g8 n k j : Nat} {f : Nat → Sm} {aB bB tB : Array Value} {u v x : Value} {o : Nat} (h : CmSt w wr gM g8 n k f aB bB tB) (hm : MadeAt (((wr.setCell ⟨gM, o, none⟩ u).setCell ⟨gM, o + 1, none⟩ v).setCell ⟨gM, o + 2, none⟩ x) gM n j f) :
    CmSt w (((wr.setCell ⟨gM, o, none⟩ u).setCell ⟨gM, o + 1, none⟩ v).setCell ⟨gM, o + 2, none⟩ x) gM g8 n j f aB bB tB := by
  obtain ⟨f1, f2, f3⟩ := h.far
  refine ⟨Gx.setCell (Gx.setCell (Gx.setCell h.grew (by omega)) (by omega)) (by omega), hm, ?_, ?_, ?_, ?_, h.far⟩
  · exact At.setc_other (At.setc_other (At.setc_other h.sa (by omega)) (by omega)) (by omega)
  · exact At.setc_other (At.setc_other (At.setc_other h.sb (by omega)) (by omega)) (by omega)
  · exact At.setc_other (At.setc_other (At.setc_other h.res (by omega)) (by omega)) (by omega)
  · exact At.setc_other (At.setc_other (At.setc_other h.told f3) f3) f3
theorem CmSt.put {w wr : World} {gM g8 n k : Nat} {f : Nat → Sm} {aB bB tB : Array Value} (h : CmSt w wr gM g8 n k f aB bB tB) (hk : k < n) {t' n' m' : Int} (e : f k = ⟨t', n', m'⟩) :
    CmSt w (((wr.setCell ⟨gM, k * 3, none⟩ (.int .i64 t')).setCell ⟨gM, k * 3 + 1, none⟩ (.int .i64 n')).setCell ⟨gM, k * 3 + 2, none⟩ (.int .i64 m')) gM g8 n (k + 1) f aB bB tB :=
  h.set3 (h.made.put hk (by rw [e]) (by rw [e]) (by rw [e]))
theorem CmSt.smear {w wr : World} {gM g8 n k : Nat} {f : Nat → Sm} {aB bB tB : Array Value} {u v x : Value} (h : CmSt w wr gM g8 n k f aB bB tB) :
    CmSt w (((wr.setCell ⟨gM, k * 3, none⟩ u).setCell ⟨gM, k * 3 + 1, none⟩ v).setCell ⟨gM, k * 3 + 2, none⟩ x) gM g8 n k f aB bB tB :=
  h.set3 (((h.made.smear (Nat.le_refl _)).smear (by omega)).smear (by omega))
set_option maxHeartbeats 8000000 in
set_option maxRecDepth 100000 in
theorem Combine_core (den : Int) (g : Nat → Sm) (n c : Nat) (A : Option Addr) (h : Nat → Sm) (m cb : Nat) (B : Option Addr) (op lg : Int) (w : World) (hL : SmAt w g n A) (hM : SmAt w h m B)
    (hn : n ≤ 20000) (hm : m ≤ 20000) (hG : GoodS g n) (hH : GoodS h m) (K : FuncId) (OF : OpF op K) (r6 : inB 0 1099511627776 lg = true) (f : Nat → Sm) (hf : Hid (∀ k, f k = cbS op g h m lg k))
    (HB : Hid (∀ W, (∃ x, W = gx w x) → Calls Tryd.prog 26 #[serV den A n c, serV den B m cb] W fun e w' => e = .returned (.int .i64 0) ∧ ∃ x, w' = gx W x))
    (HO : Hid (∀ W, Calls Tryd.prog 27 #[.int .i64 op] W fun e w' => e = .returned (.tuple #[.func (.func K) #[] #[], .bool true]) ∧ ∃ x, w' = gx W x))
    (D E : Int) (N : Nat) (E0 : Hid (firstOf (cbN op g h m lg) n = 0 → D = den ∧ N = n ∧ E = 0)) (E9 : Hid (firstOf (cbN op g h m lg) n = 9 → D = 0 ∧ N = 0 ∧ E = 9)) :
    Calls Tryd.prog 10 #[serV den A n c, serV den B m cb, .int .i64 op, .int .i64 lg] w (SerPost w D f N E) := by
  have eK := OF.ent
  have HF := Lib.hid OF.run
  obtain ⟨l1, l2⟩ := inB_iff.1 r6
  obtain ⟨C, hC, hmk⟩ := make_sms n (by omega)
  clear OF
  go_enter Tryd.func10, Tryd.ntmps10
  go_wp2_with first
    | (go_at_call 26; refine (HB.out _ (by repeat (first | (with_reducible exact Gx.refl _) | (with_reducible assumption) | (with_reducible refine Gx.gx ?_) | (with_reducible refine Gx.alloc ?_) | (with_reducible refine Gx.drew ?_) | (with_reducible refine Gx.drewN ?_) | (with_reducible refine Gx.setRow ?_ (by first | omega | (simp; done) | (simp <;> omega))) | (with_reducible refine Gx.setCell ?_ (by first | omega | (simp; done) | (simp <;> omega)))))).mono ?_; rintro e w' ⟨rfl, z1, rfl⟩)
    | (go_at_call 27; refine (HO.out _).mono ?_; rintro e w' ⟨rfl, z2, rfl⟩)
    | (go_at_call 28; refine (isTime_any _ _).mono ?_; rw [r6]; rintro e w' ⟨rfl, rfl⟩)
  go_region
  · rename_i K' hK
    refine hK _ _ ?_
    go_wp2
    obtain ⟨gM, hgM⟩ : ∃ gM, gM = w.heap.size + 1 + 1 + 1 + ((z1.app z2).tick 1).n := ⟨_, rfl⟩
    obtain ⟨g8, hg8⟩ : ∃ g8, g8 = w.heap.size + 1 + 1 + 1 + ((z1.app z2).tick 1).n + 1 := ⟨_, rfl⟩
    rw [← hg8, ← hgM]
    have HgM := Lib.hid hgM
    have Hg8 := Lib.hid hg8
    clear hgM hg8
    go_loopw [48] (fun i wr => ∃ k : Nat, k ≤ n ∧ i = .int .i64 k ∧ Hid (firstOf (cbN op g h m lg) k = 0) ∧ CmSt w wr gM g8 n k f #[.int .i64 den, .slice A n c] #[.int .i64 den, .slice B m cb] #[.int .i64 den, .slice (some ⟨gM, 0, none⟩) n n]) (fun i _ => n - (intOf i).toNat)
    case atStart =>
      have e1 := HgM.out
      have e2 := Hg8.out
      refine ⟨0, Nat.zero_le _, rfl, rfl, ⟨(by repeat (first | (with_reducible exact Gx.refl _) | (with_reducible assumption) | (with_reducible refine Gx.gx ?_) | (with_reducible refine Gx.alloc ?_) | (with_reducible refine Gx.drew ?_) | (with_reducible refine Gx.drewN ?_) | (with_reducible refine Gx.setRow ?_ (by first | omega | (simp; done) | (simp <;> omega))) | (with_reducible refine Gx.setCell ?_ (by first | omega | (simp; done) | (simp <;> omega))))), MadeAt.new (C := C) ?_ hC, ?_, ?_, ?_, ?_, by omega⟩⟩
      all_goals first | (refine At.new' ?_; simp; omega) | (refine At.alloc (At.new' ?_); simp; omega) | ((focus (repeat (first | (with_reducible assumption) | (with_reducible exact At.new _ _) | (with_reducible refine At.row ?_) | ((with_reducible refine At.row_other ?_ ?_); rotate_left; (focus (simp <;> omega))) | (with_reducible refine At.app ?_) | (with_reducible refine At.tick ?_) | (with_reducible refine At.gx ?_) | ((with_reducible refine At.new' ?_); focus (simp; done)) | (with_reducible refine At.alloc ?_) | (with_reducible refine At.drew ?_) | (with_reducible exact Is.new _ _ _) | (with_reducible refine Is.row ?_) | ((with_reducible refine Is.row_other ?_ ?_); rotate_left; (focus (simp <;> omega))) | (with_reducible refine Is.gx ?_) | ((with_reducible refine Is.new' ?_); focus (simp; done)) | (with_reducible refine Is.alloc ?_) | (with_reducible refine Is.drew ?_)))); done)
    case round =>
      obtain ⟨k, hk, rfl, hfo, hst⟩ := hrel
      have q8 : wr.cell? ⟨g8, 1, none⟩ = some (.slice (some ⟨gM, 0, none⟩) n n) := by rw [cell_of_row wr _ _ _ _ _ hst.told]; rfl
      have q80 : wr.cell? ⟨g8, 0, none⟩ = some (.int .i64 den) := by rw [cell_of_row wr _ _ _ _ _ hst.told]; rfl
      have hl8 : g8 < wr.heap.size := hst.told.lt
      have hlM : gM < wr.heap.size := hst.made.lt
      have qr : wr.cell? ⟨w.heap.size + 1 + 1, 0, none⟩ = some (.int .i64 0) := by rw [cell_of_row wr _ _ _ _ _ hst.res]; rfl
      have qr1 : wr.cell? ⟨w.heap.size + 1 + 1, 1, none⟩ = some (.slice none 0 0) := by rw [cell_of_row wr _ _ _ _ _ hst.res]; rfl
      have hlr : w.heap.size + 1 + 1 < wr.heap.size := hst.res.lt
      have qf0 : wr.frozen? ⟨w.heap.size + 1 + 1, 0, none⟩ = false := hst.res.frz
      have qf1 : wr.frozen? ⟨w.heap.size + 1 + 1, 1, none⟩ = false := hst.res.frz
      have hfar := hst.far
      have ne1 : ¬ gM = w.heap.size + 1 := by omega
      have ne2 : ¬ w.heap.size + 1 = gM := by omega
      have ne3 : ¬ gM = w.heap.size := by omega
      have ne4 : ¬ w.heap.size = gM := by omega
      have ne5 : ¬ gM = g8 := hfar.2.2
      have ne6 : ¬ g8 = gM := fun e => hfar.2.2 e.symm
      have hgm : w.heap.size ≤ gM := by omega
      by_cases hlt : k < n
      · have hkz : (k : Int) < (n : Int) := by omega
        have s1 : wr.cell? ⟨w.heap.size + 1, 1, none⟩ = some (.slice B m cb) := by rw [cell_of_row wr _ _ _ _ _ hst.sb]; rfl
        have hl1 : w.heap.size + 1 < wr.heap.size := hst.sb.lt
        obtain ⟨x, hx⟩ := hst.grew
        have hMr : SmAt wr h m B := by rw [hx]; exact hM.gx
        have hLr : SmAt wr g n A := by rw [hx]; exact hL.gx
        obtain ⟨b, o, rfl, hbw, HCs⟩ := hLr.get (by omega)
        obtain ⟨d1, d2, d3⟩ := HCs.out k hlt
        have hok := hG.ok k hlt
        unfold smOk at hok
        obtain ⟨o1, o2, o3, o4, o5, o6⟩ := hok
        have HHo := fun W (hW : SmAt W h m B) => hold_any h m cb B (g k).t lg W hW hm hH o1 o2 l1 l2
        obtain ⟨a0, ha0⟩ := hst.made.all (k * 3) (by omega)
        obtain ⟨a1, ha1⟩ := hst.made.all (k * 3 + 1) (by omega)
        obtain ⟨a2, ha2⟩ := hst.made.all (k * 3 + 2) (by omega)
        have fz0 := hst.made.frz (o := k * 3)
        have fz1 := hst.made.frz (o := k * 3 + 1)
        have fz2 := hst.made.frz (o := k * 3 + 2)
        have HS := Lib.hid hst
        have hfk := hf.out k
        have hvb : heldB h (aheadN h ((g k).t + 1) m) (g k).t lg = true → -1125899906842624 ≤ (heldV h (aheadN h ((g k).t + 1) m) (g k).t lg).n ∧ (heldV h (aheadN h ((g k).t + 1) m) (g k).t lg).n ≤ 1125899906842624 := fun e => by
          rw [heldV_yes e]
          have hi := heldB_iff.1 e
          have := hH.ok (aheadN h ((g k).t + 1) m - 1) (by have := aheadN_le h ((g k).t + 1) m; omega)
          unfold smOk at this
          omega
        have hNo : ¬ (3 ≤ (g k).m ∧ heldB h (aheadN h ((g k).t + 1) m) (g k).t lg = true) → f k = ⟨(g k).t, 0, 0⟩ ∧ cbN op g h m lg k = 0 := fun e => by
          have := cbS_no (op := op) e
          refine ⟨by rw [hfk, this], ?_⟩
          unfold cbN
          rw [this, if_pos (by simp)]
        have hYes : 3 ≤ (g k).m → heldB h (aheadN h ((g k).t + 1) m) (g k).t lg = true → f k = ⟨(g k).t, opN op (g k).n (heldV h (aheadN h ((g k).t + 1) m) (g k).t lg).n, min (g k).m (heldV h (aheadN h ((g k).t + 1) m) (g k).t lg).m⟩ ∧ cbN op g h m lg k = if -1125899906842624 ≤ opN op (g k).n (heldV h (aheadN h ((g k).t + 1) m) (g k).t lg).n ∧ opN op (g k).n (heldV h (aheadN h ((g k).t + 1) m) (g k).t lg).n ≤ 1125899906842624 then 0 else 9 := fun e1 e2 => by
          have := cbS_yes (op := op) e1 e2
          refine ⟨by rw [hfk, this], ?_⟩
          unfold cbN
          rw [this]
        clear hst hx hfk HCs
        generalize heldV h (aheadN h ((g k).t + 1) m) (g k).t lg = V at *
        generalize heldB h (aheadN h ((g k).t + 1) m) (g k).t lg = bb at *
        obtain ⟨vt, vn, vm⟩ := V
        simp only at HHo hYes hvb
        generalize hgk : g k = X at *
        obtain ⟨xt, xn, xm⟩ := X
        simp only at d1 d2 d3 o1 o2 o3 o4 o5 o6 HHo hNo hYes
        have HHid := Lib.hid HHo
        clear HHo hgk
        cases bb
        · obtain ⟨e1, e2⟩ := hNo (fun e => by cases e.2)
          have He1 := Lib.hid e1
          have Hn := Lib.hid ((firstOf_succ hfo.out).trans e2)
          clear hNo hYes e1 e2 hvb
          go_wp2_with (go_at_call 29; refine (HHid.out _ (smAt_of hM (by have hx := HS.out.grew; exact (by repeat (first | (with_reducible exact Gx.refl _) | (with_reducible assumption) | (with_reducible refine Gx.gx ?_) | (with_reducible refine Gx.alloc ?_) | (with_reducible refine Gx.drew ?_) | (with_reducible refine Gx.drewN ?_) | (with_reducible refine Gx.setRow ?_ (by first | omega | (simp; done) | (simp <;> omega))) | (with_reducible refine Gx.setCell ?_ (by first | omega | (simp; done) | (simp <;> omega)))))))).mono ?_; rintro e w' ⟨rfl, z, rfl⟩)
          go_roundw
          case rel => exact ⟨k + 1, by omega, by go_num, Hn.out, by have hs := HS.out.put hlt He1.out; first | exact hs.alloc.gx.alloc | exact hs.gx.alloc⟩
          case measure => simp [intOf]; omega
        · by_cases h3 : 3 ≤ xm
          · have p3 : decide (3 ≤ xm) = true := decide_eq_true h3
            obtain ⟨e1, e2⟩ := hYes h3 rfl
            have hvv := hvb rfl
            have HFr := Lib.hid (fun W => HF.out xn vn W ⟨o3, o4⟩ hvv)
            by_cases hnn : -1125899906842624 ≤ opN op xn vn ∧ opN op xn vn ≤ 1125899906842624
            · rw [if_pos hnn] at e2
              have He1 := Lib.hid e1
              have Hn := Lib.hid ((firstOf_succ hfo.out).trans e2)
              have hnb : nB (opN op xn vn) = true := nB_iff.2 (by unfold isN; exact hnn)
              clear hNo hYes e1 e2 hvb hvv hnn h3
              generalize opN op xn vn = r at *
              go_wp2_with first
                | (go_at_call 29; go_loud (refine (HHid.out _ (smAt_of hM (by have hx := HS.out.grew; exact (by repeat (first | (with_reducible exact Gx.refl _) | (with_reducible assumption) | (with_reducible refine Gx.gx ?_) | (with_reducible refine Gx.alloc ?_) | (with_reducible refine Gx.drew ?_) | (with_reducible refine Gx.drewN ?_) | (with_reducible refine Gx.setRow ?_ (by first | omega | (simp; done) | (simp <;> omega))) | (with_reducible refine Gx.setCell ?_ (by first | omega | (simp; done) | (simp <;> omega)))))))).mono ?_; rintro e w1 ⟨rfl, z, hw1⟩; have hS1 := HS.out.smear (u := .int .i64 xt) (v := .int .i64 0) (x := .int .i64 0); have HS1 : Hid (CmSt w w1 gM g8 n k f #[.int .i64 den, .slice (some ⟨b, o, none⟩) n c] #[.int .i64 den, .slice B m cb] #[.int .i64 den, .slice (some ⟨gM, 0, none⟩) n n]) := (by rw [hw1]; first | exact hS1.alloc.gx | exact hS1.gx); have X1 : At w1 wr.heap.size (.cells #[.int .i64 xt, .int .i64 xn, .int .i64 xm] 44 (0, 0)) := (by rw [hw1]; first | exact At.gx (At.new' (by simp)) | (focus (repeat (first | (with_reducible assumption) | (with_reducible exact At.new _ _) | (with_reducible refine At.row ?_) | ((with_reducible refine At.row_other ?_ ?_); rotate_left; (focus (simp <;> omega))) | (with_reducible refine At.app ?_) | (with_reducible refine At.tick ?_) | (with_reducible refine At.gx ?_) | ((with_reducible refine At.new' ?_); focus (simp; done)) | (with_reducible refine At.alloc ?_) | (with_reducible refine At.drew ?_) | (with_reducible exact Is.new _ _ _) | (with_reducible refine Is.row ?_) | ((with_reducible refine Is.row_other ?_ ?_); rotate_left; (focus (simp <;> omega))) | (with_reducible refine Is.gx ?_) | ((with_reducible refine Is.new' ?_); focus (simp; done)) | (with_reducible refine Is.alloc ?_) | (with_reducible refine Is.drew ?_))))); clear hw1 hS1; have y0 : w1.cell? ⟨wr.heap.size, 0, none⟩ = some (.int .i64 xt) := (by rw [cell_of_row w1 _ _ _ _ _ X1]; rfl); have y1 : w1.cell? ⟨wr.heap.size, 1, none⟩ = some (.int .i64 xn) := (by rw [cell_of_row w1 _ _ _ _ _ X1]; rfl); have y2 : w1.cell? ⟨wr.heap.size, 2, none⟩ = some (.int .i64 xm) := (by rw [cell_of_row w1 _ _ _ _ _ X1]; rfl); have lx : wr.heap.size < w1.heap.size := X1.lt; have hl8' : g8 < w1.heap.size := HS1.out.told.lt; have hlM' : gM < w1.heap.size := HS1.out.made.lt; have q8' : w1.cell? ⟨g8, 1, none⟩ = some (.slice (some ⟨gM, 0, none⟩) n n) := (by rw [cell_of_row w1 _ _ _ _ _ HS1.out.told]; rfl); (obtain ⟨b0, hb0⟩ := HS1.out.made.all (k * 3) (by omega)); (obtain ⟨b1, hb1⟩ := HS1.out.made.all (k * 3 + 1) (by omega)); (obtain ⟨b2, hb2⟩ := HS1.out.made.all (k * 3 + 2) (by omega)); have gz0 := HS1.out.made.frz (o := k * 3); have gz1 := HS1.out.made.frz (o := k * 3 + 1); have gz2 := HS1.out.made.frz (o := k * 3 + 2); have qr' : w1.cell? ⟨w.heap.size + 1 + 1, 0, none⟩ = some (.int .i64 0) := (by rw [cell_of_row w1 _ _ _ _ _ HS1.out.res]; rfl); have qr1' : w1.cell? ⟨w.heap.size + 1 + 1, 1, none⟩ = some (.slice none 0 0) := (by rw [cell_of_row w1 _ _ _ _ _ HS1.out.res]; rfl); have hlr' : w.heap.size + 1 + 1 < w1.heap.size := HS1.out.res.lt; have hlr2 : w.heap.size + 1 < w1.heap.size := (by omega); have qf0' : w1.frozen? ⟨w.heap.size + 1 + 1, 0, none⟩ = false := HS1.out.res.frz; have qf1' : w1.frozen? ⟨w.heap.size + 1 + 1, 1, none⟩ = false := HS1.out.res.frz; clear X1))
                | (go_at_call 30; refine (isSolid_any _ _ _ _).mono ?_; rw [p3]; rintro e w' ⟨rfl, y, rfl⟩)
                | (go_at_fn K; refine (HFr.out _).mono ?_; rintro e w' ⟨rfl, y, rfl⟩)
                | (go_at_call 31; refine (isNumber_any _ _).mono ?_; rw [hnb]; rintro e w' ⟨rfl, rfl⟩)
              go_roundw
              case rel => exact ⟨k + 1, by omega, by go_num, Hn.out, by have hs := HS1.out.put hlt He1.out; first | exact hs.alloc.gx | exact hs.gx | exact hs.alloc.gx.gx | exact hs.alloc.gx.alloc.gx⟩
              case measure => simp [intOf]; omega
            · rw [if_neg hnn] at e2
              have h9 := firstOf_bad hfo.out hlt e2 (by decide)
              have HE := Lib.hid (E9.out h9)
              have hnb : nB (opN op xn vn) = false := nB_no.2 (by unfold isN; exact hnn)
              clear hNo hYes e1 e2 hvb hvv hnn h3 h9
              generalize opN op xn vn = r at *
              go_wp2_with first
                | (go_at_call 29; go_loud (refine (HHid.out _ (smAt_of hM (by have hx := HS.out.grew; exact (by repeat (first | (with_reducible exact Gx.refl _) | (with_reducible assumption) | (with_reducible refine Gx.gx ?_) | (with_reducible refine Gx.alloc ?_) | (with_reducible refine Gx.drew ?_) | (with_reducible refine Gx.drewN ?_) | (with_reducible refine Gx.setRow ?_ (by first | omega | (simp; done) | (simp <;> omega))) | (with_reducible refine Gx.setCell ?_ (by first | omega | (simp; done) | (simp <;> omega)))))))).mono ?_; rintro e w1 ⟨rfl, z, hw1⟩; have hS1 := HS.out.smear (u := .int .i64 xt) (v := .int .i64 0) (x := .int .i64 0); have HS1 : Hid (CmSt w w1 gM g8 n k f #[.int .i64 den, .slice (some ⟨b, o, none⟩) n c] #[.int .i64 den, .slice B m cb] #[.int .i64 den, .slice (some ⟨gM, 0, none⟩) n n]) := (by rw [hw1]; first | exact hS1.alloc.gx | exact hS1.gx); have X1 : At w1 wr.heap.size (.cells #[.int .i64 xt, .int .i64 xn, .int .i64 xm] 44 (0, 0)) := (by rw [hw1]; first | exact At.gx (At.new' (by simp)) | (focus (repeat (first | (with_reducible assumption) | (with_reducible exact At.new _ _) | (with_reducible refine At.row ?_) | ((with_reducible refine At.row_other ?_ ?_); rotate_left; (focus (simp <;> omega))) | (with_reducible refine At.app ?_) | (with_reducible refine At.tick ?_) | (with_reducible refine At.gx ?_) | ((with_reducible refine At.new' ?_); focus (simp; done)) | (with_reducible refine At.alloc ?_) | (with_reducible refine At.drew ?_) | (with_reducible exact Is.new _ _ _) | (with_reducible refine Is.row ?_) | ((with_reducible refine Is.row_other ?_ ?_); rotate_left; (focus (simp <;> omega))) | (with_reducible refine Is.gx ?_) | ((with_reducible refine Is.new' ?_); focus (simp; done)) | (with_reducible refine Is.alloc ?_) | (with_reducible refine Is.drew ?_))))); clear hw1 hS1; have y0 : w1.cell? ⟨wr.heap.size, 0, none⟩ = some (.int .i64 xt) := (by rw [cell_of_row w1 _ _ _ _ _ X1]; rfl); have y1 : w1.cell? ⟨wr.heap.size, 1, none⟩ = some (.int .i64 xn) := (by rw [cell_of_row w1 _ _ _ _ _ X1]; rfl); have y2 : w1.cell? ⟨wr.heap.size, 2, none⟩ = some (.int .i64 xm) := (by rw [cell_of_row w1 _ _ _ _ _ X1]; rfl); have lx : wr.heap.size < w1.heap.size := X1.lt; have hl8' : g8 < w1.heap.size := HS1.out.told.lt; have hlM' : gM < w1.heap.size := HS1.out.made.lt; have q8' : w1.cell? ⟨g8, 1, none⟩ = some (.slice (some ⟨gM, 0, none⟩) n n) := (by rw [cell_of_row w1 _ _ _ _ _ HS1.out.told]; rfl); (obtain ⟨b0, hb0⟩ := HS1.out.made.all (k * 3) (by omega)); (obtain ⟨b1, hb1⟩ := HS1.out.made.all (k * 3 + 1) (by omega)); (obtain ⟨b2, hb2⟩ := HS1.out.made.all (k * 3 + 2) (by omega)); have gz0 := HS1.out.made.frz (o := k * 3); have gz1 := HS1.out.made.frz (o := k * 3 + 1); have gz2 := HS1.out.made.frz (o := k * 3 + 2); have qr' : w1.cell? ⟨w.heap.size + 1 + 1, 0, none⟩ = some (.int .i64 0) := (by rw [cell_of_row w1 _ _ _ _ _ HS1.out.res]; rfl); have qr1' : w1.cell? ⟨w.heap.size + 1 + 1, 1, none⟩ = some (.slice none 0 0) := (by rw [cell_of_row w1 _ _ _ _ _ HS1.out.res]; rfl); have hlr' : w.heap.size + 1 + 1 < w1.heap.size := HS1.out.res.lt; have hlr2 : w.heap.size + 1 < w1.heap.size := (by omega); have qf0' : w1.frozen? ⟨w.heap.size + 1 + 1, 0, none⟩ = false := HS1.out.res.frz; have qf1' : w1.frozen? ⟨w.heap.size + 1 + 1, 1, none⟩ = false := HS1.out.res.frz; clear X1))
                | (go_at_call 30; refine (isSolid_any _ _ _ _).mono ?_; rw [p3]; rintro e w' ⟨rfl, y, rfl⟩)
                | (go_at_fn K; refine (HFr.out _).mono ?_; rintro e w' ⟨rfl, y, rfl⟩)
                | (go_at_call 31; refine (isNumber_any _ _).mono ?_; rw [hnb]; rintro e w' ⟨rfl, rfl⟩)
              obtain ⟨rfl, rfl, rfl⟩ := HE.out
              refine bodyPost_ret (v := .tuple #[serV 0 none 0 0, .int .i64 9]) (by simp [results, Tryd.results10, go_sem, cell_keep_gx (cell_keep_alloc (two_cells qr' qr1').1), cell_keep_gx (cell_keep_alloc (two_cells qr' qr1').2)]) rfl ?_
              exact SerPost.zero (by have hx := HS1.out.grew; exact (by repeat (first | (with_reducible exact Gx.refl _) | (with_reducible assumption) | (with_reducible refine Gx.gx ?_) | (with_reducible refine Gx.alloc ?_) | (with_reducible refine Gx.drew ?_) | (with_reducible refine Gx.drewN ?_) | (with_reducible refine Gx.setRow ?_ (by first | omega | (simp; done) | (simp <;> omega))) | (with_reducible refine Gx.setCell ?_ (by first | omega | (simp; done) | (simp <;> omega))))))
          · have p3 : decide (3 ≤ xm) = false := decide_eq_false h3
            obtain ⟨e1, e2⟩ := hNo (fun e => h3 e.1)
            have He1 := Lib.hid e1
            have Hn := Lib.hid ((firstOf_succ hfo.out).trans e2)
            clear hNo hYes e1 e2 hvb h3
            go_wp2_with first
              | (go_at_call 29; refine (HHid.out _ (smAt_of hM (by have hx := HS.out.grew; exact (by repeat (first | (with_reducible exact Gx.refl _) | (with_reducible assumption) | (with_reducible refine Gx.gx ?_) | (with_reducible refine Gx.alloc ?_) | (with_reducible refine Gx.drew ?_) | (with_reducible refine Gx.drewN ?_) | (with_reducible refine Gx.setRow ?_ (by first | omega | (simp; done) | (simp <;> omega))) | (with_reducible refine Gx.setCell ?_ (by first | omega | (simp; done) | (simp <;> omega)))))))).mono ?_; rintro e w' ⟨rfl, z, rfl⟩)
              | (go_at_call 30; refine (isSolid_any _ _ _ _).mono ?_; rw [p3]; rintro e w' ⟨rfl, y, rfl⟩)
            go_roundw
            case rel => exact ⟨k + 1, by omega, by go_num, Hn.out, by have hs := HS.out.put hlt He1.out; first | exact hs.alloc.gx.alloc.gx | exact hs.gx.alloc.gx | exact hs.alloc.gx⟩
            case measure => simp [intOf]; omega
      · obtain rfl : k = n := by omega
        obtain ⟨rfl, rfl, rfl⟩ := E0.out hfo.out
        have HS := Lib.hid hst
        have hne : gM ≠ w.heap.size + 1 + 1 := by have := hst.far.1; omega
        clear hst
        go_wp2
        refine bodyPost_ret (v := .tuple #[serV D (some ⟨gM, 0, none⟩) N N, .int .i64 0]) (by simp [results, Tryd.results10, go_sem, qr, qr1]) rfl ?_
        exact SerPost.mk (Gx.setCell (Gx.setCell HS.out.grew (by omega)) (by omega)) ((HS.out.made.far (Ne.symm hne)).far (Ne.symm hne)).sm
  · rename_i K' hK
    refine hK _ _ ?_
    go_wp2
    obtain ⟨gM, hgM⟩ : ∃ gM, gM = w.heap.size + 1 + 1 + 1 + ((z1.app z2).tick 1).n + 1 := ⟨_, rfl⟩
    obtain ⟨g8, hg8⟩ : ∃ g8, g8 = w.heap.size + 1 + 1 + 1 + ((z1.app z2).tick 1).n := ⟨_, rfl⟩
    rw [← hgM, ← hg8]
    have HgM := Lib.hid hgM
    have Hg8 := Lib.hid hg8
    clear hgM hg8
    go_loopw [48] (fun i wr => ∃ k : Nat, k ≤ n ∧ i = .int .i64 k ∧ Hid (firstOf (cbN op g h m lg) k = 0) ∧ CmSt w wr gM g8 n k f #[.int .i64 den, .slice A n c] #[.int .i64 den, .slice B m cb] #[.int .i64 den, .slice (some ⟨gM, 0, none⟩) n n]) (fun i _ => n - (intOf i).toNat)
    case atStart =>
      have e1 := HgM.out
      have e2 := Hg8.out
      refine ⟨0, Nat.zero_le _, rfl, rfl, ⟨(by repeat (first | (with_reducible exact Gx.refl _) | (with_reducible assumption) | (with_reducible refine Gx.gx ?_) | (with_reducible refine Gx.alloc ?_) | (with_reducible refine Gx.drew ?_) | (with_reducible refine Gx.drewN ?_) | (with_reducible refine Gx.setRow ?_ (by first | omega | (simp; done) | (simp <;> omega))) | (with_reducible refine Gx.setCell ?_ (by first | omega | (simp; done) | (simp <;> omega))))), MadeAt.new (C := C) ?_ hC, ?_, ?_, ?_, ?_, by omega⟩⟩
      all_goals first | (refine At.new' ?_; simp; omega) | (refine At.alloc (At.new' ?_); simp; omega) | ((focus (repeat (first | (with_reducible assumption) | (with_reducible exact At.new _ _) | (with_reducible refine At.row ?_) | ((with_reducible refine At.row_other ?_ ?_); rotate_left; (focus (simp <;> omega))) | (with_reducible refine At.app ?_) | (with_reducible refine At.tick ?_) | (with_reducible refine At.gx ?_) | ((with_reducible refine At.new' ?_); focus (simp; done)) | (with_reducible refine At.alloc ?_) | (with_reducible refine At.drew ?_) | (with_reducible exact Is.new _ _ _) | (with_reducible refine Is.row ?_) | ((with_reducible refine Is.row_other ?_ ?_); rotate_left; (focus (simp <;> omega))) | (with_reducible refine Is.gx ?_) | ((with_reducible refine Is.new' ?_); focus (simp; done)) | (with_reducible refine Is.alloc ?_) | (with_reducible refine Is.drew ?_)))); done)
    case round =>
      obtain ⟨k, hk, rfl, hfo, hst⟩ := hrel
      have q8 : wr.cell? ⟨g8, 1, none⟩ = some (.slice (some ⟨gM, 0, none⟩) n n) := by rw [cell_of_row wr _ _ _ _ _ hst.told]; rfl
      have q80 : wr.cell? ⟨g8, 0, none⟩ = some (.int .i64 den) := by rw [cell_of_row wr _ _ _ _ _ hst.told]; rfl
      have hl8 : g8 < wr.heap.size := hst.told.lt
      have hlM : gM < wr.heap.size := hst.made.lt
      have qr : wr.cell? ⟨w.heap.size + 1 + 1, 0, none⟩ = some (.int .i64 0) := by rw [cell_of_row wr _ _ _ _ _ hst.res]; rfl
      have qr1 : wr.cell? ⟨w.heap.size + 1 + 1, 1, none⟩ = some (.slice none 0 0) := by rw [cell_of_row wr _ _ _ _ _ hst.res]; rfl
      have hlr : w.heap.size + 1 + 1 < wr.heap.size := hst.res.lt
      have qf0 : wr.frozen? ⟨w.heap.size + 1 + 1, 0, none⟩ = false := hst.res.frz
      have qf1 : wr.frozen? ⟨w.heap.size + 1 + 1, 1, none⟩ = false := hst.res.frz
      have hfar := hst.far
      have ne1 : ¬ gM = w.heap.size + 1 := by omega
      have ne2 : ¬ w.heap.size + 1 = gM := by omega
      have ne3 : ¬ gM = w.heap.size := by omega
      have ne4 : ¬ w.heap.size = gM := by omega
      have ne5 : ¬ gM = g8 := hfar.2.2
      have ne6 : ¬ g8 = gM := fun e => hfar.2.2 e.symm
      have hgm : w.heap.size ≤ gM := by omega
      by_cases hlt : k < n
      · have hkz : (k : Int) < (n : Int) := by omega
        have s1 : wr.cell? ⟨w.heap.size + 1, 1, none⟩ = some (.slice B m cb) := by rw [cell_of_row wr _ _ _ _ _ hst.sb]; rfl
        have hl1 : w.heap.size + 1 < wr.heap.size := hst.sb.lt
        obtain ⟨x, hx⟩ := hst.grew
        have hMr : SmAt wr h m B := by rw [hx]; exact hM.gx
        have hLr : SmAt wr g n A := by rw [hx]; exact hL.gx
        obtain ⟨b, o, rfl, hbw, HCs⟩ := hLr.get (by omega)
        obtain ⟨d1, d2, d3⟩ := HCs.out k hlt
        have hok := hG.ok k hlt
        unfold smOk at hok
        obtain ⟨o1, o2, o3, o4, o5, o6⟩ := hok
        have HHo := fun W (hW : SmAt W h m B) => hold_any h m cb B (g k).t lg W hW hm hH o1 o2 l1 l2
        obtain ⟨a0, ha0⟩ := hst.made.all (k * 3) (by omega)
        obtain ⟨a1, ha1⟩ := hst.made.all (k * 3 + 1) (by omega)
        obtain ⟨a2, ha2⟩ := hst.made.all (k * 3 + 2) (by omega)
        have fz0 := hst.made.frz (o := k * 3)
        have fz1 := hst.made.frz (o := k * 3 + 1)
        have fz2 := hst.made.frz (o := k * 3 + 2)
        have HS := Lib.hid hst
        have hfk := hf.out k
        have hvb : heldB h (aheadN h ((g k).t + 1) m) (g k).t lg = true → -1125899906842624 ≤ (heldV h (aheadN h ((g k).t + 1) m) (g k).t lg).n ∧ (heldV h (aheadN h ((g k).t + 1) m) (g k).t lg).n ≤ 1125899906842624 := fun e => by
          rw [heldV_yes e]
          have hi := heldB_iff.1 e
          have := hH.ok (aheadN h ((g k).t + 1) m - 1) (by have := aheadN_le h ((g k).t + 1) m; omega)
          unfold smOk at this
          omega
        have hNo : ¬ (3 ≤ (g k).m ∧ heldB h (aheadN h ((g k).t + 1) m) (g k).t lg = true) → f k = ⟨(g k).t, 0, 0⟩ ∧ cbN op g h m lg k = 0 := fun e => by
          have := cbS_no (op := op) e
          refine ⟨by rw [hfk, this], ?_⟩
          unfold cbN
          rw [this, if_pos (by simp)]
        have hYes : 3 ≤ (g k).m → heldB h (aheadN h ((g k).t + 1) m) (g k).t lg = true → f k = ⟨(g k).t, opN op (g k).n (heldV h (aheadN h ((g k).t + 1) m) (g k).t lg).n, min (g k).m (heldV h (aheadN h ((g k).t + 1) m) (g k).t lg).m⟩ ∧ cbN op g h m lg k = if -1125899906842624 ≤ opN op (g k).n (heldV h (aheadN h ((g k).t + 1) m) (g k).t lg).n ∧ opN op (g k).n (heldV h (aheadN h ((g k).t + 1) m) (g k).t lg).n ≤ 1125899906842624 then 0 else 9 := fun e1 e2 => by
          have := cbS_yes (op := op) e1 e2
          refine ⟨by rw [hfk, this], ?_⟩
          unfold cbN
          rw [this]
        clear hst hx hfk HCs
        generalize heldV h (aheadN h ((g k).t + 1) m) (g k).t lg = V at *
        generalize heldB h (aheadN h ((g k).t + 1) m) (g k).t lg = bb at *
        obtain ⟨vt, vn, vm⟩ := V
        simp only at HHo hYes hvb
        generalize hgk : g k = X at *
        obtain ⟨xt, xn, xm⟩ := X
        simp only at d1 d2 d3 o1 o2 o3 o4 o5 o6 HHo hNo hYes
        have HHid := Lib.hid HHo
        clear HHo hgk
        cases bb
        · obtain ⟨e1, e2⟩ := hNo (fun e => by cases e.2)
          have He1 := Lib.hid e1
          have Hn := Lib.hid ((firstOf_succ hfo.out).trans e2)
          clear hNo hYes e1 e2 hvb
          go_wp2_with (go_at_call 29; refine (HHid.out _ (smAt_of hM (by have hx := HS.out.grew; exact (by repeat (first | (with_reducible exact Gx.refl _) | (with_reducible assumption) | (with_reducible refine Gx.gx ?_) | (with_reducible refine Gx.alloc ?_) | (with_reducible refine Gx.drew ?_) | (with_reducible refine Gx.drewN ?_) | (with_reducible refine Gx.setRow ?_ (by first | omega | (simp; done) | (simp <;> omega))) | (with_reducible refine Gx.setCell ?_ (by first | omega | (simp; done) | (simp <;> omega)))))))).mono ?_; rintro e w' ⟨rfl, z, rfl⟩)
          go_roundw
          case rel => exact ⟨k + 1, by omega, by go_num, Hn.out, by have hs := HS.out.put hlt He1.out; first | exact hs.alloc.gx.alloc | exact hs.gx.alloc⟩
          case measure => simp [intOf]; omega
        · by_cases h3 : 3 ≤ xm
          · have p3 : decide (3 ≤ xm) = true := decide_eq_true h3
            obtain ⟨e1, e2⟩ := hYes h3 rfl
            have hvv := hvb rfl
            have HFr := Lib.hid (fun W => HF.out xn vn W ⟨o3, o4⟩ hvv)
            by_cases hnn : -1125899906842624 ≤ opN op xn vn ∧ opN op xn vn ≤ 1125899906842624
            · rw [if_pos hnn] at e2
              have He1 := Lib.hid e1
              have Hn := Lib.hid ((firstOf_succ hfo.out).trans e2)
              have hnb : nB (opN op xn vn) = true := nB_iff.2 (by unfold isN; exact hnn)
              clear hNo hYes e1 e2 hvb hvv hnn h3
              generalize opN op xn vn = r at *
              go_wp2_with first
                | (go_at_call 29; go_loud (refine (HHid.out _ (smAt_of hM (by have hx := HS.out.grew; exact (by repeat (first | (with_reducible exact Gx.refl _) | (with_reducible assumption) | (with_reducible refine Gx.gx ?_) | (with_reducible refine Gx.alloc ?_) | (with_reducible refine Gx.drew ?_) | (with_reducible refine Gx.drewN ?_) | (with_reducible refine Gx.setRow ?_ (by first | omega | (simp; done) | (simp <;> omega))) | (with_reducible refine Gx.setCell ?_ (by first | omega | (simp; done) | (simp <;> omega)))))))).mono ?_; rintro e w1 ⟨rfl, z, hw1⟩; have hS1 := HS.out.smear (u := .int .i64 xt) (v := .int .i64 0) (x := .int .i64 0); have HS1 : Hid (CmSt w w1 gM g8 n k f #[.int .i64 den, .slice (some ⟨b, o, none⟩) n c] #[.int .i64 den, .slice B m cb] #[.int .i64 den, .slice (some ⟨gM, 0, none⟩) n n]) := (by rw [hw1]; first | exact hS1.alloc.gx | exact hS1.gx); have X1 : At w1 wr.heap.size (.cells #[.int .i64 xt, .int .i64 xn, .int .i64 xm] 44 (0, 0)) := (by rw [hw1]; first | exact At.gx (At.new' (by simp)) | (focus (repeat (first | (with_reducible assumption) | (with_reducible exact At.new _ _) | (with_reducible refine At.row ?_) | ((with_reducible refine At.row_other ?_ ?_); rotate_left; (focus (simp <;> omega))) | (with_reducible refine At.app ?_) | (with_reducible refine At.tick ?_) | (with_reducible refine At.gx ?_) | ((with_reducible refine At.new' ?_); focus (simp; done)) | (with_reducible refine At.alloc ?_) | (with_reducible refine At.drew ?_) | (with_reducible exact Is.new _ _ _) | (with_reducible refine Is.row ?_) | ((with_reducible refine Is.row_other ?_ ?_); rotate_left; (focus (simp <;> omega))) | (with_reducible refine Is.gx ?_) | ((with_reducible refine Is.new' ?_); focus (simp; done)) | (with_reducible refine Is.alloc ?_) | (with_reducible refine Is.drew ?_))))); clear hw1 hS1; have y0 : w1.cell? ⟨wr.heap.size, 0, none⟩ = some (.int .i64 xt) := (by rw [cell_of_row w1 _ _ _ _ _ X1]; rfl); have y1 : w1.cell? ⟨wr.heap.size, 1, none⟩ = some (.int .i64 xn) := (by rw [cell_of_row w1 _ _ _ _ _ X1]; rfl); have y2 : w1.cell? ⟨wr.heap.size, 2, none⟩ = some (.int .i64 xm) := (by rw [cell_of_row w1 _ _ _ _ _ X1]; rfl); have lx : wr.heap.size < w1.heap.size := X1.lt; have hl8' : g8 < w1.heap.size := HS1.out.told.lt; have hlM' : gM < w1.heap.size := HS1.out.made.lt; have q8' : w1.cell? ⟨g8, 1, none⟩ = some (.slice (some ⟨gM, 0, none⟩) n n) := (by rw [cell_of_row w1 _ _ _ _ _ HS1.out.told]; rfl); (obtain ⟨b0, hb0⟩ := HS1.out.made.all (k * 3) (by omega)); (obtain ⟨b1, hb1⟩ := HS1.out.made.all (k * 3 + 1) (by omega)); (obtain ⟨b2, hb2⟩ := HS1.out.made.all (k * 3 + 2) (by omega)); have gz0 := HS1.out.made.frz (o := k * 3); have gz1 := HS1.out.made.frz (o := k * 3 + 1); have gz2 := HS1.out.made.frz (o := k * 3 + 2); have qr' : w1.cell? ⟨w.heap.size + 1 + 1, 0, none⟩ = some (.int .i64 0) := (by rw [cell_of_row w1 _ _ _ _ _ HS1.out.res]; rfl); have qr1' : w1.cell? ⟨w.heap.size + 1 + 1, 1, none⟩ = some (.slice none 0 0) := (by rw [cell_of_row w1 _ _ _ _ _ HS1.out.res]; rfl); have hlr' : w.heap.size + 1 + 1 < w1.heap.size := HS1.out.res.lt; have hlr2 : w.heap.size + 1 < w1.heap.size := (by omega); have qf0' : w1.frozen? ⟨w.heap.size + 1 + 1, 0, none⟩ = false := HS1.out.res.frz; have qf1' : w1.frozen? ⟨w.heap.size + 1 + 1, 1, none⟩ = false := HS1.out.res.frz; clear X1))
                | (go_at_call 30; refine (isSolid_any _ _ _ _).mono ?_; rw [p3]; rintro e w' ⟨rfl, y, rfl⟩)
                | (go_at_fn K; refine (HFr.out _).mono ?_; rintro e w' ⟨rfl, y, rfl⟩)
                | (go_at_call 31; refine (isNumber_any _ _).mono ?_; rw [hnb]; rintro e w' ⟨rfl, rfl⟩)
              go_roundw
              case rel => exact ⟨k + 1, by omega, by go_num, Hn.out, by have hs := HS1.out.put hlt He1.out; first | exact hs.alloc.gx | exact hs.gx | exact hs.alloc.gx.gx | exact hs.alloc.gx.alloc.gx⟩
              case measure => simp [intOf]; omega
            · rw [if_neg hnn] at e2
              have h9 := firstOf_bad hfo.out hlt e2 (by decide)
              have HE := Lib.hid (E9.out h9)
              have hnb : nB (opN op xn vn) = false := nB_no.2 (by unfold isN; exact hnn)
              clear hNo hYes e1 e2 hvb hvv hnn h3 h9
              generalize opN op xn vn = r at *
              go_wp2_with first
                | (go_at_call 29; go_loud (refine (HHid.out _ (smAt_of hM (by have hx := HS.out.grew; exact (by repeat (first | (with_reducible exact Gx.refl _) | (with_reducible assumption) | (with_reducible refine Gx.gx ?_) | (with_reducible refine Gx.alloc ?_) | (with_reducible refine Gx.drew ?_) | (with_reducible refine Gx.drewN ?_) | (with_reducible refine Gx.setRow ?_ (by first | omega | (simp; done) | (simp <;> omega))) | (with_reducible refine Gx.setCell ?_ (by first | omega | (simp; done) | (simp <;> omega)))))))).mono ?_; rintro e w1 ⟨rfl, z, hw1⟩; have hS1 := HS.out.smear (u := .int .i64 xt) (v := .int .i64 0) (x := .int .i64 0); have HS1 : Hid (CmSt w w1 gM g8 n k f #[.int .i64 den, .slice (some ⟨b, o, none⟩) n c] #[.int .i64 den, .slice B m cb] #[.int .i64 den, .slice (some ⟨gM, 0, none⟩) n n]) := (by rw [hw1]; first | exact hS1.alloc.gx | exact hS1.gx); have X1 : At w1 wr.heap.size (.cells #[.int .i64 xt, .int .i64 xn, .int .i64 xm] 44 (0, 0)) := (by rw [hw1]; first | exact At.gx (At.new' (by simp)) | (focus (repeat (first | (with_reducible assumption) | (with_reducible exact At.new _ _) | (with_reducible refine At.row ?_) | ((with_reducible refine At.row_other ?_ ?_); rotate_left; (focus (simp <;> omega))) | (with_reducible refine At.app ?_) | (with_reducible refine At.tick ?_) | (with_reducible refine At.gx ?_) | ((with_reducible refine At.new' ?_); focus (simp; done)) | (with_reducible refine At.alloc ?_) | (with_reducible refine At.drew ?_) | (with_reducible exact Is.new _ _ _) | (with_reducible refine Is.row ?_) | ((with_reducible refine Is.row_other ?_ ?_); rotate_left; (focus (simp <;> omega))) | (with_reducible refine Is.gx ?_) | ((with_reducible refine Is.new' ?_); focus (simp; done)) | (with_reducible refine Is.alloc ?_) | (with_reducible refine Is.drew ?_))))); clear hw1 hS1; have y0 : w1.cell? ⟨wr.heap.size, 0, none⟩ = some (.int .i64 xt) := (by rw [cell_of_row w1 _ _ _ _ _ X1]; rfl); have y1 : w1.cell? ⟨wr.heap.size, 1, none⟩ = some (.int .i64 xn) := (by rw [cell_of_row w1 _ _ _ _ _ X1]; rfl); have y2 : w1.cell? ⟨wr.heap.size, 2, none⟩ = some (.int .i64 xm) := (by rw [cell_of_row w1 _ _ _ _ _ X1]; rfl); have lx : wr.heap.size < w1.heap.size := X1.lt; have hl8' : g8 < w1.heap.size := HS1.out.told.lt; have hlM' : gM < w1.heap.size := HS1.out.made.lt; have q8' : w1.cell? ⟨g8, 1, none⟩ = some (.slice (some ⟨gM, 0, none⟩) n n) := (by rw [cell_of_row w1 _ _ _ _ _ HS1.out.told]; rfl); (obtain ⟨b0, hb0⟩ := HS1.out.made.all (k * 3) (by omega)); (obtain ⟨b1, hb1⟩ := HS1.out.made.all (k * 3 + 1) (by omega)); (obtain ⟨b2, hb2⟩ := HS1.out.made.all (k * 3 + 2) (by omega)); have gz0 := HS1.out.made.frz (o := k * 3); have gz1 := HS1.out.made.frz (o := k * 3 + 1); have gz2 := HS1.out.made.frz (o := k * 3 + 2); have qr' : w1.cell? ⟨w.heap.size + 1 + 1, 0, none⟩ = some (.int .i64 0) := (by rw [cell_of_row w1 _ _ _ _ _ HS1.out.res]; rfl); have qr1' : w1.cell? ⟨w.heap.size + 1 + 1, 1, none⟩ = some (.slice none 0 0) := (by rw [cell_of_row w1 _ _ _ _ _ HS1.out.res]; rfl); have hlr' : w.heap.size + 1 + 1 < w1.heap.size := HS1.out.res.lt; have hlr2 : w.heap.size + 1 < w1.heap.size := (by omega); have qf0' : w1.frozen? ⟨w.heap.size + 1 + 1, 0, none⟩ = false := HS1.out.res.frz; have qf1' : w1.frozen? ⟨w.heap.size + 1 + 1, 1, none⟩ = false := HS1.out.res.frz; clear X1))
                | (go_at_call 30; refine (isSolid_any _ _ _ _).mono ?_; rw [p3]; rintro e w' ⟨rfl, y, rfl⟩)
                | (go_at_fn K; refine (HFr.out _).mono ?_; rintro e w' ⟨rfl, y, rfl⟩)
                | (go_at_call 31; refine (isNumber_any _ _).mono ?_; rw [hnb]; rintro e w' ⟨rfl, rfl⟩)
              obtain ⟨rfl, rfl, rfl⟩ := HE.out
              refine bodyPost_ret (v := .tuple #[serV 0 none 0 0, .int .i64 9]) (by simp [results, Tryd.results10, go_sem, cell_keep_gx (cell_keep_alloc (two_cells qr' qr1').1), cell_keep_gx (cell_keep_alloc (two_cells qr' qr1').2)]) rfl ?_
              exact SerPost.zero (by have hx := HS1.out.grew; exact (by repeat (first | (with_reducible exact Gx.refl _) | (with_reducible assumption) | (with_reducible refine Gx.gx ?_) | (with_reducible refine Gx.alloc ?_) | (with_reducible refine Gx.drew ?_) | (with_reducible refine Gx.drewN ?_) | (with_reducible refine Gx.setRow ?_ (by first | omega | (simp; done) | (simp <;> omega))) | (with_reducible refine Gx.setCell ?_ (by first | omega | (simp; done) | (simp <;> omega))))))
          · have p3 : decide (3 ≤ xm) = false := decide_eq_false h3
            obtain ⟨e1, e2⟩ := hNo (fun e => h3 e.1)
            have He1 := Lib.hid e1
            have Hn := Lib.hid ((firstOf_succ hfo.out).trans e2)
            clear hNo hYes e1 e2 hvb h3
            go_wp2_with first
              | (go_at_call 29; refine (HHid.out _ (smAt_of hM (by have hx := HS.out.grew; exact (by repeat (first | (with_reducible exact Gx.refl _) | (with_reducible assumption) | (with_reducible refine Gx.gx ?_) | (with_reducible refine Gx.alloc ?_) | (with_reducible refine Gx.drew ?_) | (with_reducible refine Gx.drewN ?_) | (with_reducible refine Gx.setRow ?_ (by first | omega | (simp; done) | (simp <;> omega))) | (with_reducible refine Gx.setCell ?_ (by first | omega | (simp; done) | (simp <;> omega)))))))).mono ?_; rintro e w' ⟨rfl, z, rfl⟩)
              | (go_at_call 30; refine (isSolid_any _ _ _ _).mono ?_; rw [p3]; rintro e w' ⟨rfl, y, rfl⟩)
            go_roundw
            case rel => exact ⟨k + 1, by omega, by go_num, Hn.out, by have hs := HS.out.put hlt He1.out; first | exact hs.alloc.gx.alloc.gx | exact hs.gx.alloc.gx | exact hs.alloc.gx⟩
            case measure => simp [intOf]; omega
      · obtain rfl : k = n := by omega
        obtain ⟨rfl, rfl, rfl⟩ := E0.out hfo.out
        have HS := Lib.hid hst
        have hne : gM ≠ w.heap.size + 1 + 1 := by have := hst.far.1; omega
        clear hst
        go_wp2
        refine bodyPost_ret (v := .tuple #[serV D (some ⟨gM, 0, none⟩) N N, .int .i64 0]) (by simp [results, Tryd.results10, go_sem, qr, qr1]) rfl ?_
        exact SerPost.mk (Gx.setCell (Gx.setCell HS.out.grew (by omega)) (by omega)) ((HS.out.made.far (Ne.symm hne)).far (Ne.symm hne)).sm
end Go.Proofs.YtikgfidpdghkpaaDoor
