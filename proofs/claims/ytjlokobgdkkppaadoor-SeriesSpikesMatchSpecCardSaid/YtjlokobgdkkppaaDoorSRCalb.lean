/-
  Calibrate, the reference's: contracts.
-/
import Derived.Test.YtjlokobgdkkppaaDoorSCalb2
import Derived.Test.YtjlokobgdkkppaaDoorSRSer
namespace Go.Proofs.YtjlokobgdkkppaaDoor
open Go.RowKit
-- AT2
-- AT3

/-- What Meant has at hand in its loop. -/
structure MtSt (w wr : World) (k : Nat) (f : Nat → Sm) (cden : Int) (A : Option Addr) (c : Nat) (sB cB rB : Array Value) : Prop where
  grew : ∃ x, wr = gx w x
  ser : At wr w.heap.size (.cells sB 24 (0, 0))
  cal : At wr (w.heap.size + 1) (.cells cB 39 (0, 0))
  res : At wr (w.heap.size + 1 + 1) (.cells rB 24 (0, 0))
  out : At wr (w.heap.size + 1 + 1 + 1) (.cells #[.int .i64 cden, .slice A k c] 24 (0, 0))
  own : Own (w.heap.size + 1 + 1 + 1 + 1) wr 61 3 (.slice A k c) k (smC f k)
theorem At.setc2 {W : World} {K : Nat} {a b u : Value} {t : TypeId} (h : At W K (.cells #[a, b] t (0, 0))) : At (W.setCell ⟨K, 1, none⟩ u) K (.cells #[a, u] t (0, 0)) := by
  unfold At at *
  simp [World.setCell, Array.getElem?_modify, h]
theorem MtSt.gx {w wr : World} {k : Nat} {f : Nat → Sm} {cden : Int} {A : Option Addr} {c : Nat} {sB cB rB : Array Value} {x : Ext} (h : MtSt w wr k f cden A c sB cB rB) : MtSt w (gx wr x) k f cden A c sB cB rB :=
  ⟨Gx.gx h.grew, h.ser.gx, h.cal.gx, h.res.gx, h.out.gx, h.own.gx⟩
theorem MtSt.alloc {w wr : World} {k : Nat} {f : Nat → Sm} {cden : Int} {A : Option Addr} {c : Nat} {sB cB rB : Array Value} {o : Obj} (h : MtSt w wr k f cden A c sB cB rB) : MtSt w (wr.alloc o) k f cden A c sB cB rB := by rw [alloc_is]; exact h.gx
/-- A sample was appended, and the slice stored. -/
theorem MtSt.step {w W W2 : World} {k : Nat} {f : Nat → Sm} {cden : Int} {A A2 : Option Addr} {c c2 : Nat} {sB cB rB : Array Value} (h : MtSt w W k f cden A c sB cB rB) (hW : ∃ x, W2 = Go.Proofs.YtjlokobgdkkppaaDoor.gx w x) (hg : W.grownBy W2 (Value.slice A k c).ownBlock)
    (hO : Own (w.heap.size + 1 + 1 + 1 + 1) W2 61 3 (.slice A2 (k + 1) c2) (k + 1) (smC f k ++ [.int .i64 (f k).t, .int .i64 (f k).n, .int .i64 (f k).m])) : MtSt w (W2.setCell ⟨w.heap.size + 1 + 1 + 1, 1, none⟩ (.slice A2 (k + 1) c2)) (k + 1) f cden A2 c2 sB cB rB := by
  have n0 := own_ne_at h.own h.ser (by decide)
  have n1 := own_ne_at h.own h.cal (by decide)
  have n2 := own_ne_at h.own h.res (by decide)
  have n3 := own_ne_at h.own h.out (by decide)
  have a3 := h.out.grown hg n3
  refine ⟨Gx.setCell hW (by omega), (h.ser.grown hg n0).setc_other (by omega), (h.cal.grown hg n1).setc_other (by omega), (h.res.grown hg n2).setc_other (by omega), a3.setc2, ?_⟩
  rw [smC_succ]
  exact hO.setc (own_ne_at hO a3 (by decide))
theorem Meant_end {w wr : World} {k : Nat} {f : Nat → Sm} {cden : Int} {A1 : Option Addr} {c1 : Nat} {sB cB rB : Array Value} {u v : Value} (h : MtSt w wr k f cden A1 c1 sB cB rB) :
    ∃ A' c' x, Ending.returned (serV cden A1 k c1) = .returned (serV cden A' k c') ∧ (wr.setCell ⟨w.heap.size + 1 + 1, 0, none⟩ u).setCell ⟨w.heap.size + 1 + 1, 1, none⟩ v = gx w x ∧ SmAt ((wr.setCell ⟨w.heap.size + 1 + 1, 0, none⟩ u).setCell ⟨w.heap.size + 1 + 1, 1, none⟩ v) f k A' := by
  have n2 := own_ne_at h.own h.res (by decide)
  obtain ⟨x, hx⟩ := Gx.setCell (g := w.heap.size + 1 + 1) (o := 1) (s := none) (v := v) (Gx.setCell (g := w.heap.size + 1 + 1) (o := 0) (s := none) (v := u) h.grew (by omega)) (by omega)
  exact ⟨A1, c1, x, rfl, hx, ((h.own.setc n2).setc n2).sm⟩
set_option maxHeartbeats 4000000 in
set_option maxRecDepth 100000 in
theorem Meant_any (den : Int) (g : Nat → Sm) (n c : Nat) (A : Option Addr) (cden : Int) (L : Nat → Ln) (nl cl : Nat) (B : Option Addr) (lo hi : Int) (w : World) (hL : SmAt w g n A) (hB : LnAt w L nl B)
    (hn : n ≤ 20000) (g1 : 0 < nl) (g2 : nl ≤ 50) (g3 : Good L nl) (f : Nat → Sm) (hf : ∀ i, CalIs L nl lo hi (g i) (f i)) :
    Calls Tryd.prog 50 #[serV den A n c, calV cden B nl cl lo hi] w fun e w' => ∃ A' c' x, e = .returned (serV cden A' n c') ∧ w' = gx w x ∧ SmAt w' f n A' := by
  go_enter Tryd.func50, Tryd.ntmps50
  go_wp2
  go_loopw [6] (fun i wr => ∃ (k : Nat) (A1 : Option Addr) (c1 : Nat), k ≤ n ∧ i = .int .i64 k ∧ MtSt w wr k f cden A1 c1 #[.int .i64 den, .slice A n c] #[.int .i64 cden, .slice B nl cl, .int .i64 lo, .int .i64 hi] #[.int .i64 0, .slice none 0 0]) (fun i _ => n - (intOf i).toNat)
  case atStart =>
    refine ⟨0, none, 0, Nat.zero_le _, rfl, ⟨(by repeat (first | (with_reducible exact Gx.refl _) | (with_reducible assumption) | (with_reducible refine Gx.gx ?_) | (with_reducible refine Gx.alloc ?_) | (with_reducible refine Gx.drew ?_) | (with_reducible refine Gx.drewN ?_) | (with_reducible refine Gx.setRow ?_ (by first | omega | (simp; done) | (simp <;> omega))) | (with_reducible refine Gx.setCell ?_ (by first | omega | (simp; done) | (simp <;> omega))))), ?_, ?_, ?_, ?_, Own.nil _ _ _ _⟩⟩
    all_goals ((focus (repeat (first | (with_reducible assumption) | (with_reducible exact At.new _ _) | (with_reducible refine At.row ?_) | ((with_reducible refine At.row_other ?_ ?_); rotate_left; (focus (simp <;> omega))) | (with_reducible refine At.app ?_) | (with_reducible refine At.tick ?_) | (with_reducible refine At.gx ?_) | ((with_reducible refine At.new' ?_); focus (simp; done)) | (with_reducible refine At.alloc ?_) | (with_reducible refine At.drew ?_) | (with_reducible exact Is.new _ _ _) | (with_reducible refine Is.row ?_) | ((with_reducible refine Is.row_other ?_ ?_); rotate_left; (focus (simp <;> omega))) | (with_reducible refine Is.gx ?_) | ((with_reducible refine Is.new' ?_); focus (simp; done)) | (with_reducible refine Is.alloc ?_) | (with_reducible refine Is.drew ?_)))); done)
  case round =>
    obtain ⟨k, A1, c1, hk, rfl, hst⟩ := hrel
    have q1 : wr.cell? ⟨w.heap.size, 1, none⟩ = some (.slice A n c) := by rw [cell_of_row wr _ _ _ _ _ hst.ser]; rfl
    have l0 : w.heap.size < wr.heap.size := hst.ser.lt
    have l1 : w.heap.size + 1 < wr.heap.size := hst.cal.lt
    have l2 : w.heap.size + 1 + 1 < wr.heap.size := hst.res.lt
    have l3 : w.heap.size + 1 + 1 + 1 < wr.heap.size := hst.out.lt
    have o0 : wr.cell? ⟨w.heap.size + 1 + 1 + 1, 0, none⟩ = some (.int .i64 cden) := by rw [cell_of_row wr _ _ _ _ _ hst.out]; rfl
    have o1 : wr.cell? ⟨w.heap.size + 1 + 1 + 1, 1, none⟩ = some (.slice A1 k c1) := by rw [cell_of_row wr _ _ _ _ _ hst.out]; rfl
    have of1 : wr.frozen? ⟨w.heap.size + 1 + 1 + 1, 1, none⟩ = false := hst.out.frz
    by_cases hlt : k < n
    · obtain ⟨b, o, rfl, hbw, HCs⟩ := hL.get (by omega)
      obtain ⟨s1, s2, s3⟩ := HCs.out k hlt
      obtain ⟨x, hx⟩ := hst.grew
      have d1 : wr.cell? ⟨b, o + k * 3, none⟩ = some (.int .i64 (g k).t) := by rw [hx]; exact cell_keep_gx s1
      have d2 : wr.cell? ⟨b, o + k * 3 + 1, none⟩ = some (.int .i64 (g k).n) := by rw [hx]; exact cell_keep_gx s2
      have d3 : wr.cell? ⟨b, o + k * 3 + 2, none⟩ = some (.int .i64 (g k).m) := by rw [hx]; exact cell_keep_gx s3
      have hb0 : b < wr.heap.size := World.block_lt_of_cell? wr _ d1
      have hBr : LnAt wr L nl B := by rw [hx]; exact hB.gx
      have t0 : wr.cell? ⟨w.heap.size + 1, 0, none⟩ = some (.int .i64 cden) := by rw [cell_of_row wr _ _ _ _ _ hst.cal]; rfl
      have t1 : wr.cell? ⟨w.heap.size + 1, 1, none⟩ = some (.slice B nl cl) := by rw [cell_of_row wr _ _ _ _ _ hst.cal]; rfl
      have t2 : wr.cell? ⟨w.heap.size + 1, 2, none⟩ = some (.int .i64 lo) := by rw [cell_of_row wr _ _ _ _ _ hst.cal]; rfl
      have t3 : wr.cell? ⟨w.heap.size + 1, 3, none⟩ = some (.int .i64 hi) := by rw [cell_of_row wr _ _ _ _ _ hst.cal]; rfl
      have HS := Lib.hid hst
      have hcal := hf k
      clear hst hx s1 s2 s3
      generalize hxk : g k = X at *
      obtain ⟨xt, xn, xm⟩ := X
      rcases hcal with ⟨h2, hfk⟩ | ⟨h2, m, is, ha, hfk⟩
      · have dm : decide (2 ≤ xm) = false := decide_eq_false (by simp only at h2; omega)
        have Hfk := Lib.hid hfk
        clear h2 hfk hxk
        simp only at d1 d2 d3
        go_wp2_with first
          | (go_at_call 85; refine (numbered_any _ _).mono ?_; rw [dm]; rintro e w' ⟨rfl, rfl⟩)
          | (at_builtin; (with_reducible apply append_new (o := ⟨some 44, _, _, _, _, _⟩) el_sample w (w.heap.size + 1 + 1 + 1 + 1) (v := .slice A1 k c1) (n := k) (xs := smC f k) (m := 1) (news := [.int .i64 xt, .int .i64 xn, .int .i64 xm])); go_loud (exact rfl; exact rfl; exact rfl; exact rfl; (focus omega); exact ((HS.out.alloc (o := (.cells #[.int .i64 xt, .int .i64 xn, .int .i64 xm] 61))).alloc (o := (.cells #[.int .i64 xt, .int .i64 xn, .int .i64 xm] 61))).own; exact ((HS.out.alloc (o := (.cells #[.int .i64 xt, .int .i64 xn, .int .i64 xm] 61))).alloc (o := (.cells #[.int .i64 xt, .int .i64 xn, .int .i64 xm] 61))).grew; (focus (simp <;> omega)); exact rfl; (focus (repeat (first | (with_reducible assumption) | ((with_reducible apply Shows.whole); focus ((focus (repeat (first | (with_reducible assumption) | (with_reducible exact At.new _ _) | (with_reducible refine At.row ?_) | ((with_reducible refine At.row_other ?_ ?_); rotate_left; (focus (simp <;> omega))) | (with_reducible refine At.app ?_) | (with_reducible refine At.tick ?_) | (with_reducible refine At.gx ?_) | ((with_reducible refine At.new' ?_); focus (simp; done)) | (with_reducible refine At.alloc ?_) | (with_reducible refine At.drew ?_) | (with_reducible exact Is.new _ _ _) | (with_reducible refine Is.row ?_) | ((with_reducible refine Is.row_other ?_ ?_); rotate_left; (focus (simp <;> omega))) | (with_reducible refine Is.gx ?_) | ((with_reducible refine Is.new' ?_); focus (simp; done)) | (with_reducible refine Is.alloc ?_) | (with_reducible refine Is.drew ?_)))); done)) | (with_reducible refine Shows.app ?_) | (with_reducible refine Shows.tick ?_) | (with_reducible refine Shows.gx ?_) | (with_reducible refine Shows.alloc ?_) | (with_reducible refine Shows.drew ?_)))); (focus (simp [Value.oneCell']; done)); (focus (simp only [maxLen]; omega)); (focus omega); rintro v2 W2 hW2 hO2 hg; obtain ⟨A2, c2, rfl, -⟩ := hO2.is; have hM := (HS.out.alloc (o := (.cells #[.int .i64 xt, .int .i64 xn, .int .i64 xm] 61))).alloc (o := (.cells #[.int .i64 xt, .int .i64 xn, .int .i64 xm] 61)); have hN := MtSt.step hM hW2 hg (by rw [Hfk.out]; exact hO2); have ho := hM.out.grown hg (own_ne_at hM.own hM.out (by decide)); have p1 : W2.cell? ⟨w.heap.size + 1 + 1 + 1, 1, none⟩ = some (.slice A1 k c1) := (by rw [cell_of_row W2 _ _ _ _ _ ho]; rfl); have pf : W2.frozen? ⟨w.heap.size + 1 + 1 + 1, 1, none⟩ = false := ho.frz; have HN := Lib.hid hN; clear hN ho hg hO2 hW2 hM))
        go_roundw
        case rel => exact ⟨k + 1, A2, c2, by omega, by go_num, HN.out⟩
        case measure => simp [intOf]; omega
      · have dm : decide (2 ≤ xm) = true := decide_eq_true h2
        simp only at d1 d2 d3
        cases is with
        | false =>
          have Hfk : Hid (f k = ⟨xt, 0, 1⟩) := hfk
          have m0 : m = 0 := by
            rcases ha with ⟨h, _⟩ | ⟨_, h, _⟩
            · cases h
            · exact h
          subst m0
          clear hfk
          have HA := fun W (hW : LnAt W L nl B) => rapply_is (den := cden) (c := cl) W hW g1 g2 g3 ha
          clear ha h2 hxk
          go_wp2_with first
            | (go_at_call 85; refine (numbered_any _ _).mono ?_; rw [dm]; rintro e w' ⟨rfl, rfl⟩)
            | (go_at_call 86; refine (HA _ hBr.alloc).mono ?_; rintro e w' ⟨rfl, z, rfl⟩)
            | (at_builtin; (with_reducible apply append_new (o := ⟨some 44, _, _, _, _, _⟩) el_sample w (w.heap.size + 1 + 1 + 1 + 1) (v := .slice A1 k c1) (n := k) (xs := smC f k) (m := 1) (news := [.int .i64 xt, .int .i64 0, .int .i64 1])); go_loud (exact rfl; exact rfl; exact rfl; exact rfl; (focus omega); exact (((HS.out.alloc (o := (.cells #[.int .i64 xt, .int .i64 0, .int .i64 1] 61))).gx (x := z)).alloc (o := (.cells #[.int .i64 xt, .int .i64 0, .int .i64 1] 61))).own; exact (((HS.out.alloc (o := (.cells #[.int .i64 xt, .int .i64 0, .int .i64 1] 61))).gx (x := z)).alloc (o := (.cells #[.int .i64 xt, .int .i64 0, .int .i64 1] 61))).grew; (focus (simp <;> omega)); exact rfl; (focus (repeat (first | (with_reducible assumption) | ((with_reducible apply Shows.whole); focus ((focus (repeat (first | (with_reducible assumption) | (with_reducible exact At.new _ _) | (with_reducible refine At.row ?_) | ((with_reducible refine At.row_other ?_ ?_); rotate_left; (focus (simp <;> omega))) | (with_reducible refine At.app ?_) | (with_reducible refine At.tick ?_) | (with_reducible refine At.gx ?_) | ((with_reducible refine At.new' ?_); focus (simp; done)) | (with_reducible refine At.alloc ?_) | (with_reducible refine At.drew ?_) | (with_reducible exact Is.new _ _ _) | (with_reducible refine Is.row ?_) | ((with_reducible refine Is.row_other ?_ ?_); rotate_left; (focus (simp <;> omega))) | (with_reducible refine Is.gx ?_) | ((with_reducible refine Is.new' ?_); focus (simp; done)) | (with_reducible refine Is.alloc ?_) | (with_reducible refine Is.drew ?_)))); done)) | (with_reducible refine Shows.app ?_) | (with_reducible refine Shows.tick ?_) | (with_reducible refine Shows.gx ?_) | (with_reducible refine Shows.alloc ?_) | (with_reducible refine Shows.drew ?_)))); (focus (simp [Value.oneCell']; done)); (focus (simp only [maxLen]; omega)); (focus omega); rintro v2 W2 hW2 hO2 hg; obtain ⟨A2, c2, rfl, -⟩ := hO2.is; have hM := ((HS.out.alloc (o := (.cells #[.int .i64 xt, .int .i64 0, .int .i64 1] 61))).gx (x := z)).alloc (o := (.cells #[.int .i64 xt, .int .i64 0, .int .i64 1] 61)); have hN := MtSt.step hM hW2 hg (by rw [Hfk.out]; exact hO2); have ho := hM.out.grown hg (own_ne_at hM.own hM.out (by decide)); have p1 : W2.cell? ⟨w.heap.size + 1 + 1 + 1, 1, none⟩ = some (.slice A1 k c1) := (by rw [cell_of_row W2 _ _ _ _ _ ho]; rfl); have pf : W2.frozen? ⟨w.heap.size + 1 + 1 + 1, 1, none⟩ = false := ho.frz; have HN := Lib.hid hN; clear hN ho hg hO2 hW2 hM))
          go_roundw
          case rel => exact ⟨k + 1, A2, c2, by omega, by go_num, HN.out⟩
          case measure => simp [intOf]; omega
        | true =>
          have Hfk : Hid (f k = ⟨xt, m, xm⟩) := hfk
          clear hfk
          have HA := fun W (hW : LnAt W L nl B) => rapply_is (den := cden) (c := cl) W hW g1 g2 g3 ha
          clear ha h2 hxk
          go_wp2_with first
            | (go_at_call 85; refine (numbered_any _ _).mono ?_; rw [dm]; rintro e w' ⟨rfl, rfl⟩)
            | (go_at_call 86; refine (HA _ hBr.alloc).mono ?_; rintro e w' ⟨rfl, z, rfl⟩)
            | (at_builtin; (with_reducible apply append_new (o := ⟨some 44, _, _, _, _, _⟩) el_sample w (w.heap.size + 1 + 1 + 1 + 1) (v := .slice A1 k c1) (n := k) (xs := smC f k) (m := 1) (news := [.int .i64 xt, .int .i64 m, .int .i64 xm])); go_loud (exact rfl; exact rfl; exact rfl; exact rfl; (focus omega); exact (((HS.out.alloc (o := (.cells #[.int .i64 xt, .int .i64 m, .int .i64 xm] 61))).gx (x := z)).alloc (o := (.cells #[.int .i64 xt, .int .i64 m, .int .i64 xm] 61))).own; exact (((HS.out.alloc (o := (.cells #[.int .i64 xt, .int .i64 m, .int .i64 xm] 61))).gx (x := z)).alloc (o := (.cells #[.int .i64 xt, .int .i64 m, .int .i64 xm] 61))).grew; (focus (simp <;> omega)); exact rfl; (focus (repeat (first | (with_reducible assumption) | ((with_reducible apply Shows.whole); focus ((focus (repeat (first | (with_reducible assumption) | (with_reducible exact At.new _ _) | (with_reducible refine At.row ?_) | ((with_reducible refine At.row_other ?_ ?_); rotate_left; (focus (simp <;> omega))) | (with_reducible refine At.app ?_) | (with_reducible refine At.tick ?_) | (with_reducible refine At.gx ?_) | ((with_reducible refine At.new' ?_); focus (simp; done)) | (with_reducible refine At.alloc ?_) | (with_reducible refine At.drew ?_) | (with_reducible exact Is.new _ _ _) | (with_reducible refine Is.row ?_) | ((with_reducible refine Is.row_other ?_ ?_); rotate_left; (focus (simp <;> omega))) | (with_reducible refine Is.gx ?_) | ((with_reducible refine Is.new' ?_); focus (simp; done)) | (with_reducible refine Is.alloc ?_) | (with_reducible refine Is.drew ?_)))); done)) | (with_reducible refine Shows.app ?_) | (with_reducible refine Shows.tick ?_) | (with_reducible refine Shows.gx ?_) | (with_reducible refine Shows.alloc ?_) | (with_reducible refine Shows.drew ?_)))); (focus (simp [Value.oneCell']; done)); (focus (simp only [maxLen]; omega)); (focus omega); rintro v2 W2 hW2 hO2 hg; obtain ⟨A2, c2, rfl, -⟩ := hO2.is; have hM := ((HS.out.alloc (o := (.cells #[.int .i64 xt, .int .i64 m, .int .i64 xm] 61))).gx (x := z)).alloc (o := (.cells #[.int .i64 xt, .int .i64 m, .int .i64 xm] 61)); have hN := MtSt.step hM hW2 hg (by rw [Hfk.out]; exact hO2); have ho := hM.out.grown hg (own_ne_at hM.own hM.out (by decide)); have p1 : W2.cell? ⟨w.heap.size + 1 + 1 + 1, 1, none⟩ = some (.slice A1 k c1) := (by rw [cell_of_row W2 _ _ _ _ _ ho]; rfl); have pf : W2.frozen? ⟨w.heap.size + 1 + 1 + 1, 1, none⟩ = false := ho.frz; have HN := Lib.hid hN; clear hN ho hg hO2 hW2 hM))
          go_roundw
          case rel => exact ⟨k + 1, A2, c2, by omega, by go_num, HN.out⟩
          case measure => simp [intOf]; omega
    · obtain rfl : k = n := by omega
      have HS := Lib.hid hst
      have qr : wr.cell? ⟨w.heap.size + 1 + 1, 0, none⟩ = some (.int .i64 0) := by rw [cell_of_row wr _ _ _ _ _ hst.res]; rfl
      have qr1 : wr.cell? ⟨w.heap.size + 1 + 1, 1, none⟩ = some (.slice none 0 0) := by rw [cell_of_row wr _ _ _ _ _ hst.res]; rfl
      have qf0 : wr.frozen? ⟨w.heap.size + 1 + 1, 0, none⟩ = false := hst.res.frz
      have qf1 : wr.frozen? ⟨w.heap.size + 1 + 1, 1, none⟩ = false := hst.res.frz
      clear hst
      go_wp2
      refine bodyPost_ret (v := serV cden A1 k c1) (by simp [results, Tryd.results50, go_sem, qr, qr1]) rfl ?_
      exact Meant_end HS.out

theorem cell_swap (W : World) (o o' : Obj) (x : Ext) (p : Addr) (h : p.block ≠ W.heap.size) : (gx (W.alloc o') x).cell? p = (gx (W.alloc o) x).cell? p := by
  have e : (gx (W.alloc o') x).heap[p.block]? = (gx (W.alloc o) x).heap[p.block]? := by
    show ((W.alloc o').heap ++ x.blocks)[p.block]? = ((W.alloc o).heap ++ x.blocks)[p.block]?
    rcases Nat.lt_or_ge p.block (W.heap.size + 1) with h1 | h1
    · rw [Array.getElem?_append_left (by simp; omega), Array.getElem?_append_left (by simp; omega)]
      simp only [World.alloc, Array.getElem?_push, if_neg h]
    · rw [Array.getElem?_append_right (by simp; omega), Array.getElem?_append_right (by simp; omega)]
      simp
  unfold World.cell?
  rw [e]
theorem smAt_swap {W : World} {d d' : Int} {A : Option Addr} {n : Nat} {t : TypeId} {x : Ext} {f : Nat → Sm} {S : Value} (h : SmAt (gx (W.alloc (.cells #[.int .i64 d, .slice none 0 0] t)) x) f n A) : SmAt (gx (W.alloc (.cells #[.int .i64 d', S] t)) x) f n A := by
  refine SmAt.mk fun h0 => ?_
  unfold SmAt at h
  obtain ⟨b, o, e, hc⟩ := h h0
  have hA : At (gx (W.alloc (.cells #[.int .i64 d, .slice none 0 0] t)) x) W.heap.size (.cells #[.int .i64 d, .slice none 0 0] t (0, 0)) := (At.new W _).gx
  have hb : b ≠ W.heap.size := by
    intro eb
    subst eb
    obtain ⟨c1, c2, _⟩ := hc 0 h0
    rw [cell_of_row _ _ _ _ _ _ hA] at c1 c2
    rcases (by omega : o = 0 ∨ o = 1 ∨ 2 ≤ o) with rfl | rfl | h2
    · simp at c2
    · simp at c1
    · rw [Array.getElem?_eq_none (by simp; omega)] at c1; cases c1
  refine ⟨b, o, e, fun k hk => ?_⟩
  obtain ⟨c1, c2, c3⟩ := hc k hk
  exact ⟨(cell_swap W _ _ x _ hb).trans c1, (cell_swap W _ _ x _ hb).trans c2, (cell_swap W _ _ x _ hb).trans c3⟩
theorem RCalibrate_end {w : World} {o1 o2 : Obj} {t : TypeId} {cden : Int} {f : Nat → Sm} {n c2 : Nat} {A2 : Option Addr} {x : Ext} (h : SmAt (gx (((w.alloc o1).alloc o2).alloc (.cells #[.int .i64 0, .slice none 0 0] t)) x) f n A2) :
    SerPost w cden f n 0 (.returned (.tuple #[serV cden A2 n c2, .int .i64 0])) (gx (((w.alloc o1).alloc o2).alloc (.cells #[.int .i64 cden, .slice A2 n c2] t)) x) := SerPost.mk (by repeat (first | (with_reducible exact Gx.refl _) | (with_reducible assumption) | (with_reducible refine Gx.gx ?_) | (with_reducible refine Gx.alloc ?_) | (with_reducible refine Gx.drew ?_) | (with_reducible refine Gx.drewN ?_) | (with_reducible refine Gx.setRow ?_ (by first | omega | (simp; done) | (simp <;> omega))) | (with_reducible refine Gx.setCell ?_ (by first | omega | (simp; done) | (simp <;> omega))))) (smAt_swap h)
set_option maxHeartbeats 2000000 in
set_option maxRecDepth 100000 in
theorem RCalibrate_any (den : Int) (g : Nat → Sm) (n c : Nat) (A : Option Addr) (cden : Int) (L : Nat → Ln) (nl cl : Nat) (B : Option Addr) (lo hi : Int) (w : World) (hL : SmAt w g n A) (hB : LnAt w L nl B) (f : Nat → Sm) (hf : ∀ i, CalIs L nl lo hi (g i) (f i)) :
    Calls Tryd.prog 21 #[serV den A n c, calV cden B nl cl lo hi] w (SerPost w (if calbE den g n cden L nl lo hi = 0 then cden else 0) f (if calbE den g n cden L nl lo hi = 0 then n else 0) (calbE den g n cden L nl lo hi)) := by
  have hLw : SmAt (((w.alloc (.cells #[.int .i64 den, .slice A n c] 24)).alloc (.cells #[.int .i64 cden, .slice B nl cl, .int .i64 lo, .int .i64 hi] 39)).alloc (.cells #[.int .i64 0, .slice none 0 0] 24)) g n A := hL.alloc.alloc.alloc
  have hBw : LnAt (((w.alloc (.cells #[.int .i64 den, .slice A n c] 24)).alloc (.cells #[.int .i64 cden, .slice B nl cl, .int .i64 lo, .int .i64 hi] 39)).alloc (.cells #[.int .i64 0, .slice none 0 0] 24)) L nl B := hB.alloc.alloc.alloc
  have HC := fun W h => RCheck_any den g n c A W h
  have HD := fun W h => RCheckCal_any cden L nl cl B lo hi W h
  by_cases h1 : serE den g n = 0
  · by_cases h2 : calE cden L nl lo hi = 0
    · by_cases h3 : den = 1
      · rw [calbE_4 h1 h2 h3, if_pos rfl, if_pos rfl]
        subst h3
        obtain ⟨_, hn, hG⟩ := goodS_of h1
        obtain ⟨g1, g2, g3, _⟩ := calE_ok h2
        rw [h1] at HC
        rw [h2] at HD
        have HM := Lib.hid (fun W (h : SmAt W g n A) (h' : LnAt W L nl B) => Meant_any 1 g n c A cden L nl cl B lo hi W h h' hn g1 g2 g3 f hf)
        clear h1 h2
        go_enter Tryd.func21, Tryd.ntmps21
        go_wp2_with first
          | (go_at_call 13; refine (HC _ hLw).mono ?_; rintro e w' ⟨rfl, z1, rfl⟩)
          | (go_at_call 49; refine (HD _ hBw.gx).mono ?_; rintro e w' ⟨rfl, z2, rfl⟩; rw [gx_gx])
          | (go_at_call 50; refine (HM.out _ hLw.gx hBw.gx).mono ?_; rintro e w' ⟨A2, c2, x2, rfl, rfl, hs2⟩; rw [gx_gx] at hs2 ⊢; have HS2 := Lib.hid hs2; clear hs2)
        refine bodyPost_ret (v := .tuple #[serV cden A2 n c2, .int .i64 0]) (by simp [results, Tryd.results21, go_sem]) rfl ?_
        exact RCalibrate_end HS2.out
      · rw [calbE_3 h1 h2 h3, if_neg (by decide), if_neg (by decide)]
        rw [h1] at HC
        rw [h2] at HD
        have d1 : (den != 1) = true := by simpa using h3
        have d2 : (den == 1) = false := by simpa using h3
        clear h1 h2 h3
        go_enter Tryd.func21, Tryd.ntmps21
        go_wp2_with first
          | (go_at_call 13; refine (HC _ hLw).mono ?_; rintro e w' ⟨rfl, z1, rfl⟩)
          | (go_at_call 49; refine (HD _ hBw.gx).mono ?_; rintro e w' ⟨rfl, z2, rfl⟩)
        refine bodyPost_ret (v := .tuple #[serV 0 none 0 0, .int .i64 2]) (by simp [results, Tryd.results21, go_sem]) rfl ?_
        exact SerPost.zero (by repeat (first | (with_reducible exact Gx.refl _) | (with_reducible assumption) | (with_reducible refine Gx.gx ?_) | (with_reducible refine Gx.alloc ?_) | (with_reducible refine Gx.drew ?_) | (with_reducible refine Gx.drewN ?_) | (with_reducible refine Gx.setRow ?_ (by first | omega | (simp; done) | (simp <;> omega))) | (with_reducible refine Gx.setCell ?_ (by first | omega | (simp; done) | (simp <;> omega)))))
    · rw [calbE_2 h1 h2, if_neg h2, if_neg h2]
      rw [h1] at HC
      have n1 := ne0 h2
      have n2 := ne0' h2
      clear h1 h2
      generalize calE cden L nl lo hi = q at *
      go_enter Tryd.func21, Tryd.ntmps21
      go_wp2_with first
        | (go_at_call 13; refine (HC _ hLw).mono ?_; rintro e w' ⟨rfl, z1, rfl⟩)
        | (go_at_call 49; refine (HD _ hBw.gx).mono ?_; rintro e w' ⟨rfl, z2, rfl⟩)
      refine bodyPost_ret (v := .tuple #[serV 0 none 0 0, .int .i64 q]) (by simp [results, Tryd.results21, go_sem]) rfl ?_
      exact SerPost.zero (by repeat (first | (with_reducible exact Gx.refl _) | (with_reducible assumption) | (with_reducible refine Gx.gx ?_) | (with_reducible refine Gx.alloc ?_) | (with_reducible refine Gx.drew ?_) | (with_reducible refine Gx.drewN ?_) | (with_reducible refine Gx.setRow ?_ (by first | omega | (simp; done) | (simp <;> omega))) | (with_reducible refine Gx.setCell ?_ (by first | omega | (simp; done) | (simp <;> omega)))))
  · rw [calbE_1 h1, if_neg h1, if_neg h1]
    have n1 := ne0 h1
    have n2 := ne0' h1
    clear h1
    generalize serE den g n = q at *
    go_enter Tryd.func21, Tryd.ntmps21
    go_wp2_with (go_at_call 13; refine (HC _ hLw).mono ?_; rintro e w' ⟨rfl, z1, rfl⟩)
    refine bodyPost_ret (v := .tuple #[serV 0 none 0 0, .int .i64 q]) (by simp [results, Tryd.results21, go_sem]) rfl ?_
    exact SerPost.zero (by repeat (first | (with_reducible exact Gx.refl _) | (with_reducible assumption) | (with_reducible refine Gx.gx ?_) | (with_reducible refine Gx.alloc ?_) | (with_reducible refine Gx.drew ?_) | (with_reducible refine Gx.drewN ?_) | (with_reducible refine Gx.setRow ?_ (by first | omega | (simp; done) | (simp <;> omega))) | (with_reducible refine Gx.setCell ?_ (by first | omega | (simp; done) | (simp <;> omega)))))
end Go.Proofs.YtjlokobgdkkppaaDoor
