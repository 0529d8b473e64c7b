/-
  Texts that this claim leans on, merged: GMount, GRec1, GRec2, GRec3, GUpd, GOpen0, GOpen, GPut0, GHead1, GSect1, GSlotFr, FramesA, GKeptB.
-/
import Derived.Deep.RegionLaw
import Derived.LoopN
import Derived.Great.BuildSlice
import Derived.Deep.DeepAppendWide
import Derived.Deep.MidRow
import Derived.Test.YthkccbeffonaaaaGreatDoorM4
import Derived.Test.YthkccbeffonaaaaGreatDoorM2
import Derived.Test.YthkccbeffonaaaaGreatDoorM3

/-
  Mount of one blank memory: the contract.
-/
namespace Go.Proofs.YthkccbeffonaaaaGreatDoor
open Go.RowKit
-- AT2

theorem step_append_own {t e : TypeId} {size bytes : Nat} (hE : Elem t e size bytes) {ops : Array Oper} {o : Oper} {a : Act} {K : Act → World → Prop} {Q : Exit → Act → World → Prop} {E' : Prop} {W : World} (w : World) (b : Nat) {s x : Operand} {v : Value} {n : Nat} {xs : List Value} {g m : Nat} {news : List Value}
    (ho : o.op = .call { callee := .builtin .append, args := #[s, x], argTypes := #[t, t] }) (hgd : o.guard = none) (hs : a.eval s = v) (hx : a.eval x = .slice (some ⟨g, 0, none⟩) m m)
    (hb : w.heap.size ≤ b) (hown : Own b W e size v n xs) (hW : ∃ x, W = gx w x) (hbW : b ≤ W.heap.size) (hl : news.length = m * size) (hnews : Shows news (some ⟨g, 0, none⟩) W) (h1 : ∀ u ∈ news, u.oneCell' = true) (h63 : n + m ≤ maxLen) (hbytes : (n + m) * bytes ≤ 140737488355328)
    (hm : 0 < m) (h : ∀ v' W', (∃ x, W' = gx w x) → Own b W' e size v' (n + m) (xs ++ news) → W.grownBy W' v.ownBlock → K (a.put o.dst v') W') : if Region.wanted o (yielded ops a.tmps) = true then Oper.wp Tryz.prog o a W K Q else E' := by
  rw [if_pos (by simp [Region.wanted, hgd])]
  obtain ⟨ht, hp, i, z, hi, hz, hsize, hby, hzs⟩ := hE
  refine wp_append_own W s x t ho b e i z size bytes ht hi hz hsize hby hzs hp v n xs hs hown.out ⟨g, 0, none⟩ m m news hx hl ?_ h1 h63 hbytes hbW fun v' W' h2 h3 _ => h v' W' (gx_of_grown hW h3 fun k hk => by have := hown.lt k hk; omega) (Own.mk' h2) h3
  intro j u hu
  unfold Shows at hnews
  obtain ⟨g', o', e1, hc⟩ := hnews (by rw [hl]; exact Nat.mul_pos hm hp)
  obtain ⟨rfl, rfl⟩ : g = g' ∧ 0 = o' := by simpa using Option.some.inj e1
  rw [Addr.add_lit]
  exact hc j u hu
theorem At.grown {W W' : World} {g : Nat} {o : Obj} {r : Option Nat} (h : At W g o) (hg : W.grownBy W' r) (hne : r ≠ some g) : At W' g o := by
  unfold At at *
  have hlt : g < W.heap.size := At.lt h
  rw [hg.block g hlt (fun e => hne e.symm)]
  exact h

/-- A recorder of one memory. -/
structure RecSt (b : Nat) (W : World) (m : PM) (gr gm gS : Nat) (A1 A2 A3 : Option Addr) (c1 c2 c3 : Nat) (Z : List (Nat × List Int)) (sec slot : Int) (fz st : Bool) (last : Int) : Prop where
  br : b ≤ gr
  bm : b ≤ gm
  r : At W gr (.cells #[.slice (some ⟨gm, 0, none⟩) 1 1, .int .i64 1, .slice A3 1 c3, .bool fz, .bool st, .int .i64 last] 148 (0, 0))
  mem : At W gm (.cells (oC m gS (.slice A1 m.wear.length c1) (.slice A2 m.bad.length c2)) 26 (0, 0))
  om : OMem b W m gS (.slice A1 m.wear.length c1) (.slice A2 m.bad.length c2) Z
  std : Own b W 150 2 (.slice A3 1 c3) 1 [.int .i64 sec, .int .i64 slot]
theorem el_stand : Elem 146 150 2 16 := elem_of Tryz.underlying146 (by decide) (z := .agg #[.int .i64 0, .int .i64 0]) (by kernel_rfl) (by simp [Value.cells])
set_option maxHeartbeats 1000000 in
set_option maxRecDepth 100000 in
theorem Mount_one (m : PM) (hm : Good m) (A B C : Option Addr) (a b c g o cap : Nat) (w : World) (hF : Five w g o m A B C a b c) (hR : RM w m A B C) (hno : ∀ k, k < m.sec.length → NoHead (m.s k)) :
    Calls Tryz.prog 50 #[.slice (some ⟨g, o, none⟩) 1 cap, .int .i64 1] w fun e w' => ∃ gr gm gS A1 A2 A3 c1 c2 c3 Z x, e = .returned (.tuple #[.pointer (some ⟨gr, 0, none⟩), .int .i64 0]) ∧ w' = gx w x ∧ RecSt w.heap.size (gx w x) m gr gm gS A1 A2 A3 c1 c2 c3 Z (-1) 0 false false (-1) := by
  have HF := Lib.hid hF
  have HR := Lib.hid hR
  have HN := Lib.hid hno
  have hn : m.sec.length ≤ 64 := by have := hm.sizes; unfold sizesOk at this; omega
  clear hF hR hno
  go_enter Tryz.func50, Tryz.ntmps50
  go_wp2_with (first | (go_at_call 101; go_loud (refine (bankOf_one m hm A B C a b c g o cap _ HF.out HR.out).mono ?_; rintro e w' ⟨rfl, z1, rfl⟩)) | (go_at_call 108; go_loud (refine (checkCopies_one _ cap _).mono ?_; rintro e w' ⟨rfl, z2, rfl⟩)) | (go_at_call 111; go_loud (refine (copied_one m hm A B C a b c g o cap _ ?_ (RM.of_gx HR.out ?_)).mono ?_; (focus (repeat (first | exact HF.out | refine Five.gx ?_ | refine Five.alloc ?_))); (focus (exact (by repeat (first | (with_reducible exact Gx.refl _) | (with_reducible assumption) | (with_reducible refine Gx.gx ?_) | (with_reducible refine Gx.alloc ?_) | (with_reducible refine Gx.drew ?_) | (with_reducible refine Gx.drewN ?_) | (with_reducible refine Gx.setRow ?_ (by simp)) | (with_reducible refine Gx.setCell ?_ (by simp)))))); rintro e W1 ⟨gm, gS, vW, vB, Z, z3, rfl, hW1, hgm, hAm, hO⟩; rw [← hW1] at hAm hO; have hG : ∃ x, W1 = gx w x := (hW1 ▸ (by repeat (first | (with_reducible exact Gx.refl _) | (with_reducible assumption) | (with_reducible refine Gx.gx ?_) | (with_reducible refine Gx.alloc ?_) | (with_reducible refine Gx.drew ?_) | (with_reducible refine Gx.drewN ?_) | (with_reducible refine Gx.setRow ?_ (by simp)) | (with_reducible refine Gx.setCell ?_ (by simp))))); clear hW1; have hgm' : w.heap.size ≤ gm := (by simp at hgm; omega); have hO' := hO.rebase (b' := w.heap.size) (by simp <;> omega); obtain ⟨A1, c1, rfl, -⟩ := hO'.wear.is; obtain ⟨A2, c2, rfl, -⟩ := hO'.bad.is; have hRM := Lib.hid (hO'.rm hm); have hOO := Lib.hid hO'; clear hO hO' hgm; have hgs := hAm.lt; have hm0 : W1.cell? ⟨gm, 0, none⟩ = some (.int .i64 m.slots) := (by rw [cell_of_row W1 gm _ _ _ _ hAm]; rfl); have hm1 : W1.cell? ⟨gm, 1, none⟩ = some (.int .i64 m.limit) := (by rw [cell_of_row W1 gm _ _ _ _ hAm]; rfl); have hm2 : W1.cell? ⟨gm, 2, none⟩ = some (.slice (some ⟨gS, 0, none⟩) m.sec.length m.sec.length) := (by rw [cell_of_row W1 gm _ _ _ _ hAm]; rfl); have hm3 : W1.cell? ⟨gm, 3, none⟩ = some (.slice A1 m.wear.length c1) := (by rw [cell_of_row W1 gm _ _ _ _ hAm]; rfl); have hm4 : W1.cell? ⟨gm, 4, none⟩ = some (.slice A2 m.bad.length c2) := (by rw [cell_of_row W1 gm _ _ _ _ hAm]; rfl); have hg1 : gm < W1.heap.size + 1 := (by omega); have hg2 : gm < W1.heap.size + 1 + 1 := (by omega); have hg3 : gm < W1.heap.size + 1 + 1 + 1 := (by omega))))
  refine wp_loop_rounds 2 ?_
  rw [rounds_succ]
  go_wp2_with (first | (go_at_call 112; go_loud (refine (standing_none m hm (some ⟨gS, 0, none⟩) A1 A2 m.sec.length c1 c2 _ (RM.of_gx hRM.out ?_) HN.out).mono ?_; (focus (exact (by repeat (first | (with_reducible exact Gx.refl _) | (with_reducible assumption) | (with_reducible refine Gx.gx ?_) | (with_reducible refine Gx.alloc ?_) | (with_reducible refine Gx.drew ?_) | (with_reducible refine Gx.drewN ?_) | (with_reducible refine Gx.setRow ?_ (by simp)) | (with_reducible refine Gx.setCell ?_ (by simp)))))); rintro e w' ⟨rfl, z4, rfl⟩)))
  have l1 : W1.heap.size < W1.heap.size + 1 + 1 + z4.n := by omega
  have l2 : W1.heap.size < W1.heap.size + 1 + 1 := by omega
  have l3 : W1.heap.size < W1.heap.size + 1 + 1 + z4.n + 1 := by omega
  go_region_law (first | (apply step_append_own el_stand ((W1.alloc (.cells #[.slice (some ⟨gm, 0, none⟩) 1 1, .int .i64 1, .slice none 0 0, .bool false, .bool false, .int .i64 (-1)] 148)).alloc (.cells #[.int .i64 m.slots, .int .i64 m.limit, .slice (some ⟨gS, 0, none⟩) m.sec.length m.sec.length, .slice A1 m.wear.length c1, .slice A2 m.bad.length c2] 26)) (W1.heap.size + 1 + 1) (v := .slice none 0 0) (n := 0) (xs := []) (m := 1) (news := [.int .i64 (-1), .int .i64 0]); go_loud ((exact rfl; exact rfl; exact rfl; exact rfl; (focus (simp; done)); exact Own.nil _ _ _ _; exact (by repeat (first | (with_reducible exact Gx.refl _) | (with_reducible assumption) | (with_reducible refine Gx.gx ?_) | (with_reducible refine Gx.alloc ?_) | (with_reducible refine Gx.drew ?_) | (with_reducible refine Gx.drewN ?_) | (with_reducible refine Gx.setRow ?_ (by simp)) | (with_reducible refine Gx.setCell ?_ (by simp)))); (focus (simp <;> omega)); exact rfl; (focus (repeat (first | (with_reducible assumption) | ((with_reducible apply Shows.whole); focus ((focus (repeat (first | (with_reducible assumption) | (with_reducible exact At.new _ _) | (with_reducible refine At.row ?_) | (with_reducible refine At.app ?_) | (with_reducible refine At.tick ?_) | (with_reducible refine At.gx ?_) | ((with_reducible refine At.new' ?_); focus (simp; done)) | (with_reducible refine At.alloc ?_) | (with_reducible refine At.drew ?_) | (with_reducible exact Is.new _ _ _) | (with_reducible refine Is.row ?_) | (with_reducible refine Is.gx ?_) | ((with_reducible refine Is.new' ?_); focus (simp; done)) | (with_reducible refine Is.alloc ?_) | (with_reducible refine Is.drew ?_)))); done)) | (with_reducible refine Shows.app ?_) | (with_reducible refine Shows.tick ?_) | (with_reducible refine Shows.gx ?_) | (with_reducible refine Shows.alloc ?_) | (with_reducible refine Shows.drew ?_)))); (focus (simp [Value.oneCell']; done)); (focus (simp only [maxLen]; omega)); (focus omega); (focus decide); rintro v' _ ⟨y', rfl⟩ hO' hg'; have hst : At _ (W1.heap.size + 1 + 1 + z4.n) (.cells #[.int .i64 (-1), .int .i64 0] 150 (0, 0)) := (by refine At.grown ?_ hg' ?_; rotate_left; (focus (simp [Value.ownBlock])); (focus (repeat (first | (with_reducible assumption) | (with_reducible exact At.new _ _) | (with_reducible refine At.row ?_) | (with_reducible refine At.app ?_) | (with_reducible refine At.tick ?_) | (with_reducible refine At.gx ?_) | ((with_reducible refine At.new' ?_); focus (simp; done)) | (with_reducible refine At.alloc ?_) | (with_reducible refine At.drew ?_) | (with_reducible exact Is.new _ _ _) | (with_reducible refine Is.row ?_) | (with_reducible refine Is.gx ?_) | ((with_reducible refine Is.new' ?_); focus (simp; done)) | (with_reducible refine Is.alloc ?_) | (with_reducible refine Is.drew ?_))))); have hO2 := Lib.hid hO'; obtain ⟨A3, c3, rfl, -⟩ := hO'.is; have hst2 : At (gx ((W1.alloc (.cells #[.slice (some ⟨gm, 0, none⟩) 1 1, .int .i64 1, .slice A3 1 c3, .bool false, .bool false, .int .i64 (-1)] 148)).alloc (.cells #[.int .i64 m.slots, .int .i64 m.limit, .slice (some ⟨gS, 0, none⟩) m.sec.length m.sec.length, .slice A1 m.wear.length c1, .slice A2 m.bad.length c2] 26)) y') (W1.heap.size + 1 + 1 + z4.n) (.cells #[.int .i64 (-1), .int .i64 0] 150 (0, 0)) := (At.swap hst (by simp <;> omega) (by simp)); have hs0 := cell_of_row _ _ 0 _ _ _ hst2; clear hg' hst hst2 hO'))))
  all_goals
    go_wp2
    rw [rounds_succ]
    go_wp2
    have key : ∀ W, (∃ x, W = gx w x) → RecSt w.heap.size W m W1.heap.size gm gS A1 A2 A3 c1 c2 c3 Z (-1) 0 false false (-1) → ∃ gr gm gS A1 A2 A3 c1 c2 c3 Z x, Ending.returned (.tuple #[.pointer (some ⟨W1.heap.size, 0, none⟩), .int .i64 0]) = .returned (.tuple #[.pointer (some ⟨gr, 0, none⟩), .int .i64 0]) ∧ W = gx w x ∧ RecSt w.heap.size (gx w x) m gr gm gS A1 A2 A3 c1 c2 c3 Z (-1) 0 false false (-1) := by
      rintro _ ⟨x, rfl⟩ h
      exact ⟨_, _, _, _, _, _, _, _, _, _, x, rfl, rfl, h⟩
    have hbw : w.heap.size ≤ W1.heap.size := by obtain ⟨x, hx⟩ := hG; rw [hx]; simp
    go_ret2
    refine key _ ?_ ⟨hbw, hgm', ?_, ?_, ?_, ?_⟩
    · exact Gx.trans (w1 := W1) (by repeat (first | (with_reducible exact Gx.refl _) | (with_reducible assumption) | (with_reducible refine Gx.gx ?_) | (with_reducible refine Gx.alloc ?_) | (with_reducible refine Gx.drew ?_) | (with_reducible refine Gx.drewN ?_) | (with_reducible refine Gx.setRow ?_ (by simp)) | (with_reducible refine Gx.setCell ?_ (by simp)))) hG
    · exact At.gx (At.alloc (At.new _ _))
    · exact At.gx (At.alloc (At.alloc hAm))
    · exact OMem.gx (OMem.alloc (OMem.alloc hOO.out))
    · exact (hO2.out.swap (by simp) (by simp)).base (by omega)
end Go.Proofs.YthkccbeffonaaaaGreatDoor

/-
  A recorder's smaller functions, which read: contracts.
-/
namespace Go.Proofs.YthkccbeffonaaaaGreatDoor
open Go.RowKit
-- AT2

theorem RecSt.gs {b : Nat} {W : World} {m : PM} {gr gm gS : Nat} {A1 A2 A3 : Option Addr} {c1 c2 c3 : Nat} {Z : List (Nat × List Int)} {sec slot : Int} {fz st : Bool} {last : Int} (h : RecSt b W m gr gm gS A1 A2 A3 c1 c2 c3 Z sec slot fz st last) :
    ∃ gs cur, A3 = some ⟨gs, 0, none⟩ ∧ b ≤ gs ∧ At W gs (.cells cur 150 (0, 0)) ∧ cur[0]? = some (.int .i64 sec) ∧ cur[1]? = some (.int .i64 slot) := by
  have hs := h.std.out
  rcases hs.2 with ⟨e, h0⟩ | ⟨g, cap, cur, e, hb, hA, h1, h2, h3, h4⟩
  · omega
  · simp only [Value.slice.injEq, true_and] at e
    refine ⟨g, cur, e.1, hb, hA, ?_, ?_⟩
    · have := congrArg (fun l : List Value => l[0]?) h4
      simpa [List.getElem?_take] using this
    · have := congrArg (fun l : List Value => l[1]?) h4
      simpa [List.getElem?_take] using this
/-- What a recorder shows to those who read it. -/
structure RecRd (W : World) (m : PM) (gr gm gS gs : Nat) (A1 A2 : Option Addr) (c1 c2 c3 : Nat) (sec slot : Int) (fz st : Bool) (last : Int) : Prop where
  lr : gr < W.heap.size
  lm : gm < W.heap.size
  ls : gs < W.heap.size
  r0 : W.cell? ⟨gr, 0, none⟩ = some (.slice (some ⟨gm, 0, none⟩) 1 1)
  r1 : W.cell? ⟨gr, 1, none⟩ = some (.int .i64 1)
  r2 : W.cell? ⟨gr, 2, none⟩ = some (.slice (some ⟨gs, 0, none⟩) 1 c3)
  r3 : W.cell? ⟨gr, 3, none⟩ = some (.bool fz)
  r4 : W.cell? ⟨gr, 4, none⟩ = some (.bool st)
  r5 : W.cell? ⟨gr, 5, none⟩ = some (.int .i64 last)
  m0 : W.cell? ⟨gm, 0, none⟩ = some (.int .i64 m.slots)
  m1 : W.cell? ⟨gm, 1, none⟩ = some (.int .i64 m.limit)
  m2 : W.cell? ⟨gm, 2, none⟩ = some (.slice (some ⟨gS, 0, none⟩) m.sec.length m.sec.length)
  m3 : W.cell? ⟨gm, 3, none⟩ = some (.slice A1 m.wear.length c1)
  m4 : W.cell? ⟨gm, 4, none⟩ = some (.slice A2 m.bad.length c2)
  s0 : W.cell? ⟨gs, 0, none⟩ = some (.int .i64 sec)
  s1 : W.cell? ⟨gs, 1, none⟩ = some (.int .i64 slot)
theorem RecSt.rd {b : Nat} {W : World} {m : PM} {gr gm gS gs : Nat} {A1 A2 A3 : Option Addr} {c1 c2 c3 : Nat} {Z : List (Nat × List Int)} {sec slot : Int} {fz st : Bool} {last : Int} (h : RecSt b W m gr gm gS A1 A2 A3 c1 c2 c3 Z sec slot fz st last) (h3 : A3 = some ⟨gs, 0, none⟩) : RecRd W m gr gm gS gs A1 A2 c1 c2 c3 sec slot fz st last := by
  obtain ⟨gs', cur, e, hb, hA, h0, h1⟩ := h.gs
  rw [h3] at e
  simp only [Option.some.injEq, Addr.mk.injEq, and_true] at e
  subst e
  have hr := h.r
  rw [h3] at hr
  have hm := h.mem
  refine ⟨hr.lt, hm.lt, hA.lt, ?_, ?_, ?_, ?_, ?_, ?_, ?_, ?_, ?_, ?_, ?_, ?_, ?_⟩
  all_goals first
    | (rw [cell_of_row W gr _ _ _ _ hr]; rfl)
    | (rw [cell_of_row W gm _ _ _ _ hm]; rfl)
    | (rw [cell_of_row W gs _ _ _ _ hA]; assumption)
theorem RecRd.gx {W : World} {x : Ext} {m : PM} {gr gm gS gs : Nat} {A1 A2 : Option Addr} {c1 c2 c3 : Nat} {sec slot : Int} {fz st : Bool} {last : Int} (h : RecRd W m gr gm gS gs A1 A2 c1 c2 c3 sec slot fz st last) : RecRd (gx W x) m gr gm gS gs A1 A2 c1 c2 c3 sec slot fz st last := by
  obtain ⟨l1, l2, l3, a0, a1, a2, a3, a4, a5, b0, b1, b2, b3, b4, d0, d1⟩ := h
  refine ⟨by simp; omega, by simp; omega, by simp; omega, ?_, ?_, ?_, ?_, ?_, ?_, ?_, ?_, ?_, ?_, ?_, ?_, ?_⟩
  all_goals (apply cell_keep_gx; assumption)
section
variable {w : World} {m : PM} {gr gm gS gs : Nat} {A1 A2 : Option Addr} {c1 c2 c3 : Nat} {sec slot : Int} {fz st : Bool} {last : Int}
set_option maxHeartbeats 400000 in
set_option maxRecDepth 100000 in
theorem checkPower_ok (p : Int) (h0 : 0 ≤ p) (h1 : p ≤ 1000000000) (w : World) :
    Calls Tryz.prog 84 #[.int .i64 p] w fun e w' => e = .returned (.int .i64 0) ∧ w = w' := by
  have d1 : decide (p < 0) = false := decide_eq_false (by omega)
  have d2 : decide (1000000000 < p) = false := decide_eq_false (by omega)
  go_enter Tryz.func84, Tryz.ntmps84
  go_wp2
  go_ret
  exact ⟨rfl, rfl⟩
set_option maxHeartbeats 400000 in
set_option maxRecDepth 100000 in
theorem check_ok (hR : RecRd w m gr gm gS gs A1 A2 c1 c2 c3 sec slot false false last) (p : Int) (h0 : 0 ≤ p) (h1 : p ≤ 1000000000) :
    Calls Tryz.prog 113 #[.pointer (some ⟨gr, 0, none⟩), .int .i64 p] w fun e w' => e = .returned (.int .i64 0) ∧ ∃ x, w' = gx w x := by
  obtain ⟨l1, l2, l3, a0, a1, a2, a3, a4, a5, b0, b1, b2, b3, b4, d0, d1⟩ := hR
  clear l2 l3 a0 a1 a2 a5 b0 b1 b2 b3 b4 d0 d1
  go_enter Tryz.func113, Tryz.ntmps113
  go_wp2_with (go_at_call 84; go_loud (refine (checkPower_ok p h0 h1 _).mono ?_; rintro e w' ⟨rfl, rfl⟩))
  go_ret
  exact ⟨rfl, (by repeat (first | (with_reducible exact Gx.refl _) | (with_reducible assumption) | (with_reducible refine Gx.gx ?_) | (with_reducible refine Gx.alloc ?_) | (with_reducible refine Gx.drew ?_) | (with_reducible refine Gx.drewN ?_) | (with_reducible refine Gx.setRow ?_ (by simp)) | (with_reducible refine Gx.setCell ?_ (by simp))))⟩
set_option maxHeartbeats 400000 in
set_option maxRecDepth 100000 in
theorem isFull_new (hR : RecRd w m gr gm gS gs A1 A2 c1 c2 c3 (-1) slot fz st last) :
    Calls Tryz.prog 146 #[.pointer (some ⟨gr, 0, none⟩), .int .i64 0] w fun e w' => e = .returned (.bool true) ∧ ∃ x, w' = gx w x := by
  obtain ⟨l1, l2, l3, a0, a1, a2, a3, a4, a5, b0, b1, b2, b3, b4, d0, d1⟩ := hR
  clear a1 a3 a4 a5 b1 b2 b3 b4
  go_enter Tryz.func146, Tryz.ntmps146
  go_wp2
  go_quiet (fail)
  go_wp2
  go_ret
  exact ⟨rfl, (by repeat (first | (with_reducible exact Gx.refl _) | (with_reducible assumption) | (with_reducible refine Gx.gx ?_) | (with_reducible refine Gx.alloc ?_) | (with_reducible refine Gx.drew ?_) | (with_reducible refine Gx.drewN ?_) | (with_reducible refine Gx.setRow ?_ (by simp)) | (with_reducible refine Gx.setCell ?_ (by simp))))⟩
end
end Go.Proofs.YthkccbeffonaaaaGreatDoor

/-
  next, greatest, isSound, checkSectors of a new recorder: contracts.
-/
namespace Go.Proofs.YthkccbeffonaaaaGreatDoor
open Go.RowKit
-- AT2

set_option maxHeartbeats 1000000 in
set_option maxRecDepth 100000 in
theorem greatest_zero (m : PM) (hm : Good m) (A B C : Option Addr) (a b c : Nat) (i : Int) (w : World) (hR : RM w m A B C) (hno : ∀ k, k < m.sec.length → NoHead (m.s k)) :
    Calls Tryz.prog 148 #[memV m A B C a b c, .int .i64 i] w fun e w' => e = .returned (.int .i64 0) ∧ ∃ x, w' = gx w x := by
  obtain ⟨L, hL⟩ : ∃ L, L = 16 + 97 * m.slots := ⟨_, rfl⟩
  obtain ⟨gS, oS, rfl, hS⟩ := hR.sector hm hL
  have HS := Lib.hid hS
  have HN := Lib.hid hno
  have hbs := hm.bs
  have hwl := hm.wl
  have hbl := hm.bl
  have hn64 : m.sec.length ≤ 64 := by have := hm.sizes; unfold sizesOk at this; omega
  have hL16 : 16 ≤ L := by omega
  clear hS hno hm hL hR
  unfold memV
  rw [hwl, hbl]
  clear hwl hbl
  generalize hnn : m.sec.length = n at *
  go_enter Tryz.func148, Tryz.ntmps148
  go_wp2
  go_loopw [14, 5] (fun i v wr => ∃ k : Nat, k ≤ n ∧ i = .int .i64 k ∧ v = .int .i64 0 ∧ ∃ x, wr = gx (w.alloc (.cells #[.int .i64 m.slots, .int .i64 m.limit, .slice (some ⟨gS, oS, none⟩) n a, .slice B n b, .slice C n c] 26)) x) (fun i _ _ => n - (intOf i).toNat)
  case atStart => exact ⟨0, by omega, rfl, rfl, ⟨_, (gx_none _).symm⟩⟩
  case round =>
    obtain ⟨k, hk, rfl, rfl, y, rfl⟩ := hrel
    by_cases hlt : k < n
    · obtain ⟨b', q', c', hv, hc1, hc2, hcs⟩ := HS.out k (by omega)
      have hgS : gS < w.heap.size := World.block_lt_of_cell? w _ hv
      have hg1 : gS < w.heap.size + 1 := by omega
      have HC := Lib.hid hcs
      have hno' := HN.out k (by omega)
      have HN' := Lib.hid hno'
      clear hcs hno' hc1 hc2
      go_wp2_with (go_at_call 34; go_loud (refine (Head_off (m.s k) (hbs k) b' q' L c' hL16 _ ?_ HN'.out).mono ?_; (focus (intro j hj; exact cell_keep_gx (cell_keep_alloc (HC.out j (by omega))))); rintro e w' ⟨rfl, z, rfl⟩))
      go_roundw
      case rel => exact ⟨k + 1, by omega, by go_num, rfl, (by repeat (first | (with_reducible exact Gx.refl _) | (with_reducible assumption) | (with_reducible refine Gx.gx ?_) | (with_reducible refine Gx.alloc ?_) | (with_reducible refine Gx.drew ?_) | (with_reducible refine Gx.drewN ?_) | (with_reducible refine Gx.setRow ?_ (by simp)) | (with_reducible refine Gx.setCell ?_ (by simp))))⟩
      case measure => simp [intOf]; omega
    · obtain rfl : k = n := by omega
      go_wp2
      go_ret
      exact ⟨rfl, (by repeat (first | (with_reducible exact Gx.refl _) | (with_reducible assumption) | (with_reducible refine Gx.gx ?_) | (with_reducible refine Gx.alloc ?_) | (with_reducible refine Gx.drew ?_) | (with_reducible refine Gx.drewN ?_) | (with_reducible refine Gx.setRow ?_ (by simp)) | (with_reducible refine Gx.setCell ?_ (by simp))))⟩
section
variable {w : World} {m : PM} {gr gm gS gs : Nat} {A1 A2 : Option Addr} {c1 c2 c3 : Nat} {sec slot : Int} {fz st : Bool} {last : Int}
set_option maxHeartbeats 600000 in
set_option maxRecDepth 100000 in
theorem next_new (hR : RecRd w m gr gm gS gs A1 A2 c1 c2 c3 (-1) slot fz st last) (hM : RM w m (some ⟨gS, 0, none⟩) A1 A2) (hm : Good m) (h0 : gq m.bad 0 = false) (h1 : gw m.wear 0 < m.limit) :
    Calls Tryz.prog 147 #[.pointer (some ⟨gr, 0, none⟩), .int .i64 0] w fun e w' => e = .returned (.int .i64 0) ∧ ∃ x, w' = gx w x := by
  have hs := hm.sizes
  unfold sizesOk at hs
  have hn : 2 ≤ m.sec.length ∧ m.sec.length ≤ 64 := by omega
  obtain ⟨gW, oW, rfl, hWc⟩ := hM.wcell (by rw [hm.wl]; omega)
  obtain ⟨gB, oB, rfl, hBc⟩ := hM.bcell (by rw [hm.bl]; omega)
  have hw0 := hWc 0 (by rw [hm.wl]; omega)
  have hb0 := hBc 0 (by rw [hm.bl]; omega)
  rw [h0] at hb0
  rw [Nat.add_zero] at hw0 hb0
  have lW : gW < w.heap.size := World.block_lt_of_cell? w _ hw0
  have lB : gB < w.heap.size := World.block_lt_of_cell? w _ hb0
  have lW1 : gW < w.heap.size + 1 := by omega
  have lB1 : gB < w.heap.size + 1 := by omega
  have d1 : decide (gw m.wear 0 < m.limit) = true := decide_eq_true h1
  have hwl := hm.wl
  have hbl := hm.bl
  obtain ⟨l1, l2, l3, a0, a1, a2, a3, a4, a5, b0, b1, b2, b3, b4, e0, e1⟩ := hR
  have l1' : gr < w.heap.size + 1 := by omega
  have l3' : gs < w.heap.size + 1 := by omega
  rw [hwl] at b3
  rw [hbl] at b4
  clear hWc hBc hM hm hs h0 h1 a1 a3 a4 a5 e1 hwl hbl
  generalize hnn : m.sec.length = n at *
  have hn0 : ¬ (n : Int) = 0 := by omega
  have hp : decide ((0 : Int) < (n : Int)) = true := decide_eq_true (by omega)
  go_enter Tryz.func147, Tryz.ntmps147
  go_wp2
  refine wp_loop_once ?_
  go_wp2
  go_quiet (fail)
  go_wp2
  go_quiet (fail)
  go_wp2
  go_ret
  exact ⟨rfl, (by repeat (first | (with_reducible exact Gx.refl _) | (with_reducible assumption) | (with_reducible refine Gx.gx ?_) | (with_reducible refine Gx.alloc ?_) | (with_reducible refine Gx.drew ?_) | (with_reducible refine Gx.drewN ?_) | (with_reducible refine Gx.setRow ?_ (by simp)) | (with_reducible refine Gx.setCell ?_ (by simp))))⟩
end
end Go.Proofs.YthkccbeffonaaaaGreatDoor

/-
  isSound, checkSectors of a new recorder: contracts.
-/
namespace Go.Proofs.YthkccbeffonaaaaGreatDoor
open Go.RowKit
-- AT2

set_option maxHeartbeats 400000 in
set_option maxRecDepth 100000 in
theorem Sound_ok (G : List Int) (hF : Fr G) (hn : Narrow G) (hs : soundB G = true) (hw : wideB G = false) (w : World) (hT : Tab w) :
    Calls Tryz.prog 104 #[.agg (fc G)] w fun e w' => e = .returned (.bool true) ∧ ∃ x, w' = gx w x := by
  have hl := hF.len
  have HN := Lib.hid hn
  have HF := Lib.hid hF
  clear hn hF
  go_enter Tryz.func104, Tryz.ntmps104
  go_wp2_with (first | (refine load_fr rfl _ rfl _ rfl ?_ ?_ ?_ ?_; rotate_left; (focus (repeat (first | (with_reducible assumption) | (with_reducible exact At.new _ _) | (with_reducible refine At.row ?_) | (with_reducible refine At.app ?_) | (with_reducible refine At.tick ?_) | (with_reducible refine At.gx ?_) | ((with_reducible refine At.new' ?_); focus (simp; done)) | (with_reducible refine At.alloc ?_) | (with_reducible refine At.drew ?_) | (with_reducible exact Is.new _ _ _) | (with_reducible refine Is.row ?_) | (with_reducible refine Is.gx ?_) | ((with_reducible refine Is.new' ?_); focus (simp; done)) | (with_reducible refine Is.alloc ?_) | (with_reducible refine Is.drew ?_)))); (focus (with_reducible (first | exact hl | exact hl1 | exact hl2 | exact hl3 | exact hl4 | exact zeroF_len)))) | (go_at_call 139; go_loud (refine (isWide_any G HF.out _).mono ?_; rw [hw]; rintro e w' ⟨rfl, z, rfl⟩)) | (go_at_call 140; go_loud (refine (isSound_any G HF.out HN.out _ ?_).mono ?_; (focus (repeat (first | (with_reducible exact hT) | (with_reducible assumption) | (with_reducible refine Tab.gx ?_ _) | (with_reducible refine Tab.alloc ?_ _)))); rw [hs]; rintro e w' ⟨rfl, z, rfl⟩)))
  go_ret
  exact ⟨rfl, (by repeat (first | (with_reducible exact Gx.refl _) | (with_reducible assumption) | (with_reducible refine Gx.gx ?_) | (with_reducible refine Gx.alloc ?_) | (with_reducible refine Gx.drew ?_) | (with_reducible refine Gx.drewN ?_) | (with_reducible refine Gx.setRow ?_ (by simp)) | (with_reducible refine Gx.setCell ?_ (by simp))))⟩
section
variable {w : World} {m : PM} {gr gm gS gs : Nat} {A1 A2 : Option Addr} {c1 c2 c3 : Nat} {sec slot : Int} {fz st : Bool} {last : Int}
set_option maxHeartbeats 800000 in
set_option maxRecDepth 100000 in
theorem checkSectors_new (hR : RecRd w m gr gm gS gs A1 A2 c1 c2 c3 (-1) slot fz st last) (hM : RM w m (some ⟨gS, 0, none⟩) A1 A2) (hm : Good m) (h0 : gq m.bad 0 = false) (h1 : gw m.wear 0 < m.limit) (hno : ∀ k, k < m.sec.length → NoHead (m.s k)) (gl cl : Nat) (hl : w.cell? ⟨gl, 0, none⟩ = some (.int .i64 0)) :
    Calls Tryz.prog 115 #[.pointer (some ⟨gr, 0, none⟩), .slice (some ⟨gl, 0, none⟩) 1 cl] w fun e w' => e = .returned (.int .i64 0) ∧ ∃ x, w' = gx w x := by
  have HR := Lib.hid hR
  have HM := Lib.hid hM
  have HN := Lib.hid hno
  have Hh1 := Lib.hid h1
  have ll : gl < w.heap.size := World.block_lt_of_cell? w _ hl
  obtain ⟨l1, l2, l3, a0, a1, a2, a3, a4, a5, b0, b1, b2, b3, b4, e0, e1⟩ := hR
  clear hM hno h1 a1 a2 a3 a4 a5 e0 e1 l3
  go_enter Tryz.func115, Tryz.ntmps115
  go_wp2
  refine wp_loop_rounds 2 ?_
  rw [rounds_succ]
  go_wp2_with (first | (go_at_call 146; go_loud (refine (isFull_new HR.out).mono ?_; rintro e w' ⟨rfl, z1, rfl⟩)) | (go_at_call 147; go_loud (refine (next_new HR.out.gx HM.out.gx hm h0 Hh1.out).mono ?_; rintro e w' ⟨rfl, z2, rfl⟩)))
  rw [rounds_succ]
  go_wp2
  refine wp_loop_rounds 2 ?_
  rw [rounds_succ]
  go_wp2
  first | (with_reducible refine region_gxx (by kernel_rfl) (by kernel_rfl) ?_) | (with_reducible refine region_gx (by kernel_rfl) (by kernel_rfl) ?_)
  repeat (any_goals (first | (refine quiet_fr rfl _ rfl _ rfl ?_ ?_ ?_ ?_; rotate_left; (focus (rintro _ ⟨x, rfl⟩; (focus (repeat (first | (with_reducible assumption) | (with_reducible exact At.new _ _) | (with_reducible refine At.row ?_) | (with_reducible refine At.app ?_) | (with_reducible refine At.tick ?_) | (with_reducible refine At.gx ?_) | ((with_reducible refine At.new' ?_); focus (simp; done)) | (with_reducible refine At.alloc ?_) | (with_reducible refine At.drew ?_) | (with_reducible exact Is.new _ _ _) | (with_reducible refine Is.row ?_) | (with_reducible refine Is.gx ?_) | ((with_reducible refine Is.new' ?_); focus (simp; done)) | (with_reducible refine Is.alloc ?_) | (with_reducible refine Is.drew ?_)))))); (focus (with_reducible (first | exact hl | exact hl1 | exact hl2 | exact hl3 | exact hl4 | exact zeroF_len)))) | go_big_quiet_step ((first | (go_at_call 146; exact calls_gx (isFull_new HR.out.gx)) | (go_at_call 147; exact calls_gx (next_new HR.out.gx HM.out.gx hm h0 Hh1.out)) | (go_at_call 148; exact calls_gx (greatest_zero m hm _ _ _ _ _ _ _ _ HM.out.gx HN.out)))) | quiet_step ((first | (go_at_call 146; exact calls_gx (isFull_new HR.out.gx)) | (go_at_call 147; exact calls_gx (next_new HR.out.gx HM.out.gx hm h0 Hh1.out)) | (go_at_call 148; exact calls_gx (greatest_zero m hm _ _ _ _ _ _ _ _ HM.out.gx HN.out))))))
  refine wpQuiet_nil ?_
  rintro _ ⟨x, rfl⟩
  go_wp2
  rw [rounds_succ]
  go_wp2
  go_ret
  exact ⟨rfl, (by repeat (first | (with_reducible exact Gx.refl _) | (with_reducible assumption) | (with_reducible refine Gx.gx ?_) | (with_reducible refine Gx.alloc ?_) | (with_reducible refine Gx.drew ?_) | (with_reducible refine Gx.drewN ?_) | (with_reducible refine Gx.setRow ?_ (by simp)) | (with_reducible refine Gx.setCell ?_ (by simp))))⟩
end
end Go.Proofs.YthkccbeffonaaaaGreatDoor

/-
  What a recorder's state is behind a store.
-/
namespace Go.Proofs.YthkccbeffonaaaaGreatDoor
open Go.RowKit
-- AT2

theorem At.ne {W : World} {g g' : Nat} {cs cs' : Array Value} {t t' : TypeId} {f f' : Nat × Nat} (h : At W g (.cells cs t f)) (h' : At W g' (.cells cs' t' f')) (ht : t ≠ t') : g ≠ g' := by
  rintro rfl
  have := h.symm.trans h'
  simp only [Option.some.injEq, Obj.cells.injEq] at this
  exact ht this.2.1
theorem Own.row_ne {b : Nat} {W : World} {e : TypeId} {size : Nat} {v : Value} {n : Nat} {xs : List Value} {g : Nat} {cs : Array Value} (h : Own b W e size v n xs) (hne : v.ownBlock ≠ some g) : Own b (W.setRow g cs) e size v n xs := by
  have h' := h.out
  refine Own.mk' ⟨h'.1, h'.2.imp id ?_⟩
  rintro ⟨g', cap, cur, e1, e2, e3, r⟩
  have hg : g' ≠ g := by
    rintro rfl
    exact hne (by rw [e1]; rfl)
  exact ⟨g', cap, cur, e1, e2, (setRow_other W g g' cs hg).trans e3, r⟩
/-- The block of an own slice that has elements. -/
theorem Own.block {b : Nat} {W : World} {e : TypeId} {size : Nat} {A : Option Addr} {k c n : Nat} {xs : List Value} (h : Own b W e size (.slice A k c) n xs) (h0 : 0 < n) : ∃ g cur, A = some ⟨g, 0, none⟩ ∧ b ≤ g ∧ At W g (.cells cur e (0, 0)) ∧ cur.size = c * size ∧ n ≤ c ∧ c ≤ maxLen ∧ k = n ∧ cur.toList.take (n * size) = xs := by
  have h' := h.out
  rcases h'.2 with ⟨e1, h1⟩ | ⟨g, cap, cur, e1, hb, hA, h1, h2, h3, h4⟩
  · omega
  · simp only [Value.slice.injEq] at e1
    obtain ⟨rfl, rfl, rfl⟩ := e1
    exact ⟨g, cur, rfl, hb, hA, h3, h1, h2, rfl, h4⟩
/-- .. behind a store into it. -/
theorem Own.stored {b : Nat} {W : World} {e : TypeId} {size : Nat} {g c n : Nat} {xs : List Value} (h : Own b W e size (.slice (some ⟨g, 0, none⟩) n c) n xs) (h0 : 0 < n) (i : Nat) (_hi : i < n * size) (v : Value) : Own b (W.setCell ⟨g, i, none⟩ v) e size (.slice (some ⟨g, 0, none⟩) n c) n (xs.set i v) := by
  obtain ⟨g', cur, e1, hb, hA, h3, h1, h2, -, h4⟩ := h.block h0
  simp only [Option.some.injEq, Addr.mk.injEq, and_true] at e1
  subst e1
  rw [setCell_eq_setRow W g i cur e (0, 0) v hA]
  refine Own.mk' ⟨by rw [List.length_set, h.len], .inr ⟨g, c, _, rfl, hb, setRow_heap W g cur _ e _ hA, h1, h2, by simp [h3], ?_⟩⟩
  rw [Array.toList_setIfInBounds, List.take_set, h4]
theorem Secs.row_ne {b : Nat} {W : World} {L : Nat} {S : Nat → List Int} {Z : List (Nat × List Int)} {g : Nat} {cs cs' : Array Value} {t : TypeId} (h : Secs b W L S Z) (hA : At W g (.cells cs t (0, 0))) (ht : 5 ≠ t) : Secs b (W.setRow g cs') L S Z :=
  ⟨fun i p hp => by obtain ⟨h1, h2, h3⟩ := h.at_ i p hp; exact ⟨h1, h2.row_other (h2.ne hA ht), h3⟩, h.inc⟩
section
variable {b : Nat} {W : World} {m : PM} {gr gm gS : Nat} {A1 A2 A3 : Option Addr} {c1 c2 c3 : Nat} {Z : List (Nat × List Int)} {sec slot : Int} {fz st : Bool} {last : Int}
theorem RecSt.gx {x : Ext} (h : RecSt b W m gr gm gS A1 A2 A3 c1 c2 c3 Z sec slot fz st last) : RecSt b (gx W x) m gr gm gS A1 A2 A3 c1 c2 c3 Z sec slot fz st last :=
  ⟨h.br, h.bm, h.r.gx, h.mem.gx, h.om.gx, h.std.gx⟩
theorem RecSt.alloc {ob : Obj} (h : RecSt b W m gr gm gS A1 A2 A3 c1 c2 c3 Z sec slot fz st last) : RecSt b (W.alloc ob) m gr gm gS A1 A2 A3 c1 c2 c3 Z sec slot fz st last := by
  rw [alloc_is]
  exact h.gx
theorem Own.ne_of_type {e e' : TypeId} {size k c n : Nat} {A : Option Addr} {xs : List Value} {g : Nat} {cs : Array Value} {f : Nat × Nat} (h : Own b W e size (.slice A k c) n xs) (hA : At W g (.cells cs e' f)) (ht : e ≠ e') : (Value.slice A k c).ownBlock ≠ some g := by
  have h' := h.out
  rcases h'.2 with ⟨e1, -⟩ | ⟨g', cap, cur, e1, hb, hB, -⟩
  · rw [e1]; intro h2; cases h2
  · rw [e1]
    intro h2
    have : g' = g := by simpa [Value.ownBlock] using h2
    exact At.ne hB hA ht this
/-- The wear of a sector. -/
theorem RecSt.setWear (h : RecSt b W m gr gm gS A1 A2 A3 c1 c2 c3 Z sec slot fz st last) {gW : Nat} (hg : A1 = some ⟨gW, 0, none⟩) (i : Nat) (hi : i < m.wear.length) (v : Int) : RecSt b (W.setCell ⟨gW, i, none⟩ (.int .i64 v)) { m with wear := m.wear.set i v } gr gm gS A1 A2 A3 c1 c2 c3 Z sec slot fz st last := by
  subst hg
  obtain ⟨g', cur, e1, hb, hA, h3, h1, h2, -, h4⟩ := h.om.wear.block (by omega)
  simp only [Option.some.injEq, Addr.mk.injEq, and_true] at e1
  subst e1
  have hst := h.om.wear.stored (by omega) i (by omega) (.int .i64 v)
  have e := setCell_eq_setRow W gW i cur 3 (0, 0) (.int .i64 v) hA
  have hx : (iC m.wear).set i (.int .i64 v) = iC (m.wear.set i v) := by unfold iC; rw [List.map_set]
  rw [hx] at hst
  have hl : (m.wear.set i v).length = m.wear.length := List.length_set
  have hsec : ({ m with wear := m.wear.set i v } : PM).s = m.s := by funext i; unfold PM.s; rfl
  rw [e] at hst ⊢
  refine ⟨h.br, h.bm, h.r.row_other (h.r.ne hA (by decide)), ?_, ⟨h.om.fl, h.om.base, h.om.sec.row_other (h.om.sec.ne hA (by decide)), ?_, ?_, h.om.bad.row_ne (h.om.bad.ne_of_type hA (by decide))⟩, h.std.row_ne (h.std.ne_of_type hA (by decide))⟩
  · have := h.mem.row_other (cs' := cur.setIfInBounds i (.int .i64 v)) (h.mem.ne hA (by decide))
    unfold oC at *
    rw [hl]
    exact this
  · rw [hsec]
    exact Secs.row_ne h.om.secs hA (by decide)
  · show Own b _ 3 1 (.slice _ (m.wear.set i v).length c1) (m.wear.set i v).length (iC (m.wear.set i v))
    rw [hl]
    exact hst
/-- Where a recorder stands. -/
theorem RecSt.setStand (h : RecSt b W m gr gm gS A1 A2 A3 c1 c2 c3 Z sec slot fz st last) {gs : Nat} (hg : A3 = some ⟨gs, 0, none⟩) (sec' : Int) : RecSt b (W.setCell ⟨gs, 0, none⟩ (.int .i64 sec')) m gr gm gS A1 A2 A3 c1 c2 c3 Z sec' slot fz st last := by
  subst hg
  obtain ⟨g', cur, e1, hb, hA, h3, h1, h2, -, h4⟩ := h.std.block (by omega)
  simp only [Option.some.injEq, Addr.mk.injEq, and_true] at e1
  subst e1
  have hst := h.std.stored (by omega) 0 (by omega) (.int .i64 sec')
  have e := setCell_eq_setRow W gs 0 cur 150 (0, 0) (.int .i64 sec') hA
  rw [e] at hst ⊢
  exact ⟨h.br, h.bm, h.r.row_other (h.r.ne hA (by decide)), h.mem.row_other (h.mem.ne hA (by decide)), ⟨h.om.fl, h.om.base, h.om.sec.row_other (h.om.sec.ne hA (by decide)), h.om.secs.row_ne hA (by decide), h.om.wear.row_ne (h.om.wear.ne_of_type hA (by decide)), h.om.bad.row_ne (h.om.bad.ne_of_type hA (by decide))⟩, hst⟩
theorem RecSt.setSlot (h : RecSt b W m gr gm gS A1 A2 A3 c1 c2 c3 Z sec slot fz st last) {gs : Nat} (hg : A3 = some ⟨gs, 0, none⟩) (slot' : Int) : RecSt b (W.setCell ⟨gs, 1, none⟩ (.int .i64 slot')) m gr gm gS A1 A2 A3 c1 c2 c3 Z sec slot' fz st last := by
  subst hg
  obtain ⟨g', cur, e1, hb, hA, h3, h1, h2, -, h4⟩ := h.std.block (by omega)
  simp only [Option.some.injEq, Addr.mk.injEq, and_true] at e1
  subst e1
  have hst := h.std.stored (by omega) 1 (by omega) (.int .i64 slot')
  have e := setCell_eq_setRow W gs 1 cur 150 (0, 0) (.int .i64 slot') hA
  rw [e] at hst ⊢
  exact ⟨h.br, h.bm, h.r.row_other (h.r.ne hA (by decide)), h.mem.row_other (h.mem.ne hA (by decide)), ⟨h.om.fl, h.om.base, h.om.sec.row_other (h.om.sec.ne hA (by decide)), h.om.secs.row_ne hA (by decide), h.om.wear.row_ne (h.om.wear.ne_of_type hA (by decide)), h.om.bad.row_ne (h.om.bad.ne_of_type hA (by decide))⟩, hst⟩
/-- The bytes of the first sector. -/
theorem RecSt.setSec (h : RecSt b W m gr gm gS A1 A2 A3 c1 c2 c3 Z sec slot fz st last) (hm : 0 < m.sec.length) {g : Nat} {C C' : List Int} (hz : Z[0]? = some (g, C)) (hl : C'.length = C.length) (hb : Bs C') (S : List Int) (hS : ∀ j, j < 16 + 97 * m.slots → gw C' j = gw S j) :
    RecSt b (W.setRow g (bc C')) { m with sec := m.sec.set 0 S } gr gm gS A1 A2 A3 c1 c2 c3 (Z.set 0 (g, C')) sec slot fz st last := by
  obtain ⟨z1, z2, z3, z4, z5, z6⟩ := h.om.secs.at_ 0 _ hz
  have hs0 : ∀ i, i ≠ 0 → ({ m with sec := m.sec.set 0 S } : PM).s i = m.s i := fun i hi => by
    unfold PM.s
    simp only [List.getD_eq_getElem?_getD]
    rw [List.getElem?_set_ne (by omega)]
  have hs1 : ({ m with sec := m.sec.set 0 S } : PM).s 0 = S := by
    unfold PM.s
    simp [List.getD_eq_getElem?_getD, hm]
  have hlen : (m.sec.set 0 S).length = m.sec.length := List.length_set
  have hZ : 0 < Z.length := by rw [h.om.fl]; exact hm
  have hhdr : (Z.set 0 (g, C')).map (hdr (16 + 97 * m.slots)) = Z.map (hdr (16 + 97 * m.slots)) := by
    apply List.ext_getElem?
    intro i
    rw [List.getElem?_map, List.getElem?_map]
    by_cases hi : i = 0
    · subst hi
      rw [List.getElem?_set_self hZ, hz]
      simp [hdr, hl]
    · rw [List.getElem?_set_ne (by omega)]
  refine ⟨h.br, h.bm, h.r.row_other (h.r.ne z2 (by decide)), ?_, ⟨by rw [List.length_set, hlen]; exact h.om.fl, h.om.base, ?_, ⟨fun i p hp => ?_, fun i j p q hp hq hij => ?_⟩, h.om.wear.row_ne (h.om.wear.ne_of_type z2 (by decide)), h.om.bad.row_ne (h.om.bad.ne_of_type z2 (by decide))⟩, h.std.row_ne (h.std.ne_of_type z2 (by decide))⟩
  · have := h.mem.row_other (cs' := bc C') (h.mem.ne z2 (by decide))
    unfold oC at *
    rw [hlen]
    exact this
  · rw [hhdr]
    exact h.om.sec.row_other (h.om.sec.ne z2 (by decide))
  · by_cases hi : i = 0
    · subst hi
      rw [List.getElem?_set_self hZ] at hp
      obtain rfl := Option.some.inj hp
      rw [hs1]
      exact ⟨z1, At.row ⟨_, z2⟩, by rw [hl]; exact z3, by rw [hl]; exact z4, hb, hS⟩
    · rw [List.getElem?_set_ne (by omega)] at hp
      obtain ⟨y1, y2, y3⟩ := h.om.secs.at_ i p hp
      rw [hs0 i hi]
      have := h.om.secs.inc 0 i _ p hz hp (by omega)
      exact ⟨y1, y2.row_other (by simp at this; omega), y3⟩
  · have key : ∀ (i : Nat) (p : Nat × List Int), (Z.set 0 (g, C'))[i]? = some p → ∃ p', Z[i]? = some p' ∧ p'.1 = p.1 := by
      intro i p hp
      by_cases hi : i = 0
      · subst hi
        rw [List.getElem?_set_self hZ] at hp
        obtain rfl := Option.some.inj hp
        exact ⟨_, hz, rfl⟩
      · rw [List.getElem?_set_ne (by omega)] at hp
        exact ⟨p, hp, rfl⟩
    obtain ⟨p', hp', e1⟩ := key i p hp
    obtain ⟨q', hq', e2⟩ := key j q hq
    have := h.om.secs.inc i j p' q' hp' hq' hij
    omega
end
end Go.Proofs.YthkccbeffonaaaaGreatDoor

/-
  The bytes of a sector that is erased, and of one that has a head.
-/
namespace Go.Proofs.YthkccbeffonaaaaGreatDoor
open Go.RowKit
-- AT2
-- AT3

theorem Is.row_other {w : World} {g g' : Nat} {t : TypeId} {cs' : Array Value} (h : Is w g t) (hne : g ≠ g') : Is (w.setRow g' cs') g t := ⟨_, h.choose_spec.row_other hne⟩
/-- The bytes of an erased sector. -/
def erasedB (L : Nat) : List Int := List.replicate L 255
theorem gw_erased {L j : Nat} (h : j < L) : gw (erasedB L) j = 255 := by
  unfold erasedB gw
  simp [List.getD, h]
theorem erased_bs (L : Nat) : Bs (erasedB L) := fun j => by
  rcases Nat.lt_or_ge j L with h | h
  · rw [gw_erased h]; decide
  · have : gw (erasedB L) j = 0 := by
      unfold erasedB gw
      simp [List.getD, h]
    rw [this]; decide
theorem fill_erased {C : List Int} {L j : Nat} (hL : L ≤ C.length) (h : j < L) : gw (fillTo C 0 L) j = gw (erasedB L) j := by
  rw [gw_fillTo C 0 L (by omega), if_pos (by omega), gw_erased h]
theorem fill_bs {C : List Int} (hC : Bs C) {L : Nat} (hL : L ≤ C.length) : Bs (fillTo C 0 L) := fun j => by
  rw [gw_fillTo C 0 L (by omega)]
  split
  · decide
  · exact hC j
theorem erased_noHead {L : Nat} (hL : 16 ≤ L) : NoHead (erasedB L) := by
  right
  have e : hsTo (erasedB L) 4 = 4294967295 := by
    rw [← hsTo_succ, ← hsTo_succ, ← hsTo_succ, ← hsTo_succ, hsTo_0, gw_erased (by omega), gw_erased (by omega), gw_erased (by omega), gw_erased (by omega)]
    decide
  rw [e]
  decide
/-- The bytes of a sector that has a head alone. -/
def headedB (L : Nat) : List Int := sgTo 1 4 ++ List.replicate (L - 10) 255
theorem gw_headed {L j : Nat} (hL : 10 ≤ L) (h : j < L) : gw (headedB L) j = if j < 10 then gw (sgTo 1 4) j else 255 := by
  unfold headedB
  rw [gw_append, sgTo_len]
  by_cases hj : j < 10
  · rw [if_pos hj, if_pos hj]
  · rw [if_neg hj, if_neg hj]
    unfold gw
    have : j - 10 < L - 10 := by omega
    simp [List.getD, this]
theorem andB_255 : ∀ b : Int, 0 ≤ b → b < 256 → andB 255 b = b := by
  intro b h0 h1
  unfold andB
  obtain ⟨n, rfl⟩ := Int.eq_ofNat_of_zero_le h0
  have e := u8_and_nat 255 n (by omega) (by omega)
  have k : ∀ x : Fin 256, 255 &&& x.val = x.val := by decide +kernel
  have := k ⟨n, by omega⟩
  simp only at this
  rw [this] at e
  exact e
theorem and_bs {a b : Int} (ha : 0 ≤ a ∧ a ≤ 255) (hb : 0 ≤ b ∧ b ≤ 255) : 0 ≤ andB a b ∧ andB a b ≤ 255 := by
  unfold andB
  obtain ⟨x, rfl⟩ := Int.eq_ofNat_of_zero_le ha.1
  obtain ⟨y, rfl⟩ := Int.eq_ofNat_of_zero_le hb.1
  have e := u8_and_nat x y (by omega) (by omega)
  have : x &&& y ≤ x := Nat.and_le_left
  show 0 ≤ bits .and .u8 (x : Int) (y : Int) ∧ bits .and .u8 (x : Int) (y : Int) ≤ 255
  rw [e]
  omega
theorem sg_bs : Bs (sgTo 1 4) := by rw [sgTo_one]; exact lit_bs _ (by decide)
theorem wr_headed {C : List Int} {L j : Nat} (hL : L ≤ C.length) (h10 : 16 ≤ L) (h : j < L) : gw (wrB (fillTo C 0 L) (sgTo 1 4) 0 10) j = gw (headedB L) j := by
  have hb := sg_bs (j - 0)
  rw [gw_wrB _ _ _ _ (by rw [fillTo_len]; omega), gw_headed (by omega) h, gw_fillTo C 0 L (by omega)]
  by_cases hj : j < 10
  · rw [if_pos (by omega), if_pos hj, if_pos (by omega), andB_255 _ hb.1 (by omega), Nat.sub_zero]
  · rw [if_neg (by omega), if_neg hj, if_pos (by omega)]
theorem Good.setWear {m : PM} (h : Good m) (v : Int) (h0 : 0 ≤ v) (h1 : v ≤ m.limit) : Good { m with wear := m.wear.set 0 v } := by
  have hsec : ({ m with wear := m.wear.set 0 v } : PM).s = m.s := by funext i; unfold PM.s; rfl
  have hn := h.sizes
  unfold sizesOk at hn
  have hw := h.wl
  refine ⟨h.sizes, by rw [List.length_set]; exact h.wl, h.bl, fun i hi => by rw [hsec]; exact h.len i hi, fun i hi => ?_, fun i => by rw [hsec]; exact h.bs i⟩
  show 0 ≤ gw (m.wear.set 0 v) i ∧ gw (m.wear.set 0 v) i ≤ m.limit
  rw [gw_set _ _ _ _ (by omega)]
  split
  · exact ⟨h0, h1⟩
  · exact h.wear i hi
theorem setSec_s {m : PM} (h0 : 0 < m.sec.length) (S : List Int) (i : Nat) : ({ m with sec := m.sec.set 0 S } : PM).s i = if i = 0 then S else m.s i := by
  unfold PM.s
  simp only [List.getD_eq_getElem?_getD]
  split
  · next e => subst e; simp [h0]
  · rw [List.getElem?_set_ne (by omega)]
theorem Good.setSec {m : PM} (h : Good m) (S : List Int) (hl : S.length = 16 + 97 * m.slots) (hb : Bs S) : Good { m with sec := m.sec.set 0 S } := by
  have hn := h.sizes
  unfold sizesOk at hn
  have hlen : (m.sec.set 0 S).length = m.sec.length := List.length_set
  refine ⟨by show sizesOk (m.sec.set 0 S).length _ _; rw [hlen]; exact h.sizes, by show _ = (m.sec.set 0 S).length; rw [hlen]; exact h.wl, by show _ = (m.sec.set 0 S).length; rw [hlen]; exact h.bl, fun i hi => ?_, fun i hi => h.wear i (by have : i < (m.sec.set 0 S).length := hi; omega), fun i => ?_⟩
  · rw [setSec_s (by omega)]
    split
    · exact hl
    · exact h.len i (by have : i < (m.sec.set 0 S).length := hi; omega)
  · rw [setSec_s (by omega)]
    split
    · exact hb
    · exact h.bs i
theorem erased_len (L : Nat) : (erasedB L).length = L := by unfold erasedB; simp
theorem headed_len {L : Nat} (hL : 10 ≤ L) : (headedB L).length = L := by unfold headedB; simp [sgTo_len]; omega
end Go.Proofs.YthkccbeffonaaaaGreatDoor

/-
  open: a new recorder goes on to its first sector: the contract.
-/
namespace Go.Proofs.YthkccbeffonaaaaGreatDoor
open Go.RowKit
-- AT2
-- AT3

section
variable {b : Nat} {W : World} {m : PM} {gr gm gS gs : Nat} {A1 A2 : Option Addr} {c1 c2 c3 : Nat} {Z : List (Nat × List Int)} {fz st : Bool} {last : Int}
theorem RecSt.drew {A3 : Option Addr} {sec slot : Int} (h : RecSt b W m gr gm gS A1 A2 A3 c1 c2 c3 Z sec slot fz st last) : RecSt b W.drew m gr gm gS A1 A2 A3 c1 c2 c3 Z sec slot fz st last := by
  rw [drew_is]
  exact h.gx
theorem write_fulln (C D : List Int) (nD g q n c g2 q2 c2 : Nat) (p : Int) (hnD : D.length = nD) (hD : nD ≤ n) (hq : q + nD ≤ C.length) (hm : n ≤ 9223372036854775807) (hne : g2 ≠ g) (hp : (nD : Int) ≤ p) (hp' : p ≤ 9223372036854775807) (w : World) (hA : At w g (.cells (bc C) 5 (0, 0)))
    (hd : ∀ j, j < nD → w.cell? ⟨g2, q2 + j, none⟩ = some (.int .u8 (gw D j))) :
    Calls Tryz.prog 86 #[.slice (some ⟨g, q, none⟩) n c, .slice (some ⟨g2, q2, none⟩) nD c2, .int .i64 p] w fun e w' => e = .returned (.tuple #[.int .i64 (p - nD), .bool true]) ∧ ∃ x, w' = gx (w.setRow g (bc (wrB C D q nD))) x := by
  subst hnD
  exact write_full C D g q n c g2 q2 c2 p hD hq hm hne hp hp' w hA hd
theorem frozen_at {W : World} {g i : Nat} {cs : Array Value} {t : TypeId} (h : At W g (.cells cs t (0, 0))) : W.frozen? ⟨g, i, none⟩ = false := frozen_of_row W g _ _ _ h
set_option maxHeartbeats 400000 in
set_option maxRecDepth 100000 in
theorem open_new (wk : World) (hG : ∃ x, W = gx wk x) (hb : wk.heap.size ≤ b) (h : RecSt b W m gr gm gS A1 A2 (some ⟨gs, 0, none⟩) c1 c2 c3 Z (-1) 0 false false last) (hm : Good m) (h0 : gq m.bad 0 = false) (h1 : gw m.wear 0 < m.limit) (hno : ∀ k, k < m.sec.length → NoHead (m.s k)) (gd : Nat) (Cd : List Int) (hAd : At W gd (.cells (bc Cd) 5 (0, 0))) (hgd : ∀ q, Z[0]? = some q → gd ≠ q.1) (p : Int) (hp : 11 ≤ p) (hp' : p ≤ 1000000000) :
    Calls Tryz.prog 150 #[.pointer (some ⟨gr, 0, none⟩), .int .i64 0, .int .i64 p] W fun e w' => e = .returned (.tuple #[.int .i64 (p - 11), .bool true]) ∧ (∃ x, w' = gx wk x) ∧ At w' gd (.cells (bc Cd) 5 (0, 0)) ∧ ∃ Z', (∀ q, Z'[0]? = some q → ∃ q0, Z[0]? = some q0 ∧ q0.1 = q.1) ∧ RecSt b w' { m with wear := m.wear.set 0 (gw m.wear 0 + 1), sec := m.sec.set 0 (headedB (16 + 97 * m.slots)) } gr gm gS A1 A2 (some ⟨gs, 0, none⟩) c1 c2 c3 Z' 0 0 false false last := by
  have HS := Lib.hid h
  have HD0 := Lib.hid hAd
  have hs := hm.sizes
  unfold sizesOk at hs
  have hn0 : 0 < m.sec.length := by omega
  have hwl0 : 0 < m.wear.length := by rw [hm.wl]; exact hn0
  obtain ⟨L, hL⟩ : ∃ L, L = 16 + 97 * m.slots := ⟨_, rfl⟩
  obtain ⟨gW, cur, rfl, hbW, -⟩ := h.om.wear.block hwl0
  obtain ⟨⟨f0, C0⟩, hz0⟩ : ∃ q, Z[0]? = some q := ⟨_, List.getElem?_eq_getElem (by rw [h.om.fl]; exact hn0)⟩
  have hfd : gd ≠ f0 := hgd _ hz0
  obtain ⟨hbf, hAf, hCL, hCm, hCb, hCg⟩ := h.om.secs.at_ 0 _ hz0
  simp only [← hL, maxLen] at hCL hCm hCb hbf
  have hL16 : 16 ≤ L := by omega
  have hwr := hm.wear 0 hn0
  have hwrap : IntKind.i64.wrap (gw m.wear 0 + 1) = gw m.wear 0 + 1 := IntWalk.i64_in _ (by omega)
  have hm2 := hm.setWear (gw m.wear 0 + 1) (by omega) (by omega)
  have hm3 := hm2.setSec (erasedB L) (by rw [erased_len, hL]) (erased_bs L)
  have hno3 : ∀ k, k < m.sec.length → NoHead (({ m with wear := m.wear.set 0 (gw m.wear 0 + 1), sec := m.sec.set 0 (erasedB L) } : PM).s k) := fun k hk => by
    have := setSec_s (m := { m with wear := m.wear.set 0 (gw m.wear 0 + 1) }) hn0 (erasedB L) k
    rw [this]
    split
    · exact erased_noHead hL16
    · have e : ({ m with wear := m.wear.set 0 (gw m.wear 0 + 1) } : PM).s k = m.s k := by unfold PM.s; rfl
      rw [e]
      exact hno k hk
  have HGr : Hid (∀ V, RM V { m with wear := m.wear.set 0 (gw m.wear 0 + 1), sec := m.sec.set 0 (erasedB L) } (some ⟨gS, 0, none⟩) (some ⟨gW, 0, none⟩) A2 → Calls Tryz.prog 148 #[.agg #[.int .i64 m.slots, .int .i64 m.limit, .slice (some ⟨gS, 0, none⟩) m.sec.length m.sec.length, .slice (some ⟨gW, 0, none⟩) m.wear.length c1, .slice A2 m.bad.length c2], .int .i64 0] V fun e w' => e = .returned (.int .i64 0) ∧ ∃ x, w' = gx V x) := Lib.hid (fun V hV => by
    have := greatest_zero { m with wear := m.wear.set 0 (gw m.wear 0 + 1), sec := m.sec.set 0 (erasedB L) } hm3 (some ⟨gS, 0, none⟩) (some ⟨gW, 0, none⟩) A2 m.sec.length c1 c2 0 V hV (fun k hk => hno3 k (by simpa using hk))
    unfold memV at this
    simp only [List.length_set] at this
    exact this)
  have hR := h.rd rfl
  obtain ⟨l1, l2, l3, a0, a1, a2, a3, a4, a5, b0, b1, b2, b3, b4, e0, e1⟩ := hR
  have l1' : gr < W.heap.size + 1 := by omega
  have l2' : gm < W.heap.size + 1 := by omega
  have HL := Lib.hid hL
  have hLm : L ≤ 10000 := by omega
  clear a1 a3 a4 a5 e1 hs hno3 hno hAf hCg hL hgd hAd
  go_enter Tryz.func150, Tryz.ntmps150
  go_wp2_with (first | (go_at_call 147; go_loud (refine (next_new ((RecSt.alloc HS.out).rd rfl) ((RecSt.alloc HS.out).om.rm hm) hm h0 h1).mono ?_; rintro e W1 ⟨rfl, z1, hW1⟩; have hS1 : RecSt b W1 m gr gm gS (some ⟨gW, 0, none⟩) A2 (some ⟨gs, 0, none⟩) c1 c2 c3 Z (-1) 0 false false last := (hW1 ▸ RecSt.gx (RecSt.alloc HS.out)); have hT1 : At W1 W.heap.size (.cells #[.int .i64 m.slots, .int .i64 m.limit, .slice (some ⟨gS, 0, none⟩) m.sec.length m.sec.length, .slice (some ⟨gW, 0, none⟩) m.wear.length c1, .slice A2 m.bad.length c2] 26 (0, 0)) := (hW1 ▸ At.gx (At.new _ _)); have hG1 : ∃ x, W1 = gx wk x := (hW1 ▸ Gx.gx (Gx.alloc hG)); have hD1 : At W1 gd (.cells (bc Cd) 5 (0, 0)) := (hW1 ▸ At.gx (At.alloc HD0.out)); clear hW1; obtain ⟨gW', oW', eW, hWc⟩ := (hS1.om.rm hm).wcell hwl0; simp only [Option.some.injEq, Addr.mk.injEq, and_true] at eW; obtain ⟨rfl, rfl⟩ := eW; have w0 := hWc 0 hwl0; rw [Nat.zero_add] at w0; obtain ⟨gW2, cur1, eW2, -, hAW1, -⟩ := hS1.om.wear.block hwl0; simp only [Option.some.injEq, Addr.mk.injEq, and_true] at eW2; subst eW2; have zf : W1.frozen? ⟨gW, 0, none⟩ = false := frozen_at hAW1; have f3 : W1.cell? ⟨W.heap.size, 3, none⟩ = some (.slice (some ⟨gW, 0, none⟩) m.wear.length c1) := (by rw [cell_of_row W1 _ _ _ _ _ hT1]; rfl); have eV := setCell_eq_setRow W1 gW 0 cur1 3 (0, 0) (.int .i64 (gw m.wear 0 + 1)) hAW1; have hS2 : RecSt b (W1.setCell ⟨gW, 0, none⟩ (.int .i64 (gw m.wear 0 + 1))) { m with wear := m.wear.set 0 (gw m.wear 0 + 1) } gr gm gS (some ⟨gW, 0, none⟩) A2 (some ⟨gs, 0, none⟩) c1 c2 c3 Z (-1) 0 false false last := hS1.setWear rfl 0 hwl0 (gw m.wear 0 + 1); have hT2 : At (W1.setCell ⟨gW, 0, none⟩ (.int .i64 (gw m.wear 0 + 1))) W.heap.size (.cells #[.int .i64 m.slots, .int .i64 m.limit, .slice (some ⟨gS, 0, none⟩) m.sec.length m.sec.length, .slice (some ⟨gW, 0, none⟩) m.wear.length c1, .slice A2 m.bad.length c2] 26 (0, 0)) := (by rw [eV]; exact hT1.row_other (hT1.ne hAW1 (by decide))); have hG2 : ∃ x, W1.setCell ⟨gW, 0, none⟩ (.int .i64 (gw m.wear 0 + 1)) = gx wk x := (Gx.setCell hG1 (by omega)); have hD2 : At (W1.setCell ⟨gW, 0, none⟩ (.int .i64 (gw m.wear 0 + 1))) gd (.cells (bc Cd) 5 (0, 0)) := (by rw [eV]; exact hD1.row_other (hD1.ne hAW1 (by decide))); have DD2 := Lib.hid hD2; clear hD1 hD2; have f2 : (W1.setCell ⟨gW, 0, none⟩ (.int .i64 (gw m.wear 0 + 1))).cell? ⟨W.heap.size, 2, none⟩ = some (.slice (some ⟨gS, 0, none⟩) m.sec.length m.sec.length) := (by rw [cell_of_row _ _ _ _ _ _ hT2]; rfl); have k2 : (W1.setCell ⟨gW, 0, none⟩ (.int .i64 (gw m.wear 0 + 1))).cell? ⟨gS, 0, none⟩ = some (.slice (some ⟨f0, 0, none⟩) L C0.length) := (by rw [cell_of_row _ _ _ _ _ _ hS2.om.sec]; simp [hdr, hz0, ← HL.out]); have hA2' := (hS2.om.secs.at_ 0 _ hz0).2.1; have hSS2 := Lib.hid hS2; have hTT2 := Lib.hid hT2; have hGG2 := Lib.hid hG2; have hAA2 := Lib.hid hA2'; clear hS1 hT1 hG1 hWc hAW1 eV hS2 hT2 hG2 hA2')) | (go_at_call 88; go_loud (refine (erase_full C0 f0 0 L C0.length (by omega) (by omega) p (by omega) (by omega) _ hAA2.out).mono ?_; rintro e W3 ⟨rfl, z, hW3⟩; have hS3 : RecSt b W3 { m with wear := m.wear.set 0 (gw m.wear 0 + 1), sec := m.sec.set 0 (erasedB L) } gr gm gS (some ⟨gW, 0, none⟩) A2 (some ⟨gs, 0, none⟩) c1 c2 c3 (Z.set 0 (f0, fillTo C0 0 L)) (-1) 0 false false last := (hW3 ▸ RecSt.gx (hSS2.out.setSec hn0 hz0 (fillTo_len _ _ _) (fill_bs hCb hCL) (erasedB L) (fun j hj => fill_erased hCL (by rw [HL.out]; exact hj)))); have hT3 : At W3 W.heap.size (.cells #[.int .i64 m.slots, .int .i64 m.limit, .slice (some ⟨gS, 0, none⟩) m.sec.length m.sec.length, .slice (some ⟨gW, 0, none⟩) m.wear.length c1, .slice A2 m.bad.length c2] 26 (0, 0)) := (hW3 ▸ At.gx (hTT2.out.row_other (hTT2.out.ne hAA2.out (by decide)))); have hG3 : ∃ x, W3 = gx wk x := (hW3 ▸ Gx.gx (Gx.setRow hGG2.out (by omega))); have hD3 : At W3 gd (.cells (bc Cd) 5 (0, 0)) := (hW3 ▸ At.gx (DD2.out.row_other hfd)); have DD3 := Lib.hid hD3; clear hD3; clear hW3 f2 k2 w0 zf f3; have t0 : W3.cell? ⟨W.heap.size, 0, none⟩ = some (.int .i64 m.slots) := (by rw [cell_of_row W3 _ _ _ _ _ hT3]; rfl); have t1 : W3.cell? ⟨W.heap.size, 1, none⟩ = some (.int .i64 m.limit) := (by rw [cell_of_row W3 _ _ _ _ _ hT3]; rfl); have t2 : W3.cell? ⟨W.heap.size, 2, none⟩ = some (.slice (some ⟨gS, 0, none⟩) m.sec.length m.sec.length) := (by rw [cell_of_row W3 _ _ _ _ _ hT3]; rfl); have t3 : W3.cell? ⟨W.heap.size, 3, none⟩ = some (.slice (some ⟨gW, 0, none⟩) m.wear.length c1) := (by rw [cell_of_row W3 _ _ _ _ _ hT3]; rfl); have t4 : W3.cell? ⟨W.heap.size, 4, none⟩ = some (.slice A2 m.bad.length c2) := (by rw [cell_of_row W3 _ _ _ _ _ hT3]; rfl); have hSS3 := Lib.hid hS3; have hTT3 := Lib.hid hT3; have hGG3 := Lib.hid hG3; clear hS3 hT3 hG3)) | (go_at_call 148; go_loud (refine (HGr.out _ (hSS3.out.om.rm hm3)).mono ?_; rintro e W4 ⟨rfl, z, hW4⟩; have hS4 : RecSt b W4 { m with wear := m.wear.set 0 (gw m.wear 0 + 1), sec := m.sec.set 0 (erasedB L) } gr gm gS (some ⟨gW, 0, none⟩) A2 (some ⟨gs, 0, none⟩) c1 c2 c3 (Z.set 0 (f0, fillTo C0 0 L)) (-1) 0 false false last := (hW4 ▸ RecSt.gx hSS3.out); have hT4 : At W4 W.heap.size (.cells #[.int .i64 m.slots, .int .i64 m.limit, .slice (some ⟨gS, 0, none⟩) m.sec.length m.sec.length, .slice (some ⟨gW, 0, none⟩) m.wear.length c1, .slice A2 m.bad.length c2] 26 (0, 0)) := (hW4 ▸ At.gx hTT3.out); have hG4 : ∃ x, W4 = gx wk x := (hW4 ▸ Gx.gx hGG3.out); have hD4 : At W4 gd (.cells (bc Cd) 5 (0, 0)) := (hW4 ▸ At.gx DD3.out); have DD4 := Lib.hid hD4; clear hD4; clear hW4 t0 t1 t2 t3 t4; have hSS4 := Lib.hid hS4; have hTT4 := Lib.hid hT4; have hGG4 := Lib.hid hG4; clear hS4 hT4 hG4)) | (go_at_call 91; go_loud (refine (signOf_any 1 (by decide) (by decide) _).mono ?_; rintro e W5 ⟨rfl, z, hW5⟩; have hS5 : RecSt b W5 { m with wear := m.wear.set 0 (gw m.wear 0 + 1), sec := m.sec.set 0 (erasedB L) } gr gm gS (some ⟨gW, 0, none⟩) A2 (some ⟨gs, 0, none⟩) c1 c2 c3 (Z.set 0 (f0, fillTo C0 0 L)) (-1) 0 false false last := (hW5 ▸ RecSt.gx hSS4.out); have hT5 : At W5 W.heap.size (.cells #[.int .i64 m.slots, .int .i64 m.limit, .slice (some ⟨gS, 0, none⟩) m.sec.length m.sec.length, .slice (some ⟨gW, 0, none⟩) m.wear.length c1, .slice A2 m.bad.length c2] 26 (0, 0)) := (hW5 ▸ At.gx hTT4.out); have hG5 : ∃ x, W5 = gx wk x := (hW5 ▸ Gx.gx hGG4.out); have hD5 : At W5 gd (.cells (bc Cd) 5 (0, 0)) := (hW5 ▸ At.gx DD4.out); have DD5 := Lib.hid hD5; clear hD5; clear hW5; have hSS5 := Lib.hid hS5; have hTT5 := Lib.hid hT5; have hGG5 := Lib.hid hG5; clear hS5 hT5 hG5)) | (refine store_b10 rfl _ _ rfl _ rfl (sgTo 1 4) rfl (zerosI 10) ?_ (sgTo_len 1 4) (zerosI_len 10) ?_; (focus (repeat (first | (with_reducible assumption) | (with_reducible exact At.new _ _) | (with_reducible refine At.row ?_) | ((with_reducible refine At.row_other ?_ ?_); rotate_left; (focus (simp <;> omega))) | (with_reducible refine At.app ?_) | (with_reducible refine At.tick ?_) | (with_reducible refine At.gx ?_) | ((with_reducible refine At.new' ?_); focus (simp; done)) | (with_reducible refine At.alloc ?_) | (with_reducible refine At.drew ?_) | (with_reducible exact Is.new _ _ _) | (with_reducible refine Is.row ?_) | ((with_reducible refine Is.row_other ?_ ?_); rotate_left; (focus (simp <;> omega))) | (with_reducible refine Is.gx ?_) | ((with_reducible refine Is.new' ?_); focus (simp; done)) | (with_reducible refine Is.alloc ?_) | (with_reducible refine Is.drew ?_))))))
  rw [setRow_alloc_at _ _ _ _ _ _ rfl]
  have hS6 := Lib.hid (RecSt.alloc (ob := .cells (bc (sgTo 1 4)) 121) hSS5.out)
  have hT6 := Lib.hid (At.alloc (o' := .cells (bc (sgTo 1 4)) 121) hTT5.out)
  have hG6 := Lib.hid (Gx.alloc (o := .cells (bc (sgTo 1 4)) 121) hGG5.out)
  have DD6 := Lib.hid (At.alloc (o' := .cells (bc (sgTo 1 4)) 121) DD5.out)
  have hA6 := Lib.hid (At.new W5 (.cells (bc (sgTo 1 4)) 121))
  generalize hW6 : W5.alloc (.cells (bc (sgTo 1 4)) 121) = W6 at *
  clear hW6
  have f2 : W6.cell? ⟨W.heap.size, 2, none⟩ = some (.slice (some ⟨gS, 0, none⟩) m.sec.length m.sec.length) := by rw [cell_of_row _ _ _ _ _ _ hT6.out]; rfl
  have hZ0 : 0 < Z.length := (List.getElem?_eq_some_iff.1 hz0).1
  have hz6 : (Z.set 0 (f0, fillTo C0 0 L))[0]? = some (f0, fillTo C0 0 L) := List.getElem?_set_self hZ0
  have k2 : W6.cell? ⟨gS, 0, none⟩ = some (.slice (some ⟨f0, 0, none⟩) L C0.length) := by rw [cell_of_row _ _ _ _ _ _ hS6.out.om.sec]; simp [hdr, hZ0, ← HL.out, fillTo_len]
  have hAf6 := Lib.hid (hS6.out.om.secs.at_ 0 _ hz6).2.1
  have hsgc : Hid (∀ j, j < 10 → W6.cell? ⟨W5.heap.size, 0 + j, none⟩ = some (.int .u8 (gw (sgTo 1 4) j))) := Lib.hid (fun j hj => by
    rw [Nat.zero_add, cell_of_row _ _ _ _ _ _ hA6.out, bc_get _ _ (by rw [sgTo_len]; exact hj)])
  have hne6 := Lib.hid (hA6.out.ne hAf6.out (by decide))
  have hz6' := Lib.hid hz6
  clear hz6
  go_region_with (go_at_call 86; go_loud (refine (write_fulln (fillTo C0 0 L) (sgTo 1 4) 10 f0 0 L C0.length W5.heap.size 0 10 (p - 1) (sgTo_len 1 4) (by omega) (by rw [fillTo_len]; omega) (by omega) hne6.out (by omega) (by omega) _ ?_ ?_).mono ?_; (focus (first | exact hAf6.out | exact At.drew hAf6.out)); (focus (exact hsgc.out)); rintro e W7 ⟨rfl, z, hW7⟩; have hS7 := (hW7 ▸ RecSt.gx (RecSt.setSec hS6.out.drew (by simpa using hn0) hz6'.out (by rw [wrB_len]) (fun j => by rw [gw_wrB _ _ _ _ (by rw [fillTo_len]; omega)]; split; exact and_bs (fill_bs hCb hCL _) (sg_bs _); exact fill_bs hCb hCL j) (headedB L) (fun j hj => wr_headed hCL hL16 (by rw [HL.out]; simpa using hj))) : RecSt b W7 _ gr gm gS _ _ _ c1 c2 c3 _ (-1) 0 false false last); have hG7 : ∃ x, W7 = gx wk x := (hW7 ▸ Gx.gx (Gx.setRow (Gx.drew hG6.out) (by omega))); have hD7 : At W7 gd (.cells (bc Cd) 5 (0, 0)) := (hW7 ▸ At.gx (At.row_other (At.drew DD6.out) hfd)); have DD7 := Lib.hid hD7; clear hD7; clear hW7; have hSS7 := Lib.hid hS7; have hGG7 := Lib.hid hG7; clear hS7 hG7))
  all_goals
    obtain ⟨q1, q2, q3, x0, x1, x2, x3, x4, x5, y0, y1, y2, y3, y4, u0, u1⟩ := hSS7.out.rd rfl
    obtain ⟨gs', cur7, e7, -, hA7, -⟩ := hSS7.out.gs
    simp only [Option.some.injEq, Addr.mk.injEq, and_true] at e7
    subst e7
    have fz0 : W7.frozen? ⟨gs, 0, none⟩ = false := frozen_at hA7
    have fz1 : W7.frozen? ⟨gs, 1, none⟩ = false := frozen_at hA7
    have hbs : wk.heap.size ≤ gs := by
      obtain ⟨g9, c9, e9, h9, -⟩ := hSS7.out.gs
      simp only [Option.some.injEq, Addr.mk.injEq, and_true] at e9
      omega
    have hD8 : At ((W7.setCell ⟨gs, 0, none⟩ (.int .i64 0)).setCell ⟨gs, 1, none⟩ (.int .i64 0)) gd (.cells (bc Cd) 5 (0, 0)) := by
      have hn8 := DD7.out.ne hA7 (by decide)
      rw [setCell_eq_setRow W7 gs 0 cur7 _ (0, 0) _ hA7, setCell_eq_setRow _ gs 1 _ _ (0, 0) _ (setRow_heap W7 gs cur7 _ _ _ hA7)]
      exact (DD7.out.row_other hn8).row_other hn8
    have DD8 := Lib.hid hD8
    clear hD8
    clear hA7 x0 x1 x3 x4 x5 y0 y1 y2 y3 y4 f2 k2
    go_wp2
    go_ret2
    have hF := (hSS7.out.setStand rfl 0).setSlot rfl 0
    simp only [List.set_set] at hF
    rw [HL.out] at hF
    have hpp : p - 1 - 10 = p - 11 := by omega
    have hGf : ∃ x, (W7.setCell ⟨gs, 0, none⟩ (.int .i64 0)).setCell ⟨gs, 1, none⟩ (.int .i64 0) = gx wk x := Gx.setCell (Gx.setCell hGG7.out hbs) hbs
    exact ⟨by rw [← hpp]; rfl, hGf, DD8.out, _, fun q hq => ⟨_, hz0, by rw [List.getElem?_set_self hZ0] at hq; obtain rfl := Option.some.inj hq; rfl⟩, hF⟩
end
end Go.Proofs.YthkccbeffonaaaaGreatDoor

/-
  The bytes of a sector with a head and one frame.
-/
namespace Go.Proofs.YthkccbeffonaaaaGreatDoor
open Go.RowKit
-- AT2

/-- .. whose mark is not written yet. -/
def slotB (L : Nat) (D : List Int) : List Int := wrB (headedB L) D 16 96
/-- .. and is. -/
def doneB (L : Nat) (D : List Int) : List Int := wrB (slotB L D) [0] 112 1
theorem headed_bs (L : Nat) : Bs (headedB L) := fun j => by
  unfold headedB
  rw [gw_append]
  split
  · exact sg_bs j
  · have := erased_bs (L - 10) (j - (sgTo 1 4).length)
    unfold erasedB at this
    exact this
theorem wr_bs {C D : List Int} (hC : Bs C) (hD : Bs D) {q k : Nat} (h : q + k ≤ C.length) : Bs (wrB C D q k) := fun j => by
  rw [gw_wrB _ _ _ _ h]
  split
  · exact and_bs (hC _) (hD _)
  · exact hC j
theorem slot_len {L : Nat} (hL : 10 ≤ L) (D : List Int) : (slotB L D).length = L := by unfold slotB; rw [wrB_len, headed_len hL]
theorem done_len {L : Nat} (hL : 10 ≤ L) (D : List Int) : (doneB L D).length = L := by unfold doneB; rw [wrB_len, slot_len hL]
/-- What is written over bytes that read the same reads the same. -/
theorem wr_same {C C' D : List Int} {q k L : Nat} (h : q + k ≤ C.length) (h' : q + k ≤ C'.length) (hs : ∀ j, j < L → gw C j = gw C' j) (j : Nat) (hj : j < L) : gw (wrB C D q k) j = gw (wrB C' D q k) j := by
  rw [gw_wrB _ _ _ _ h, gw_wrB _ _ _ _ h', hs j hj]
theorem zero_bs : Bs [0] := lit_bs _ (by decide)
end Go.Proofs.YthkccbeffonaaaaGreatDoor

/-
  Head of a sector with a head and one frame: the contract.
-/
namespace Go.Proofs.YthkccbeffonaaaaGreatDoor
open Go.RowKit
-- AT2

theorem done_bs {L : Nat} (hL : 113 ≤ L) {D : List Int} (hD : Bs D) : Bs (doneB L D) := by
  unfold doneB slotB
  exact wr_bs (wr_bs (headed_bs L) hD (by rw [headed_len (by omega)]; omega)) zero_bs (by rw [wrB_len, headed_len (by omega)]; omega)
theorem gw_done {L : Nat} (hL : 113 ≤ L) (D : List Int) (j : Nat) : gw (doneB L D) j = if j = 112 then andB (gw (headedB L) 112) 0 else if 16 ≤ j ∧ j < 112 then andB (gw (headedB L) j) (gw D (j - 16)) else gw (headedB L) j := by
  unfold doneB slotB
  rw [gw_wrB _ _ _ _ (by rw [wrB_len, headed_len (by omega)]; omega), gw_wrB _ _ _ _ (by rw [headed_len (by omega)]; omega)]
  by_cases h : j = 112
  · subst h
    rw [if_pos (by omega), if_neg (by omega), if_pos rfl]
    have : gw [0] (112 - 112) = 0 := by unfold gw; decide
    rw [this]
  · rw [if_neg (by omega), if_neg h]
theorem done_head {L : Nat} (hL : 113 ≤ L) (D : List Int) {j : Nat} (h : j < 10) : gw (doneB L D) j = gw (sgTo 1 4) j := by
  rw [gw_done hL, if_neg (by omega), if_neg (by omega), gw_headed (by omega) (by omega), if_pos h]
theorem done_ten {L : Nat} (hL : 113 ≤ L) (D : List Int) : gw (doneB L D) 10 = 255 := by
  rw [gw_done hL, if_neg (by omega), if_neg (by omega), gw_headed (by omega) (by omega), if_neg (by omega)]
theorem hs_done {L : Nat} (hL : 113 ≤ L) (D : List Int) : hsTo (doneB L D) 4 = 1 := by
  rw [← hsTo_succ, ← hsTo_succ, ← hsTo_succ, ← hsTo_succ, hsTo_0, done_head hL D (by omega), done_head hL D (by omega), done_head hL D (by omega), done_head hL D (by omega), sgTo_one]
  unfold gw
  decide
theorem eqT_self {F : List Int} (hF : F.length = 10) : eqT F F = true := (eqT_iff hF hF).2 rfl
/-- .. whose number is 1, and which is not frozen. -/
theorem Head_done (L : Nat) (hL : 113 ≤ L) (D : List Int) (hD : Bs D) (b o n c : Nat) (hn : 16 ≤ n) (w : World) (hc : ∀ j, j < 16 → w.cell? ⟨b, o + j, none⟩ = some (.int .u8 (gw (doneB L D) j))) :
    Calls Tryz.prog 34 #[.slice (some ⟨b, o, none⟩) n c] w fun e w' => e = .returned (.tuple #[.int .i64 1, .bool false, .bool true]) ∧ ∃ x, w' = gx w x := by
  have h1 := hs_done hL D
  exact Head_in (doneB L D) (done_bs hL hD) b o n c hn w hc (by omega) (by omega) (sgTo 1 4) (sgTo_len 1 4) (fun j hj => (done_head hL D hj).symm) true (by rw [h1]; exact eqT_self (sgTo_len 1 4)) (1, false, true) (by rw [h1, done_ten hL D]; decide)
end Go.Proofs.YthkccbeffonaaaaGreatDoor

/-
  sectors, where the first one alone is headed: the contract.
-/
namespace Go.Proofs.YthkccbeffonaaaaGreatDoor
open Go.RowKit
-- AT2

theorem el_headed : Elem 172 174 2 16 := elem_of Tryz.underlying172 (by decide) (z := .agg #[.int .i64 0, .int .i64 0]) (by kernel_rfl) (by simp [Value.cells])
/-- What the list of headed sectors holds after k rounds. -/
def hdN (k : Nat) : Nat := if k = 0 then 0 else 1
def hdL (k : Nat) : List Value := if k = 0 then [] else [.int .i64 1, .int .i64 0]
theorem hdN_0 : hdN 0 = 0 := rfl
theorem hdN_s (k : Nat) : hdN (k + 1) = 1 := rfl
theorem hdL_0 : hdL 0 = [] := rfl
theorem hdL_s (k : Nat) : hdL (k + 1) = [.int .i64 1, .int .i64 0] := rfl
attribute [irreducible] hdN hdL
set_option maxHeartbeats 1000000 in
set_option maxRecDepth 100000 in
theorem sectors_first (m : PM) (hm : Good m) (A B C : Option Addr) (a b c : Nat) (w : World) (hR : RM w m A B C) (D : List Int) (hD : Bs D) (hd : m.s 0 = doneB (16 + 97 * m.slots) D) (h0 : gq m.bad 0 = false) (hno : ∀ k, 0 < k → k < m.sec.length → NoHead (m.s k)) :
    Calls Tryz.prog 81 #[memV m A B C a b c] w fun e w' => ∃ g x, e = .returned (.slice (some ⟨g, 0, none⟩) 1 1) ∧ w' = gx w x ∧ w.heap.size ≤ g ∧ At (gx w x) g (.cells (ic [0]) 3 (0, 0)) := by
  obtain ⟨L, hL⟩ : ∃ L, L = 16 + 97 * m.slots := ⟨_, rfl⟩
  have hs := hm.sizes
  unfold sizesOk at hs
  obtain ⟨gS, oS, rfl, hS⟩ := hR.sector hm hL
  rw [← hL] at hd
  have hL113 : 113 ≤ L := by omega
  have HS := Lib.hid hS
  have HN := Lib.hid hno
  have HD := Lib.hid hd
  have hbs := hm.bs
  have hwl := hm.wl
  have hbl := hm.bl
  have hpos : 0 < m.sec.length := by omega
  have hn64 : m.sec.length ≤ 64 := by omega
  obtain ⟨gB, oB, rfl, hcC⟩ := hR.bcell (by rw [hbl]; omega)
  have hb0 := hcC 0 (by rw [hbl]; omega)
  rw [h0] at hb0
  have hL16 : 16 ≤ L := by omega
  have hmk : ∀ W, (Instr.makeSlice 23 (.int .i64 1) (.int .i64 1)).run Tryz.prog W = .ok (.slice (some ⟨W.heap.size, 0, none⟩) 1 1) (W.alloc (.cells (ic (zerosI 1)) 3)) := fun W => make_ints 1 (by omega) W
  clear hS hno hm hL hR hs hd hcC h0
  unfold memV
  rw [hwl, hbl]
  clear hwl hbl
  generalize hnn : m.sec.length = n at *
  go_enter Tryz.func81, Tryz.ntmps81
  go_wp2
  go_loopw [15, 3] (fun i v wr => ∃ k : Nat, k ≤ n ∧ i = .int .i64 k ∧ (∃ x, wr = gx w x) ∧ Own (w.heap.size + 1) wr 174 2 v (hdN k) (hdL k) ∧ At wr w.heap.size (.cells #[.int .i64 m.slots, .int .i64 m.limit, .slice (some ⟨gS, oS, none⟩) n a, .slice B n b, .slice (some ⟨gB, oB, none⟩) n c] 26 (0, 0))) (fun i _ _ => n - (intOf i).toNat)
  case atStart => exact ⟨0, by omega, rfl, ⟨_, alloc_is _ _⟩, by rw [hdN_0, hdL_0]; exact Own.nil _ _ _ _, At.new _ _⟩
  case round =>
    obtain ⟨k, hk, rfl, ⟨y, rfl⟩, hO, hA⟩ := hrel
    by_cases hlt : k < n
    · obtain ⟨b', q', c', hv, hc1, hc2, hcs⟩ := HS.out k (by omega)
      have hgS : gS < w.heap.size := World.block_lt_of_cell? w _ hv
      have hgB : gB < w.heap.size := World.block_lt_of_cell? w _ hb0
      have HC := Lib.hid hcs
      have HA := Lib.hid hA
      have m2 : (gx w y).cell? ⟨w.heap.size, 2, none⟩ = some (.slice (some ⟨gS, oS, none⟩) n a) := by rw [cell_of_row _ _ _ _ _ _ hA]; rfl
      have m4 : (gx w y).cell? ⟨w.heap.size, 4, none⟩ = some (.slice (some ⟨gB, oB, none⟩) n c) := by rw [cell_of_row _ _ _ _ _ _ hA]; rfl
      have hv1 := cell_keep_gx (x := y) hv
      clear hcs hc1 hc2 hv
      rcases Nat.eq_zero_or_pos k with rfl | hk0
      · rw [HD.out] at HC
        rw [hdN_0, hdL_0] at hO
        rw [Nat.add_zero] at hv1
        have hb1' := hb0
        rw [Nat.add_zero] at hb1'
        clear hb0
        go_wp2_with (first | (go_at_call 34; go_loud (refine (Head_done L hL113 D hD b' q' L c' hL16 _ ?_).mono ?_; (focus (intro j hj; exact cell_keep_gx (HC.out j (by omega)))); rintro e w' ⟨rfl, z, rfl⟩; have n4 : (gx w (y.app z)).cell? ⟨w.heap.size, 4, none⟩ = some (.slice (some ⟨gB, oB, none⟩) n c) := (by rw [← gx_gx]; exact cell_keep_gx m4); have nb := cell_keep_gx (x := y.app z) hb1')) | (at_builtin; (with_reducible apply append_new (o := ⟨some 40, _, _, _, _, _⟩) el_headed w (w.heap.size + 1) (v := u3) (n := 0) (xs := []) (m := 1) (news := [.int .i64 1, .int .i64 0])); go_loud ((exact rfl; exact rfl; exact rfl; exact rfl; (focus omega); (focus (repeat (first | (with_reducible assumption) | (with_reducible exact Own.nil _ _ _ _) | (with_reducible refine Own.app ?_) | (with_reducible refine Own.tick ?_) | (with_reducible refine Own.gx ?_) | (with_reducible refine Own.alloc ?_) | (with_reducible refine Own.drew ?_) | (with_reducible refine Own.row ?_ (by omega))))); exact (by repeat (first | (with_reducible exact Gx.refl _) | (with_reducible assumption) | (with_reducible refine Gx.gx ?_) | (with_reducible refine Gx.alloc ?_) | (with_reducible refine Gx.drew ?_) | (with_reducible refine Gx.drewN ?_) | (with_reducible refine Gx.setRow ?_ (by simp)) | (with_reducible refine Gx.setCell ?_ (by simp)))); (focus (simp <;> omega)); exact rfl; (focus (repeat (first | (with_reducible assumption) | ((with_reducible apply Shows.whole); focus ((focus (repeat (first | (with_reducible assumption) | (with_reducible exact At.new _ _) | (with_reducible refine At.row ?_) | (with_reducible refine At.app ?_) | (with_reducible refine At.tick ?_) | (with_reducible refine At.gx ?_) | ((with_reducible refine At.new' ?_); focus (simp; done)) | (with_reducible refine At.alloc ?_) | (with_reducible refine At.drew ?_) | (with_reducible exact Is.new _ _ _) | (with_reducible refine Is.row ?_) | (with_reducible refine Is.gx ?_) | ((with_reducible refine Is.new' ?_); focus (simp; done)) | (with_reducible refine Is.alloc ?_) | (with_reducible refine Is.drew ?_)))); done)) | (with_reducible refine Shows.app ?_) | (with_reducible refine Shows.tick ?_) | (with_reducible refine Shows.gx ?_) | (with_reducible refine Shows.alloc ?_) | (with_reducible refine Shows.drew ?_)))); (focus (simp [Value.oneCell']; done)); (focus (simp only [maxLen]; omega)); (focus omega); (rintro v' W' hW' hO' hg')))))
        refine ⟨⟨1, by omega, rfl, hW', ?_, ?_⟩, by simp [intOf]; omega⟩
        · rw [hdN_s, hdL_s]
          simpa using hO'
        · refine At.grown ?_ hg' (fun e => by have := hO.lt _ e; omega)
          (focus (repeat (first | (with_reducible assumption) | (with_reducible exact At.new _ _) | (with_reducible refine At.row ?_) | (with_reducible refine At.app ?_) | (with_reducible refine At.tick ?_) | (with_reducible refine At.gx ?_) | ((with_reducible refine At.new' ?_); focus (simp; done)) | (with_reducible refine At.alloc ?_) | (with_reducible refine At.drew ?_) | (with_reducible exact Is.new _ _ _) | (with_reducible refine Is.row ?_) | (with_reducible refine Is.gx ?_) | ((with_reducible refine Is.new' ?_); focus (simp; done)) | (with_reducible refine Is.alloc ?_) | (with_reducible refine Is.drew ?_))))
      · have hno' := HN.out k hk0 (by omega)
        have HN' := Lib.hid hno'
        clear hno'
        go_wp2_with (go_at_call 34; go_loud (refine (Head_off (m.s k) (hbs k) b' q' L c' hL16 _ ?_ HN'.out).mono ?_; (focus (intro j hj; exact cell_keep_gx (HC.out j (by omega)))); rintro e w' ⟨rfl, z, rfl⟩))
        go_roundw
        case rel => exact ⟨k + 1, by omega, by go_num, (by repeat (first | (with_reducible exact Gx.refl _) | (with_reducible assumption) | (with_reducible refine Gx.gx ?_) | (with_reducible refine Gx.alloc ?_) | (with_reducible refine Gx.drew ?_) | (with_reducible refine Gx.drewN ?_) | (with_reducible refine Gx.setRow ?_ (by simp)) | (with_reducible refine Gx.setCell ?_ (by simp)))), by obtain ⟨j, rfl⟩ : ∃ j, k = j + 1 := ⟨k - 1, by omega⟩; rw [hdN_s, hdL_s] at *; (focus (repeat (first | (with_reducible assumption) | (with_reducible exact Own.nil _ _ _ _) | (with_reducible refine Own.app ?_) | (with_reducible refine Own.tick ?_) | (with_reducible refine Own.gx ?_) | (with_reducible refine Own.alloc ?_) | (with_reducible refine Own.drew ?_) | (with_reducible refine Own.row ?_ (by omega))))), by (focus (repeat (first | (with_reducible assumption) | (with_reducible exact At.new _ _) | (with_reducible refine At.row ?_) | (with_reducible refine At.app ?_) | (with_reducible refine At.tick ?_) | (with_reducible refine At.gx ?_) | ((with_reducible refine At.new' ?_); focus (simp; done)) | (with_reducible refine At.alloc ?_) | (with_reducible refine At.drew ?_) | (with_reducible exact Is.new _ _ _) | (with_reducible refine Is.row ?_) | (with_reducible refine Is.gx ?_) | ((with_reducible refine Is.new' ?_); focus (simp; done)) | (with_reducible refine Is.alloc ?_) | (with_reducible refine Is.drew ?_))))⟩
        case measure => simp [intOf]; omega
    · obtain rfl : k = n := by omega
      obtain ⟨j, rfl⟩ : ∃ j, k = j + 1 := ⟨k - 1, by omega⟩
      rw [hdN_s, hdL_s] at hO
      obtain ⟨A', c', hv', h1, h2, h3, h4⟩ := hO.is
      subst hv'
      unfold Shows at h4
      obtain ⟨gH, oH, rfl, hcH⟩ := h4 (by simp)
      have z0 := hcH 0 _ rfl
      have z1 := hcH 1 _ rfl
      rw [Nat.add_zero] at z0
      have ltH := World.block_lt_of_cell? _ _ z0
      clear hcH h3 hO hA
      go_wp2_with (go_at_call 129; go_loud (refine (SortFunc_one _ 1 _ (by omega) _ _).mono ?_; rintro e w' ⟨rfl, z, rfl⟩; have zz0 : (gx w (y.app z)).cell? ⟨gH, oH, none⟩ = some (.int .i64 1) := (by rw [← gx_gx]; exact cell_keep_gx z0); have zz1 : (gx w (y.app z)).cell? ⟨gH, oH + 1, none⟩ = some (.int .i64 0) := (by rw [← gx_gx]; exact cell_keep_gx z1); have ltz : gH < (gx w (y.app z)).heap.size := World.block_lt_of_cell? _ _ zz0; rw [size_gx] at ltz; have ltz1 : gH < w.heap.size + (y.app z).n + 1 := (by omega); have ltz2 : gH < w.heap.size + (y.app z).n + 1 + 1 := (by omega)))
      have hi0 : (ic (zerosI 1))[0]? = some (.int .i64 0) := by kernel_rfl
      refine wp_loop_rounds 2 ?_
      rw [rounds_succ]
      go_wp2
      rw [rounds_succ]
      go_wp2
      go_ret
      have e1 : ic ((zerosI 1).set 0 0) = ic [0] := by unfold zerosI; rfl
      rw [e1]
      obtain ⟨x, hx⟩ : ∃ x, ((gx w (y.app z)).alloc (.cells (ic [0]) 3)).alloc (.cells #[.int .i64 1, .int .i64 0] 174) = gx w x := (by repeat (first | (with_reducible exact Gx.refl _) | (with_reducible assumption) | (with_reducible refine Gx.gx ?_) | (with_reducible refine Gx.alloc ?_) | (with_reducible refine Gx.drew ?_) | (with_reducible refine Gx.drewN ?_) | (with_reducible refine Gx.setRow ?_ (by simp)) | (with_reducible refine Gx.setCell ?_ (by simp))))
      refine ⟨w.heap.size + (y.app z).n, x, rfl, hx, by omega, ?_⟩
      rw [← hx, ← size_gx w (y.app z)]
      exact At.alloc (At.new _ _)
end Go.Proofs.YthkccbeffonaaaaGreatDoor

/-
  SlotFrame: the contract.
-/
namespace Go.Proofs.YthkccbeffonaaaaGreatDoor
open Go.RowKit
-- AT2

set_option maxHeartbeats 600000 in
set_option maxRecDepth 100000 in
theorem SlotFrame_any (S : List Int) (hS : Bs S) (b o n c k i : Nat) (hn : n = 16 + 97 * k) (hnc : n ≤ c) (hcm : c ≤ 9223372036854775807) (hk : 1 ≤ k) (hk' : k ≤ 1048576) (hi : i < k) (w : World) (hc : ∀ j, j < n → w.cell? ⟨b, o + j, none⟩ = some (.int .u8 (gw S j))) :
    Calls Tryz.prog 38 #[.slice (some ⟨b, o, none⟩) n c, .int .i64 i] w fun e w' => e = .returned (.tuple #[.agg (fc (rdF (S.drop (16 + 97 * i)))), .int .i64 0]) ∧ ∃ x, w' = gx w x := by
  obtain ⟨q, hq⟩ : ∃ q, q = 16 + 97 * i := ⟨_, rfl⟩
  have hl := zeroF_len
  have hl1 := rdF_len (S.drop q)
  have hbw : b < w.heap.size := World.block_lt_of_cell? w _ (hc 0 (by omega))
  have hbs : Bs (S.drop q) := fun j => by rw [gw_drop]; exact hS _
  have Hc : Hid (∀ j, j < 96 → w.cell? ⟨b, o + q + j, none⟩ = some (.int .u8 (gw (S.drop q) j))) := Lib.hid (fun j hj => by rw [gw_drop, Nat.add_assoc]; exact hc (q + j) (by omega))
  have HN := Lib.hid hn
  have HQ := Lib.hid hq
  have Hk := Lib.hid hk
  have hlt : decide ((i : Int) < 0) = false := decide_eq_false (by omega)
  have hge : decide ((k : Int) ≤ (i : Int)) = false := decide_eq_false (by omega)
  have hsl : ∀ W, (Instr.sliceAt 257 (.pointer (some ⟨b, o + q, none⟩)) none (some (.int .i64 96)) none).run Tryz.prog W = .ok (.slice (some ⟨b, o + q, none⟩) 96 97) W := fun W => by
    have ht' : Tryz.prog.underlying 257 = some (.array (Tryz.prog.arrayLen 257) (Tryz.prog.elem 257)) := by simp [Program.elem, Program.arrayLen, Tryz.underlying257]
    have he : Tryz.prog.elem 257 = 5 := by simp [Program.elem, Tryz.underlying257]
    have hn : Tryz.prog.arrayLen 257 = 97 := by simp [Program.arrayLen, Tryz.underlying257]
    rw [run_sliceAt_array_h W 257 _ ht' .i64 _ (by omega) (by rw [hn]; omega), he, sizeByte, hn]
    simp [slicedAt, Addr.add]
  rw [← hq]
  clear hc hn hq hk
  go_enter Tryz.func38, Tryz.ntmps38
  go_wp2_with (first | (go_at_call 93; go_loud (refine (countSlots_ok _ n c k HN.out Hk.out hk' _).mono ?_; rintro e w' ⟨rfl, rfl⟩)) | (go_at_call 95; go_loud (refine (slotOf_any b o n c k i HN.out hnc hcm hk' hi _).mono ?_; rw [← HQ.out]; rintro e w' ⟨rfl, rfl⟩)) | (refine store_fr rfl _ _ rfl _ rfl _ rfl ?_ ?_ ?_ ?_ ?_; rotate_left; (focus (repeat (first | (with_reducible assumption) | (with_reducible exact At.new _ _) | (with_reducible refine At.row ?_) | (with_reducible refine At.app ?_) | (with_reducible refine At.tick ?_) | (with_reducible refine At.gx ?_) | ((with_reducible refine At.new' ?_); focus (simp; done)) | (with_reducible refine At.alloc ?_) | (with_reducible refine At.drew ?_) | (with_reducible exact Is.new _ _ _) | (with_reducible refine Is.row ?_) | (with_reducible refine Is.gx ?_) | ((with_reducible refine Is.new' ?_); focus (simp; done)) | (with_reducible refine Is.alloc ?_) | (with_reducible refine Is.drew ?_)))); (focus (with_reducible (first | exact hl | exact hl1 | exact hl2 | exact hl3 | exact hl4 | exact zeroF_len))); (focus (with_reducible (first | exact hl | exact hl1 | exact hl2 | exact hl3 | exact hl4 | exact zeroF_len)))) | (go_at_call 98; go_loud (refine (FromBytes_good (S.drop q) hbs b (o + q) 96 97 (by decide) (by decide) (by decide) (by decide) _ ?_).mono ?_; (focus (intro j hj; exact cell_keep_alloc (Hc.out j hj))); rintro e w' ⟨rfl, z, rfl⟩)))
  (refine ret_fr_tmp rfl _ _ _ ?_ rfl rfl ?_ ?_ ?_; rotate_left; (focus (repeat (first | (with_reducible assumption) | (with_reducible exact At.new _ _) | (with_reducible refine At.row ?_) | (with_reducible refine At.app ?_) | (with_reducible refine At.tick ?_) | (with_reducible refine At.gx ?_) | ((with_reducible refine At.new' ?_); focus (simp; done)) | (with_reducible refine At.alloc ?_) | (with_reducible refine At.drew ?_) | (with_reducible exact Is.new _ _ _) | (with_reducible refine Is.row ?_) | (with_reducible refine Is.gx ?_) | ((with_reducible refine Is.new' ?_); focus (simp; done)) | (with_reducible refine Is.alloc ?_) | (with_reducible refine Is.drew ?_)))); (focus (with_reducible (first | exact hl | exact hl1 | exact hl2 | exact hl3 | exact hl4 | exact zeroF_len))))
  exact ⟨rfl, (by repeat (first | (with_reducible exact Gx.refl _) | (with_reducible assumption) | (with_reducible refine Gx.gx ?_) | (with_reducible refine Gx.alloc ?_) | (with_reducible refine Gx.drew ?_) | (with_reducible refine Gx.drewN ?_) | (with_reducible refine Gx.setRow ?_ (by simp)) | (with_reducible refine Gx.setCell ?_ (by simp))))⟩
end Go.Proofs.YthkccbeffonaaaaGreatDoor

/-
  Frames: words of many frames; a slice of one frame.
-/
namespace Go.Proofs.YthkccbeffonaaaaGreatDoor
open Go.RowKit
-- AT2

/-- The words of the first k frames of bytes. -/
def frI (M : List Int) : Nat → List Int
  | 0 => []
  | k + 1 => frI M k ++ rdF (M.drop (96 * k))
theorem frI_0 (M : List Int) : frI M 0 = [] := rfl
theorem frI_succ (M : List Int) (k : Nat) : frI M k ++ rdF (M.drop (96 * k)) = frI M (k + 1) := rfl
theorem frI_len (M : List Int) : ∀ k, (frI M k).length = k * 64
  | 0 => rfl
  | k + 1 => by rw [← frI_succ, List.length_append, frI_len M k, rdF_len]; omega
attribute [irreducible] frI
/-- .. as cells. -/
def frC (M : List Int) (k : Nat) : List Value := (frI M k).map (Value.int .u16)
theorem frC_0 (M : List Int) : frC M 0 = [] := by unfold frC; rw [frI_0]; rfl
theorem frC_succ (M : List Int) (k : Nat) : frC M k ++ (rdF (M.drop (96 * k))).map (Value.int .u16) = frC M (k + 1) := by
  unfold frC
  rw [← frI_succ, List.map_append]
theorem frC_len (M : List Int) (k : Nat) : (frC M k).length = k * 64 := by
  unfold frC
  rw [List.length_map, frI_len]
attribute [irreducible] frC
theorem el_frame : Elem 68 57 64 128 := elem_of Tryz.underlying68 (by decide) (z := .agg (fc (List.replicate 64 0))) (by kernel_rfl) (by simp [Value.cells, fc_size])
/-- .. elements that the call has just made: with the wider bound on bytes. -/
theorem append_newW {t e : TypeId} {size bytes : Nat} (hE : Elem t e size bytes) {ops : Array Oper} {rest : List Oper} {o : Oper} {a : Act} {Q : Exit → Act → World → Prop} {W : World} (w : World) (b : Nat) {s x : Operand} {v : Value} {n : Nat} {xs : List Value} {g m : Nat} {news : List Value}
    (ho : o.op = .call { callee := .builtin .append, args := #[s, x], argTypes := #[t, t] }) (hgd : o.guard = none) (hs : a.eval s = v) (hx : a.eval x = .slice (some ⟨g, 0, none⟩) m m)
    (hb : w.heap.size ≤ b) (hown : Own b W e size v n xs) (hW : ∃ x, W = gx w x) (hbW : b ≤ W.heap.size) (hl : news.length = m * size) (hnews : Shows news (some ⟨g, 0, none⟩) W) (h1 : ∀ u ∈ news, u.oneCell' = true) (h63 : n + m ≤ maxLen) (hbytes : ((n + m) + (n + m) / 4 + 192) * bytes ≤ 281474976710656)
    (h : ∀ v' W', (∃ x, W' = gx w x) → Own b W' e size v' (n + m) (xs ++ news) → W.grownBy W' v.ownBlock → wpList Tryz.prog ops Q rest (a.put o.dst v') W') : wpList Tryz.prog ops Q (o :: rest) a W := by
  obtain ⟨ht, hp, i, z, hi, hz, hsize, hby, hzs⟩ := hE
  have own := hown.out
  have gxw : ∀ W' , W.grownBy W' v.ownBlock → ∃ x, W' = gx w x := fun W' hg => gx_of_grown hW hg fun k hk => by have := hown.lt k hk; omega
  refine wpList_append_own_wide W hgd s x t ho b e i z size bytes ht hi hz hsize hby hzs hp v n xs hs own ⟨g, 0, none⟩ m m news hx hl ?_ h1 h63 hbytes hbW fun v' W' h2 h3 _ => h v' W' (gxw W' h3) (Own.mk' h2) h3
  intro j u hu
  unfold Shows at hnews
  obtain ⟨g', o', e1, hc⟩ := hnews (by have := (List.getElem?_eq_some_iff.1 hu).1; omega)
  simp only [Option.some.injEq, Addr.mk.injEq, and_true] at e1
  obtain ⟨rfl, rfl⟩ := e1
  rw [Addr.add_lit]
  exact hc j u hu
/-- A slice of one frame. -/
theorem build_frame {ops : Array Oper} {rest : List Oper} {o : Oper} {a : Act} {w : World} {Q : Exit → Act → World → Prop} (hg : o.guard = none) (x : Operand) (ho : o.op = .buildSlice 68 1 #[(0, x)]) (B : List Int) (hx : a.eval x = .agg (fc B)) (hl : B.length = 64)
    (h : wpList Tryz.prog ops Q rest (a.put o.dst (.slice (some ⟨w.heap.size, 0, none⟩) 1 1)) (w.alloc (.cells (fc B) 57))) : wpList Tryz.prog ops Q (o :: rest) a w := by
  obtain ⟨ht, hp, i, z, hi, hz, hsize, hby, hzs⟩ := el_frame
  refine wpList_buildSlice hg 68 57 1 _ ho (fc B) i z ht hi hz (by rw [hsize]; omega) (by rw [hsize]; omega) ?_ h
  obtain ⟨r, hr, hs, hk⟩ := Great.fill_dense (s := 64) (by decide) [Value.agg (fc B)] 0 ((Array.range (1 * i.size)).map (z.cells[· % z.cells.size]!)) (by intro v hv; obtain rfl := List.mem_singleton.1 hv; simp [Value.cells, fc_size, hl]) (by simp [hsize])
  have e : (#[(0, x)].map fun (i, x) => (i, a.eval x)).toList = ([Value.agg (fc B)].zipIdx 0).map fun x => (x.2, x.1) := by simp [hx]
  rw [e, hsize] at *
  rw [hr]
  refine congrArg some ?_
  apply Array.ext_getElem?
  intro k
  have hk' := hk k
  rw [hk']
  by_cases hlt : k < 64
  · rw [if_pos (by simp; omega), Nat.div_eq_of_lt hlt, Nat.mod_eq_of_lt hlt]
    simp [Value.cells]
  · rw [if_neg (by simp; omega), Array.getElem?_eq_none (by simp; omega), Array.getElem?_eq_none (by rw [fc_size]; omega)]
/-- b[96:] -/
theorem slice96 (g o n c : Nat) (hn : 96 ≤ n) (hc : n ≤ c) : ∃ A, (∀ W, (Instr.slice 39 (.slice (some ⟨g, o, none⟩) n c) (some (.int .i64 96)) none none).run Tryz.prog W = .ok (.slice A (n - 96) (c - 96)) W) ∧ (96 < n → A = some ⟨g, o + 96, none⟩) := by
  by_cases hlt : 96 < c
  · exact ⟨_, fun W => slice_tail g o n c 96 hn hlt W, fun _ => rfl⟩
  · obtain rfl : c = 96 := by omega
    obtain rfl : n = 96 := by omega
    refine ⟨some ⟨g, o, none⟩, fun W => ?_, fun h => absurd h (by omega)⟩
    have ht' : Tryz.prog.underlying 39 = some (.slice (Tryz.prog.elem 39)) := by simp [Program.elem, Tryz.underlying39]
    have he : Tryz.prog.elem 39 = 5 := by simp [Program.elem, Tryz.underlying39]
    rw [run_slice_l W 39 _ _ _ ht' .i64 _ (by omega) (by omega), he, sizeByte]
    simp [Result.andThen, sliced]

end Go.Proofs.YthkccbeffonaaaaGreatDoor

/-
  A Kept value of a frame: how it is built.
-/
namespace Go.Proofs.YthkccbeffonaaaaGreatDoor
open Go.RowKit
-- AT2

/-- A frame that is kept in slot 0 of a sector 1. -/
def kpC (F : List Int) : List Value := [.int .i64 0, .int .i64 0, .int .i64 1, .int .i64 0] ++ F.map (Value.int .u16)
set_option maxRecDepth 100000 in
theorem built_kp (F : List Int) (hl : F.length = 64) : Tryz.prog.built 67 [(2, .int .i64 1), (3, .int .i64 0), (4, .agg (fc F))] = some (kpC F).toArray := by
  obtain ⟨x0, F0, rfl⟩ := List.exists_cons_of_length_eq_add_one (n := 63) hl
  have hl1 : F0.length = 63 := by simpa using hl
  clear hl
  obtain ⟨x1, F1, rfl⟩ := List.exists_cons_of_length_eq_add_one (n := 62) hl1
  have hl2 : F1.length = 62 := by simpa using hl1
  clear hl1
  obtain ⟨x2, F2, rfl⟩ := List.exists_cons_of_length_eq_add_one (n := 61) hl2
  have hl3 : F2.length = 61 := by simpa using hl2
  clear hl2
  obtain ⟨x3, F3, rfl⟩ := List.exists_cons_of_length_eq_add_one (n := 60) hl3
  have hl4 : F3.length = 60 := by simpa using hl3
  clear hl3
  obtain ⟨x4, F4, rfl⟩ := List.exists_cons_of_length_eq_add_one (n := 59) hl4
  have hl5 : F4.length = 59 := by simpa using hl4
  clear hl4
  obtain ⟨x5, F5, rfl⟩ := List.exists_cons_of_length_eq_add_one (n := 58) hl5
  have hl6 : F5.length = 58 := by simpa using hl5
  clear hl5
  obtain ⟨x6, F6, rfl⟩ := List.exists_cons_of_length_eq_add_one (n := 57) hl6
  have hl7 : F6.length = 57 := by simpa using hl6
  clear hl6
  obtain ⟨x7, F7, rfl⟩ := List.exists_cons_of_length_eq_add_one (n := 56) hl7
  have hl8 : F7.length = 56 := by simpa using hl7
  clear hl7
  obtain ⟨x8, F8, rfl⟩ := List.exists_cons_of_length_eq_add_one (n := 55) hl8
  have hl9 : F8.length = 55 := by simpa using hl8
  clear hl8
  obtain ⟨x9, F9, rfl⟩ := List.exists_cons_of_length_eq_add_one (n := 54) hl9
  have hl10 : F9.length = 54 := by simpa using hl9
  clear hl9
  obtain ⟨x10, F10, rfl⟩ := List.exists_cons_of_length_eq_add_one (n := 53) hl10
  have hl11 : F10.length = 53 := by simpa using hl10
  clear hl10
  obtain ⟨x11, F11, rfl⟩ := List.exists_cons_of_length_eq_add_one (n := 52) hl11
  have hl12 : F11.length = 52 := by simpa using hl11
  clear hl11
  obtain ⟨x12, F12, rfl⟩ := List.exists_cons_of_length_eq_add_one (n := 51) hl12
  have hl13 : F12.length = 51 := by simpa using hl12
  clear hl12
  obtain ⟨x13, F13, rfl⟩ := List.exists_cons_of_length_eq_add_one (n := 50) hl13
  have hl14 : F13.length = 50 := by simpa using hl13
  clear hl13
  obtain ⟨x14, F14, rfl⟩ := List.exists_cons_of_length_eq_add_one (n := 49) hl14
  have hl15 : F14.length = 49 := by simpa using hl14
  clear hl14
  obtain ⟨x15, F15, rfl⟩ := List.exists_cons_of_length_eq_add_one (n := 48) hl15
  have hl16 : F15.length = 48 := by simpa using hl15
  clear hl15
  obtain ⟨x16, F16, rfl⟩ := List.exists_cons_of_length_eq_add_one (n := 47) hl16
  have hl17 : F16.length = 47 := by simpa using hl16
  clear hl16
  obtain ⟨x17, F17, rfl⟩ := List.exists_cons_of_length_eq_add_one (n := 46) hl17
  have hl18 : F17.length = 46 := by simpa using hl17
  clear hl17
  obtain ⟨x18, F18, rfl⟩ := List.exists_cons_of_length_eq_add_one (n := 45) hl18
  have hl19 : F18.length = 45 := by simpa using hl18
  clear hl18
  obtain ⟨x19, F19, rfl⟩ := List.exists_cons_of_length_eq_add_one (n := 44) hl19
  have hl20 : F19.length = 44 := by simpa using hl19
  clear hl19
  obtain ⟨x20, F20, rfl⟩ := List.exists_cons_of_length_eq_add_one (n := 43) hl20
  have hl21 : F20.length = 43 := by simpa using hl20
  clear hl20
  obtain ⟨x21, F21, rfl⟩ := List.exists_cons_of_length_eq_add_one (n := 42) hl21
  have hl22 : F21.length = 42 := by simpa using hl21
  clear hl21
  obtain ⟨x22, F22, rfl⟩ := List.exists_cons_of_length_eq_add_one (n := 41) hl22
  have hl23 : F22.length = 41 := by simpa using hl22
  clear hl22
  obtain ⟨x23, F23, rfl⟩ := List.exists_cons_of_length_eq_add_one (n := 40) hl23
  have hl24 : F23.length = 40 := by simpa using hl23
  clear hl23
  obtain ⟨x24, F24, rfl⟩ := List.exists_cons_of_length_eq_add_one (n := 39) hl24
  have hl25 : F24.length = 39 := by simpa using hl24
  clear hl24
  obtain ⟨x25, F25, rfl⟩ := List.exists_cons_of_length_eq_add_one (n := 38) hl25
  have hl26 : F25.length = 38 := by simpa using hl25
  clear hl25
  obtain ⟨x26, F26, rfl⟩ := List.exists_cons_of_length_eq_add_one (n := 37) hl26
  have hl27 : F26.length = 37 := by simpa using hl26
  clear hl26
  obtain ⟨x27, F27, rfl⟩ := List.exists_cons_of_length_eq_add_one (n := 36) hl27
  have hl28 : F27.length = 36 := by simpa using hl27
  clear hl27
  obtain ⟨x28, F28, rfl⟩ := List.exists_cons_of_length_eq_add_one (n := 35) hl28
  have hl29 : F28.length = 35 := by simpa using hl28
  clear hl28
  obtain ⟨x29, F29, rfl⟩ := List.exists_cons_of_length_eq_add_one (n := 34) hl29
  have hl30 : F29.length = 34 := by simpa using hl29
  clear hl29
  obtain ⟨x30, F30, rfl⟩ := List.exists_cons_of_length_eq_add_one (n := 33) hl30
  have hl31 : F30.length = 33 := by simpa using hl30
  clear hl30
  obtain ⟨x31, F31, rfl⟩ := List.exists_cons_of_length_eq_add_one (n := 32) hl31
  have hl32 : F31.length = 32 := by simpa using hl31
  clear hl31
  obtain ⟨x32, F32, rfl⟩ := List.exists_cons_of_length_eq_add_one (n := 31) hl32
  have hl33 : F32.length = 31 := by simpa using hl32
  clear hl32
  obtain ⟨x33, F33, rfl⟩ := List.exists_cons_of_length_eq_add_one (n := 30) hl33
  have hl34 : F33.length = 30 := by simpa using hl33
  clear hl33
  obtain ⟨x34, F34, rfl⟩ := List.exists_cons_of_length_eq_add_one (n := 29) hl34
  have hl35 : F34.length = 29 := by simpa using hl34
  clear hl34
  obtain ⟨x35, F35, rfl⟩ := List.exists_cons_of_length_eq_add_one (n := 28) hl35
  have hl36 : F35.length = 28 := by simpa using hl35
  clear hl35
  obtain ⟨x36, F36, rfl⟩ := List.exists_cons_of_length_eq_add_one (n := 27) hl36
  have hl37 : F36.length = 27 := by simpa using hl36
  clear hl36
  obtain ⟨x37, F37, rfl⟩ := List.exists_cons_of_length_eq_add_one (n := 26) hl37
  have hl38 : F37.length = 26 := by simpa using hl37
  clear hl37
  obtain ⟨x38, F38, rfl⟩ := List.exists_cons_of_length_eq_add_one (n := 25) hl38
  have hl39 : F38.length = 25 := by simpa using hl38
  clear hl38
  obtain ⟨x39, F39, rfl⟩ := List.exists_cons_of_length_eq_add_one (n := 24) hl39
  have hl40 : F39.length = 24 := by simpa using hl39
  clear hl39
  obtain ⟨x40, F40, rfl⟩ := List.exists_cons_of_length_eq_add_one (n := 23) hl40
  have hl41 : F40.length = 23 := by simpa using hl40
  clear hl40
  obtain ⟨x41, F41, rfl⟩ := List.exists_cons_of_length_eq_add_one (n := 22) hl41
  have hl42 : F41.length = 22 := by simpa using hl41
  clear hl41
  obtain ⟨x42, F42, rfl⟩ := List.exists_cons_of_length_eq_add_one (n := 21) hl42
  have hl43 : F42.length = 21 := by simpa using hl42
  clear hl42
  obtain ⟨x43, F43, rfl⟩ := List.exists_cons_of_length_eq_add_one (n := 20) hl43
  have hl44 : F43.length = 20 := by simpa using hl43
  clear hl43
  obtain ⟨x44, F44, rfl⟩ := List.exists_cons_of_length_eq_add_one (n := 19) hl44
  have hl45 : F44.length = 19 := by simpa using hl44
  clear hl44
  obtain ⟨x45, F45, rfl⟩ := List.exists_cons_of_length_eq_add_one (n := 18) hl45
  have hl46 : F45.length = 18 := by simpa using hl45
  clear hl45
  obtain ⟨x46, F46, rfl⟩ := List.exists_cons_of_length_eq_add_one (n := 17) hl46
  have hl47 : F46.length = 17 := by simpa using hl46
  clear hl46
  obtain ⟨x47, F47, rfl⟩ := List.exists_cons_of_length_eq_add_one (n := 16) hl47
  have hl48 : F47.length = 16 := by simpa using hl47
  clear hl47
  obtain ⟨x48, F48, rfl⟩ := List.exists_cons_of_length_eq_add_one (n := 15) hl48
  have hl49 : F48.length = 15 := by simpa using hl48
  clear hl48
  obtain ⟨x49, F49, rfl⟩ := List.exists_cons_of_length_eq_add_one (n := 14) hl49
  have hl50 : F49.length = 14 := by simpa using hl49
  clear hl49
  obtain ⟨x50, F50, rfl⟩ := List.exists_cons_of_length_eq_add_one (n := 13) hl50
  have hl51 : F50.length = 13 := by simpa using hl50
  clear hl50
  obtain ⟨x51, F51, rfl⟩ := List.exists_cons_of_length_eq_add_one (n := 12) hl51
  have hl52 : F51.length = 12 := by simpa using hl51
  clear hl51
  obtain ⟨x52, F52, rfl⟩ := List.exists_cons_of_length_eq_add_one (n := 11) hl52
  have hl53 : F52.length = 11 := by simpa using hl52
  clear hl52
  obtain ⟨x53, F53, rfl⟩ := List.exists_cons_of_length_eq_add_one (n := 10) hl53
  have hl54 : F53.length = 10 := by simpa using hl53
  clear hl53
  obtain ⟨x54, F54, rfl⟩ := List.exists_cons_of_length_eq_add_one (n := 9) hl54
  have hl55 : F54.length = 9 := by simpa using hl54
  clear hl54
  obtain ⟨x55, F55, rfl⟩ := List.exists_cons_of_length_eq_add_one (n := 8) hl55
  have hl56 : F55.length = 8 := by simpa using hl55
  clear hl55
  obtain ⟨x56, F56, rfl⟩ := List.exists_cons_of_length_eq_add_one (n := 7) hl56
  have hl57 : F56.length = 7 := by simpa using hl56
  clear hl56
  obtain ⟨x57, F57, rfl⟩ := List.exists_cons_of_length_eq_add_one (n := 6) hl57
  have hl58 : F57.length = 6 := by simpa using hl57
  clear hl57
  obtain ⟨x58, F58, rfl⟩ := List.exists_cons_of_length_eq_add_one (n := 5) hl58
  have hl59 : F58.length = 5 := by simpa using hl58
  clear hl58
  obtain ⟨x59, F59, rfl⟩ := List.exists_cons_of_length_eq_add_one (n := 4) hl59
  have hl60 : F59.length = 4 := by simpa using hl59
  clear hl59
  obtain ⟨x60, F60, rfl⟩ := List.exists_cons_of_length_eq_add_one (n := 3) hl60
  have hl61 : F60.length = 3 := by simpa using hl60
  clear hl60
  obtain ⟨x61, F61, rfl⟩ := List.exists_cons_of_length_eq_add_one (n := 2) hl61
  have hl62 : F61.length = 2 := by simpa using hl61
  clear hl61
  obtain ⟨x62, F62, rfl⟩ := List.exists_cons_of_length_eq_add_one (n := 1) hl62
  have hl63 : F62.length = 1 := by simpa using hl62
  clear hl62
  obtain ⟨x63, F63, rfl⟩ := List.exists_cons_of_length_eq_add_one (n := 0) hl63
  have hl64 : F63.length = 0 := by simpa using hl63
  clear hl63
  obtain rfl := List.eq_nil_of_length_eq_zero hl64
  show Tryz.prog.built 67 _ = some _
  kernel_rfl
@[go_sem high] theorem build_kp (F : List Int) (hl : F.length = 64) (w : World) : (Instr.build 67 #[(2, .int .i64 1), (3, .int .i64 0), (4, .agg (fc F))]).run Tryz.prog w = .ok (.agg (kpC F).toArray) w :=
  run_build w _ _ _ (built_kp F hl)
theorem kpC_len (F : List Int) (hl : F.length = 64) : (kpC F).length = 68 := by unfold kpC; simp [hl]
theorem kpC_one (F : List Int) : ∀ u ∈ kpC F, u.oneCell' = true := by
  intro u hu
  unfold kpC at hu
  simp only [List.mem_append, List.mem_cons, List.not_mem_nil, or_false, List.mem_map] at hu
  rcases hu with (rfl | rfl | rfl | rfl) | ⟨a, -, rfl⟩ <;> simp [Value.oneCell']
set_option maxRecDepth 100000 in
theorem field_raw (F : List Int) (hl : F.length = 64) (w : World) : Sem.run Tryz.prog (Instr.field 67 (.agg (kpC F).toArray) 4) w = .ok (.agg (fc F)) w := by
  obtain ⟨x0, F0, rfl⟩ := List.exists_cons_of_length_eq_add_one (n := 63) hl
  have hl1 : F0.length = 63 := by simpa using hl
  clear hl
  obtain ⟨x1, F1, rfl⟩ := List.exists_cons_of_length_eq_add_one (n := 62) hl1
  have hl2 : F1.length = 62 := by simpa using hl1
  clear hl1
  obtain ⟨x2, F2, rfl⟩ := List.exists_cons_of_length_eq_add_one (n := 61) hl2
  have hl3 : F2.length = 61 := by simpa using hl2
  clear hl2
  obtain ⟨x3, F3, rfl⟩ := List.exists_cons_of_length_eq_add_one (n := 60) hl3
  have hl4 : F3.length = 60 := by simpa using hl3
  clear hl3
  obtain ⟨x4, F4, rfl⟩ := List.exists_cons_of_length_eq_add_one (n := 59) hl4
  have hl5 : F4.length = 59 := by simpa using hl4
  clear hl4
  obtain ⟨x5, F5, rfl⟩ := List.exists_cons_of_length_eq_add_one (n := 58) hl5
  have hl6 : F5.length = 58 := by simpa using hl5
  clear hl5
  obtain ⟨x6, F6, rfl⟩ := List.exists_cons_of_length_eq_add_one (n := 57) hl6
  have hl7 : F6.length = 57 := by simpa using hl6
  clear hl6
  obtain ⟨x7, F7, rfl⟩ := List.exists_cons_of_length_eq_add_one (n := 56) hl7
  have hl8 : F7.length = 56 := by simpa using hl7
  clear hl7
  obtain ⟨x8, F8, rfl⟩ := List.exists_cons_of_length_eq_add_one (n := 55) hl8
  have hl9 : F8.length = 55 := by simpa using hl8
  clear hl8
  obtain ⟨x9, F9, rfl⟩ := List.exists_cons_of_length_eq_add_one (n := 54) hl9
  have hl10 : F9.length = 54 := by simpa using hl9
  clear hl9
  obtain ⟨x10, F10, rfl⟩ := List.exists_cons_of_length_eq_add_one (n := 53) hl10
  have hl11 : F10.length = 53 := by simpa using hl10
  clear hl10
  obtain ⟨x11, F11, rfl⟩ := List.exists_cons_of_length_eq_add_one (n := 52) hl11
  have hl12 : F11.length = 52 := by simpa using hl11
  clear hl11
  obtain ⟨x12, F12, rfl⟩ := List.exists_cons_of_length_eq_add_one (n := 51) hl12
  have hl13 : F12.length = 51 := by simpa using hl12
  clear hl12
  obtain ⟨x13, F13, rfl⟩ := List.exists_cons_of_length_eq_add_one (n := 50) hl13
  have hl14 : F13.length = 50 := by simpa using hl13
  clear hl13
  obtain ⟨x14, F14, rfl⟩ := List.exists_cons_of_length_eq_add_one (n := 49) hl14
  have hl15 : F14.length = 49 := by simpa using hl14
  clear hl14
  obtain ⟨x15, F15, rfl⟩ := List.exists_cons_of_length_eq_add_one (n := 48) hl15
  have hl16 : F15.length = 48 := by simpa using hl15
  clear hl15
  obtain ⟨x16, F16, rfl⟩ := List.exists_cons_of_length_eq_add_one (n := 47) hl16
  have hl17 : F16.length = 47 := by simpa using hl16
  clear hl16
  obtain ⟨x17, F17, rfl⟩ := List.exists_cons_of_length_eq_add_one (n := 46) hl17
  have hl18 : F17.length = 46 := by simpa using hl17
  clear hl17
  obtain ⟨x18, F18, rfl⟩ := List.exists_cons_of_length_eq_add_one (n := 45) hl18
  have hl19 : F18.length = 45 := by simpa using hl18
  clear hl18
  obtain ⟨x19, F19, rfl⟩ := List.exists_cons_of_length_eq_add_one (n := 44) hl19
  have hl20 : F19.length = 44 := by simpa using hl19
  clear hl19
  obtain ⟨x20, F20, rfl⟩ := List.exists_cons_of_length_eq_add_one (n := 43) hl20
  have hl21 : F20.length = 43 := by simpa using hl20
  clear hl20
  obtain ⟨x21, F21, rfl⟩ := List.exists_cons_of_length_eq_add_one (n := 42) hl21
  have hl22 : F21.length = 42 := by simpa using hl21
  clear hl21
  obtain ⟨x22, F22, rfl⟩ := List.exists_cons_of_length_eq_add_one (n := 41) hl22
  have hl23 : F22.length = 41 := by simpa using hl22
  clear hl22
  obtain ⟨x23, F23, rfl⟩ := List.exists_cons_of_length_eq_add_one (n := 40) hl23
  have hl24 : F23.length = 40 := by simpa using hl23
  clear hl23
  obtain ⟨x24, F24, rfl⟩ := List.exists_cons_of_length_eq_add_one (n := 39) hl24
  have hl25 : F24.length = 39 := by simpa using hl24
  clear hl24
  obtain ⟨x25, F25, rfl⟩ := List.exists_cons_of_length_eq_add_one (n := 38) hl25
  have hl26 : F25.length = 38 := by simpa using hl25
  clear hl25
  obtain ⟨x26, F26, rfl⟩ := List.exists_cons_of_length_eq_add_one (n := 37) hl26
  have hl27 : F26.length = 37 := by simpa using hl26
  clear hl26
  obtain ⟨x27, F27, rfl⟩ := List.exists_cons_of_length_eq_add_one (n := 36) hl27
  have hl28 : F27.length = 36 := by simpa using hl27
  clear hl27
  obtain ⟨x28, F28, rfl⟩ := List.exists_cons_of_length_eq_add_one (n := 35) hl28
  have hl29 : F28.length = 35 := by simpa using hl28
  clear hl28
  obtain ⟨x29, F29, rfl⟩ := List.exists_cons_of_length_eq_add_one (n := 34) hl29
  have hl30 : F29.length = 34 := by simpa using hl29
  clear hl29
  obtain ⟨x30, F30, rfl⟩ := List.exists_cons_of_length_eq_add_one (n := 33) hl30
  have hl31 : F30.length = 33 := by simpa using hl30
  clear hl30
  obtain ⟨x31, F31, rfl⟩ := List.exists_cons_of_length_eq_add_one (n := 32) hl31
  have hl32 : F31.length = 32 := by simpa using hl31
  clear hl31
  obtain ⟨x32, F32, rfl⟩ := List.exists_cons_of_length_eq_add_one (n := 31) hl32
  have hl33 : F32.length = 31 := by simpa using hl32
  clear hl32
  obtain ⟨x33, F33, rfl⟩ := List.exists_cons_of_length_eq_add_one (n := 30) hl33
  have hl34 : F33.length = 30 := by simpa using hl33
  clear hl33
  obtain ⟨x34, F34, rfl⟩ := List.exists_cons_of_length_eq_add_one (n := 29) hl34
  have hl35 : F34.length = 29 := by simpa using hl34
  clear hl34
  obtain ⟨x35, F35, rfl⟩ := List.exists_cons_of_length_eq_add_one (n := 28) hl35
  have hl36 : F35.length = 28 := by simpa using hl35
  clear hl35
  obtain ⟨x36, F36, rfl⟩ := List.exists_cons_of_length_eq_add_one (n := 27) hl36
  have hl37 : F36.length = 27 := by simpa using hl36
  clear hl36
  obtain ⟨x37, F37, rfl⟩ := List.exists_cons_of_length_eq_add_one (n := 26) hl37
  have hl38 : F37.length = 26 := by simpa using hl37
  clear hl37
  obtain ⟨x38, F38, rfl⟩ := List.exists_cons_of_length_eq_add_one (n := 25) hl38
  have hl39 : F38.length = 25 := by simpa using hl38
  clear hl38
  obtain ⟨x39, F39, rfl⟩ := List.exists_cons_of_length_eq_add_one (n := 24) hl39
  have hl40 : F39.length = 24 := by simpa using hl39
  clear hl39
  obtain ⟨x40, F40, rfl⟩ := List.exists_cons_of_length_eq_add_one (n := 23) hl40
  have hl41 : F40.length = 23 := by simpa using hl40
  clear hl40
  obtain ⟨x41, F41, rfl⟩ := List.exists_cons_of_length_eq_add_one (n := 22) hl41
  have hl42 : F41.length = 22 := by simpa using hl41
  clear hl41
  obtain ⟨x42, F42, rfl⟩ := List.exists_cons_of_length_eq_add_one (n := 21) hl42
  have hl43 : F42.length = 21 := by simpa using hl42
  clear hl42
  obtain ⟨x43, F43, rfl⟩ := List.exists_cons_of_length_eq_add_one (n := 20) hl43
  have hl44 : F43.length = 20 := by simpa using hl43
  clear hl43
  obtain ⟨x44, F44, rfl⟩ := List.exists_cons_of_length_eq_add_one (n := 19) hl44
  have hl45 : F44.length = 19 := by simpa using hl44
  clear hl44
  obtain ⟨x45, F45, rfl⟩ := List.exists_cons_of_length_eq_add_one (n := 18) hl45
  have hl46 : F45.length = 18 := by simpa using hl45
  clear hl45
  obtain ⟨x46, F46, rfl⟩ := List.exists_cons_of_length_eq_add_one (n := 17) hl46
  have hl47 : F46.length = 17 := by simpa using hl46
  clear hl46
  obtain ⟨x47, F47, rfl⟩ := List.exists_cons_of_length_eq_add_one (n := 16) hl47
  have hl48 : F47.length = 16 := by simpa using hl47
  clear hl47
  obtain ⟨x48, F48, rfl⟩ := List.exists_cons_of_length_eq_add_one (n := 15) hl48
  have hl49 : F48.length = 15 := by simpa using hl48
  clear hl48
  obtain ⟨x49, F49, rfl⟩ := List.exists_cons_of_length_eq_add_one (n := 14) hl49
  have hl50 : F49.length = 14 := by simpa using hl49
  clear hl49
  obtain ⟨x50, F50, rfl⟩ := List.exists_cons_of_length_eq_add_one (n := 13) hl50
  have hl51 : F50.length = 13 := by simpa using hl50
  clear hl50
  obtain ⟨x51, F51, rfl⟩ := List.exists_cons_of_length_eq_add_one (n := 12) hl51
  have hl52 : F51.length = 12 := by simpa using hl51
  clear hl51
  obtain ⟨x52, F52, rfl⟩ := List.exists_cons_of_length_eq_add_one (n := 11) hl52
  have hl53 : F52.length = 11 := by simpa using hl52
  clear hl52
  obtain ⟨x53, F53, rfl⟩ := List.exists_cons_of_length_eq_add_one (n := 10) hl53
  have hl54 : F53.length = 10 := by simpa using hl53
  clear hl53
  obtain ⟨x54, F54, rfl⟩ := List.exists_cons_of_length_eq_add_one (n := 9) hl54
  have hl55 : F54.length = 9 := by simpa using hl54
  clear hl54
  obtain ⟨x55, F55, rfl⟩ := List.exists_cons_of_length_eq_add_one (n := 8) hl55
  have hl56 : F55.length = 8 := by simpa using hl55
  clear hl55
  obtain ⟨x56, F56, rfl⟩ := List.exists_cons_of_length_eq_add_one (n := 7) hl56
  have hl57 : F56.length = 7 := by simpa using hl56
  clear hl56
  obtain ⟨x57, F57, rfl⟩ := List.exists_cons_of_length_eq_add_one (n := 6) hl57
  have hl58 : F57.length = 6 := by simpa using hl57
  clear hl57
  obtain ⟨x58, F58, rfl⟩ := List.exists_cons_of_length_eq_add_one (n := 5) hl58
  have hl59 : F58.length = 5 := by simpa using hl58
  clear hl58
  obtain ⟨x59, F59, rfl⟩ := List.exists_cons_of_length_eq_add_one (n := 4) hl59
  have hl60 : F59.length = 4 := by simpa using hl59
  clear hl59
  obtain ⟨x60, F60, rfl⟩ := List.exists_cons_of_length_eq_add_one (n := 3) hl60
  have hl61 : F60.length = 3 := by simpa using hl60
  clear hl60
  obtain ⟨x61, F61, rfl⟩ := List.exists_cons_of_length_eq_add_one (n := 2) hl61
  have hl62 : F61.length = 2 := by simpa using hl61
  clear hl61
  obtain ⟨x62, F62, rfl⟩ := List.exists_cons_of_length_eq_add_one (n := 1) hl62
  have hl63 : F62.length = 1 := by simpa using hl62
  clear hl62
  obtain ⟨x63, F63, rfl⟩ := List.exists_cons_of_length_eq_add_one (n := 0) hl63
  have hl64 : F63.length = 0 := by simpa using hl63
  clear hl63
  obtain rfl := List.eq_nil_of_length_eq_zero hl64
  show Sem.run Tryz.prog _ w = .ok _ w
  kernel_rfl
theorem kp_set0 (F : List Int) : (kpC F).toArray.setIfInBounds 0 (.int .i64 0) = (kpC F).toArray := rfl
theorem kp_set1 (F : List Int) : (kpC F).toArray.setIfInBounds 1 (.int .i64 0) = (kpC F).toArray := rfl
theorem kpC_get (F : List Int) (j : Nat) : (kpC F)[j + 4]? = (F.map (Value.int .u16))[j]? := by unfold kpC; simp
theorem kpC_2 (F : List Int) : (kpC F)[2]? = some (.int .i64 1) := rfl
/-- The zero value. -/
def kZ : List Value := [.int .i64 0, .int .i64 0, .int .i64 0, .int .i64 0] ++ (List.replicate 64 (0 : Int)).map (Value.int .u16)
theorem kZ_len : kZ.length = 68 := by unfold kZ; simp
theorem info_kept : (Tryz.prog.info? 67).map (fun i => (i.zero, i.size)) = some (some (.agg kZ.toArray), 68) := by
  unfold kZ
  kernel_rfl
@[go_sem high] theorem zero_kept (w : World) : (zeroValue 67).run Tryz.prog w = .ok (.agg kZ.toArray) w := (zero_of_info info_kept).1 w
@[go_sem high] theorem zero_cells_kept : Tryz.zeroCells67 = kZ.toArray := by
  unfold kZ
  rfl
attribute [irreducible] kZ
attribute [irreducible] kpC
theorem el_kept : Elem 62 67 68 160 := elem_of Tryz.underlying62 (by decide) (z := .agg (#[.int .i64 0, .int .i64 0, .int .i64 0, .int .i64 0] ++ fc (List.replicate 64 0))) (by kernel_rfl) (by simp [Value.cells, fc_size])
/-- A slice of one such value. -/
theorem build_kept {ops : Array Oper} {rest : List Oper} {o : Oper} {a : Act} {w : World} {Q : Exit → Act → World → Prop} (hg : o.guard = none) (x : Operand) (ho : o.op = .buildSlice 62 1 #[(0, x)]) (B : List Value) (hx : a.eval x = .agg B.toArray) (hl : B.length = 68)
    (h : wpList Tryz.prog ops Q rest (a.put o.dst (.slice (some ⟨w.heap.size, 0, none⟩) 1 1)) (w.alloc (.cells B.toArray 67))) : wpList Tryz.prog ops Q (o :: rest) a w := by
  obtain ⟨ht, hp, i, z, hi, hz, hsize, hby, hzs⟩ := el_kept
  refine wpList_buildSlice hg 62 67 1 _ ho B.toArray i z ht hi hz (by rw [hsize]; omega) (by rw [hsize]; omega) ?_ h
  obtain ⟨r, hr, hs, hk⟩ := Great.fill_dense (s := 68) (by decide) [Value.agg B.toArray] 0 ((Array.range (1 * i.size)).map (z.cells[· % z.cells.size]!)) (by intro v hv; obtain rfl := List.mem_singleton.1 hv; simp [Value.cells, hl]) (by simp [hsize])
  have e : (#[(0, x)].map fun (i, x) => (i, a.eval x)).toList = ([Value.agg B.toArray].zipIdx 0).map fun x => (x.2, x.1) := by simp [hx]
  rw [e, hsize] at *
  rw [hr]
  refine congrArg some ?_
  apply Array.ext_getElem?
  intro k
  have hk' := hk k
  rw [hk']
  by_cases hlt : k < 68
  · rw [if_pos (by simp; omega), Nat.div_eq_of_lt hlt, Nat.mod_eq_of_lt hlt]
    simp [Value.cells]
  · rw [if_neg (by simp; omega), Array.getElem?_eq_none (by simp; omega), Array.getElem?_eq_none (by simp [hl]; omega)]
/-- .. at its operation. -/
theorem build_kpo {ops : Array Oper} {rest : List Oper} {o : Oper} {a : Act} {w : World} {Q : Exit → Act → World → Prop} (hg : o.guard = none) (x y z : Operand) (ho : o.op = .build 67 #[(2, x), (3, y), (4, z)]) (hx : a.eval x = .int .i64 1) (hy : a.eval y = .int .i64 0) (F : List Int) (hz : a.eval z = .agg (fc F)) (hl : F.length = 64)
    (h : wpList Tryz.prog ops Q rest (a.put o.dst (.agg (kpC F).toArray)) w) : wpList Tryz.prog ops Q (o :: rest) a w := by
  have hb := built_kp F hl
  have e : (#[(2, x), (3, y), (4, z)].map fun (i, x) => (i, a.eval x)).toList = [(2, .int .i64 1), (3, .int .i64 0), (4, .agg (fc F))] := by simp [hx, hy, hz]
  refine wpList_build hg _ _ ho ?_ ?_
  · rw [e, hb]; rfl
  · rw [e, hb]; exact h
/-- A field of it by value: the frame. -/
theorem field_kpo {ops : Array Oper} {rest : List Oper} {o : Oper} {a : Act} {w : World} {Q : Exit → Act → World → Prop} (hg : o.guard = none) (x : Operand) (ho : o.op = .field 67 x 4) (F : List Int) (hx : a.eval x = .agg (kpC F).toArray) (hl : F.length = 64)
    (h : wpList Tryz.prog ops Q rest (a.put o.dst (.agg (fc F))) w) : wpList Tryz.prog ops Q (o :: rest) a w := by
  refine wpList_plain hg fun K hK => ?_
  unfold Oper.wp execOp
  simp only [ho, hx, Sem.run_bind, field_raw F hl, Result.andThen_ok]
  exact hK _ _ h
section
variable {ops : Array Oper} {rest : List Oper} {o : Oper} {a : Act} {w : World} {Q : Exit → Act → World → Prop}
theorem load_kp (hw : Region.wanted o (yielded ops a.tmps) = true) (x : Operand) (ho : o.op = .load 67 x) (g : Nat) (hx : a.eval x = .pointer (some ⟨g, 0, none⟩)) (C : List Value) (hg : At w g (.cells C.toArray 67 (0, 0))) (hl : C.length = 68)
    (h : wpList Tryz.prog ops Q rest (a.put o.dst (.agg C.toArray)) w) : wpList Tryz.prog ops Q (o :: rest) a w :=
  BigFrame.wpList_want hw fun _ hK => wp_load_row _ x ho g hx _ _ _ _ hg Tryz.underlying67 rfl (by rw [List.size_toArray, hl]; kernel_rfl) (hK _ _ h)
theorem load_kpm (hgd : o.guard = none) (x : Operand) (ho : o.op = .load 67 x) (g q : Nat) (hx : a.eval x = .pointer (some ⟨g, q, none⟩)) (C : List Value) (hc : w.rangeAt g q C) (hl : C.length = 68)
    (h : wpList Tryz.prog ops Q rest (a.put o.dst (.agg C.toArray)) w) : wpList Tryz.prog ops Q (o :: rest) a w :=
  wpList_load_mid hgd _ x ho g q hx C _ hc Tryz.underlying67 rfl (by rw [hl]; kernel_rfl) h
theorem store_kp (hgd : o.guard = none) (x y : Operand) (ho : o.op = .store 67 x y) (g : Nat) (hx : a.eval x = .pointer (some ⟨g, 0, none⟩)) (C : List Value) (hy : a.eval y = .agg C.toArray) (E : List Value) (hg : At w g (.cells E.toArray 67 (0, 0))) (hl : C.length = 68) (hl' : E.length = 68) (h1 : ∀ u ∈ C, u.oneCell' = true)
    (h : wpList Tryz.prog ops Q rest (a.put o.dst undef) (w.setRow g C.toArray)) : wpList Tryz.prog ops Q (o :: rest) a w :=
  wpList_store_row hgd _ x y ho g _ hx hy _ _ hg (by rw [List.size_toArray, hl]; kernel_rfl) (by simp [hl, hl']) (all_oneCell_toArray h1) h
theorem kp_frame {F : List Int} {g : Nat} (h : At w g (.cells (kpC F).toArray 67 (0, 0))) : w.rangeAt g 4 (F.map (Value.int .u16)) := fun j v hv => by
  rw [cell_of_row w g _ _ _ _ h, List.getElem?_toArray, Nat.add_comm, kpC_get, hv]
/-- The frame in it. -/
theorem load_kpf (hgd : o.guard = none) (x : Operand) (ho : o.op = .load 57 x) (g : Nat) (hx : a.eval x = .pointer (some ⟨g, 4, none⟩)) (F : List Int) (hg : At w g (.cells (kpC F).toArray 67 (0, 0))) (hl : F.length = 64)
    (h : wpList Tryz.prog ops Q rest (a.put o.dst (.agg (fc F))) w) : wpList Tryz.prog ops Q (o :: rest) a w :=
  wpList_load_mid hgd _ x ho g 4 hx _ _ (kp_frame hg) Tryz.underlying57 rfl (by rw [List.length_map, hl]; kernel_rfl) h
theorem load_frm (hw : Region.wanted o (yielded ops a.tmps) = true) (x : Operand) (ho : o.op = .load 57 x) (g q : Nat) (hx : a.eval x = .pointer (some ⟨g, q, none⟩)) (F : List Int) (hc : w.rangeAt g q (F.map (Value.int .u16))) (hl : F.length = 64)
    (h : wpList Tryz.prog ops Q rest (a.put o.dst (.agg (fc F))) w) : wpList Tryz.prog ops Q (o :: rest) a w :=
  BigFrame.wpList_want hw fun _ hK => wp_load_mid _ x ho g q hx _ _ hc Tryz.underlying57 rfl (by rw [List.length_map, hl]; kernel_rfl) (hK _ _ h)
end
theorem rangeAt_gx {w : World} {g q : Nat} {C : List Value} {x : Ext} (h : w.rangeAt g q C) : (gx w x).rangeAt g q C := fun j v hv => cell_keep_gx (h j v hv)
theorem rangeAt_alloc' {w : World} {g q : Nat} {C : List Value} {ob : Obj} (h : w.rangeAt g q C) : (w.alloc ob).rangeAt g q C := World.rangeAt_alloc h ob
end Go.Proofs.YthkccbeffonaaaaGreatDoor
