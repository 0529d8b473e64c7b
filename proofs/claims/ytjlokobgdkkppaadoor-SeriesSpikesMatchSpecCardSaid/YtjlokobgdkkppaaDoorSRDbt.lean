/-
  Doubt, the reference's: a contract.
-/
import Derived.Test.YtjlokobgdkkppaaDoorSDbt2
namespace Go.Proofs.YtjlokobgdkkppaaDoor
open Go.RowKit
-- AT2
-- AT3

theorem step_append_all' {t e : TypeId} {size bytes : Nat} (hE : Elem t e size bytes) {ops : Array Oper} {o : Oper} {a : Act} {K : Act → World → Prop} {Q : Exit → Act → World → Prop} {E' : Prop} {W : World} (w : World) (b : Nat) {s x : Operand} {v : Value} {n : Nat} {xs : List Value} {A : Option Addr} {m c : Nat} {news : List Value}
    (ho : o.op = .call { callee := .builtin .append, args := #[s, x], argTypes := #[t, t] }) (hgd : o.guard = none) (hs : a.eval s = v) (hx : a.eval x = .slice A m c) (hN : A = none → m = 0 ∧ c = 0)
    (hb : w.heap.size ≤ b) (hown : Own b W e size v n xs) (hW : ∃ x, W = gx w x) (hbW : b ≤ W.heap.size) (hl : news.length = m * size) (hnews : Shows news A W) (h1 : ∀ u ∈ news, u.oneCell' = true) (h63 : n + m ≤ maxLen) (hbytes : (n + m) * bytes ≤ 140737488355328)
    (h : ∀ v' W', (∃ x, W' = gx w x) → Own b W' e size v' (n + m) (xs ++ news) → W.grownBy W' v.ownBlock → K (a.put o.dst v') W') : if Region.wanted o (yielded ops a.tmps) = true then Oper.wp Tryd.prog o a W K Q else E' := by
  rw [if_pos (by simp [Region.wanted, hgd])]
  obtain ⟨ht, hp, i, z, hi, hz, hsize, hby, hzs⟩ := hE
  have gxw : ∀ W' , W.grownBy W' v.ownBlock → ∃ x, W' = gx w x := fun W' hg => gx_of_grown hW hg fun k hk => by have := hown.lt k hk; omega
  cases A with
  | none =>
    obtain ⟨rfl, rfl⟩ := hN rfl
    have hn : news = [] := List.eq_nil_of_length_eq_zero (by simpa using hl)
    subst hn
    have hr := run_append_owned_none (P := Tryd.prog) W b t o.type e i size ht hi v n xs hown.out
    unfold Oper.wp execOp
    simp only [ho, resolve, invoke, builtin, Sem.run_bind, Sem.run_pure, Result.andThen_ok, List.map_toArray, List.map_cons, List.map_nil, hs, hx, hr]
    exact h v W hW (by simpa using hown) ⟨rfl, rfl, rfl, Nat.le_refl _, fun _ _ _ => rfl⟩
  | some ad =>
    refine wp_append_own W s x t ho b e i z size bytes ht hi hz hsize hby hzs hp v n xs hs hown.out ad m c news hx hl ?_ h1 h63 hbytes hbW fun v' W' h2 h3 _ => h v' W' (gxw W' h3) (Own.mk' h2) h3
    intro j u hu
    unfold Shows at hnews
    obtain ⟨g', o', e1, hc⟩ := hnews (by have := (List.getElem?_eq_some_iff.1 hu).1; omega)
    obtain rfl := Option.some.inj e1
    rw [Addr.add_lit]
    exact hc j u hu
set_option maxHeartbeats 4000000 in
set_option maxRecDepth 100000 in
theorem RDoubt_go (den : Int) (g : Nat → Sm) (n c : Nat) (A : Option Addr) (hN : A = none → n = 0 ∧ c = 0) (z : Nat → Int) (m cB : Nat) (B : Option Addr) (hm : m ≤ 9223372036854775807) (w : World) (hL : SmAt w g n A) (hB : IAt w z m B) (h0 : serE den g n = 0) (D E : Int) (N : Nat)
    (H1 : Hid (dbtE den g n z m = 0 → D = den ∧ N = n ∧ E = 0)) (H2 : Hid (∀ e, dbtE den g n z m = e → e ≠ 0 → D = 0 ∧ N = 0 ∧ E = e)) :
    Calls Tryd.prog 30 #[serV den A n c, .slice B m cB] w (SerPost w D (dbtF g z m) N E) := by
  obtain ⟨_, hn, hG⟩ := goodS_of h0
  have hLw : SmAt ((w.alloc (.cells #[.int .i64 den, .slice A n c] 24)).alloc (.cells #[.int .i64 0, .slice none 0 0] 24)) g n A := hL.alloc.alloc
  have HC := fun W h => RCheck_any den g n c A W h
  rw [h0] at HC
  have Hser := Lib.hid h0
  clear h0
  go_enter Tryd.func30, Tryd.ntmps30
  go_wp2_with (go_at_call 13; refine (HC _ hLw).mono ?_; rintro e w' ⟨rfl, z1, rfl⟩)
  obtain ⟨W1, hW1⟩ : ∃ W1, W1 = gx ((w.alloc (.cells #[.int .i64 den, .slice A n c] 24)).alloc (.cells #[.int .i64 0, .slice none 0 0] 24)) z1 := ⟨_, rfl⟩
  rw [← hW1]
  have G1 : ∃ x, W1 = gx w x := by rw [hW1]; exact (by repeat (first | (with_reducible exact Gx.refl _) | (with_reducible assumption) | (with_reducible refine Gx.gx ?_) | (with_reducible refine Gx.alloc ?_) | (with_reducible refine Gx.drew ?_) | (with_reducible refine Gx.drewN ?_) | (with_reducible refine Gx.setRow ?_ (by first | omega | (simp; done) | (simp <;> omega))) | (with_reducible refine Gx.setCell ?_ (by first | omega | (simp; done) | (simp <;> omega)))))
  have S1 : At W1 w.heap.size (.cells #[.int .i64 den, .slice A n c] 24 (0, 0)) := by rw [hW1]; (focus (repeat (first | (with_reducible assumption) | (with_reducible exact At.new _ _) | (with_reducible refine At.row ?_) | ((with_reducible refine At.row_other ?_ ?_); rotate_left; (focus (simp <;> omega))) | (with_reducible refine At.app ?_) | (with_reducible refine At.tick ?_) | (with_reducible refine At.gx ?_) | ((with_reducible refine At.new' ?_); focus (simp; done)) | (with_reducible refine At.alloc ?_) | (with_reducible refine At.drew ?_) | (with_reducible exact Is.new _ _ _) | (with_reducible refine Is.row ?_) | ((with_reducible refine Is.row_other ?_ ?_); rotate_left; (focus (simp <;> omega))) | (with_reducible refine Is.gx ?_) | ((with_reducible refine Is.new' ?_); focus (simp; done)) | (with_reducible refine Is.alloc ?_) | (with_reducible refine Is.drew ?_))))
  have R1 : At W1 (w.heap.size + 1) (.cells #[.int .i64 0, .slice none 0 0] 24 (0, 0)) := by rw [hW1]; (focus (repeat (first | (with_reducible assumption) | (with_reducible exact At.new _ _) | (with_reducible refine At.row ?_) | ((with_reducible refine At.row_other ?_ ?_); rotate_left; (focus (simp <;> omega))) | (with_reducible refine At.app ?_) | (with_reducible refine At.tick ?_) | (with_reducible refine At.gx ?_) | ((with_reducible refine At.new' ?_); focus (simp; done)) | (with_reducible refine At.alloc ?_) | (with_reducible refine At.drew ?_) | (with_reducible exact Is.new _ _ _) | (with_reducible refine Is.row ?_) | ((with_reducible refine Is.row_other ?_ ?_); rotate_left; (focus (simp <;> omega))) | (with_reducible refine Is.gx ?_) | ((with_reducible refine Is.new' ?_); focus (simp; done)) | (with_reducible refine Is.alloc ?_) | (with_reducible refine Is.drew ?_))))
  have l1 : w.heap.size + 1 < W1.heap.size := R1.lt
  have s0 : W1.cell? ⟨w.heap.size, 0, none⟩ = some (.int .i64 den) := by rw [cell_of_row W1 _ _ _ _ _ S1]; rfl
  have s1 : W1.cell? ⟨w.heap.size, 1, none⟩ = some (.slice A n c) := by rw [cell_of_row W1 _ _ _ _ _ S1]; rfl
  have L1 : SmAt W1 g n A := smAt_of hL G1
  have hsh := L1.shows
  clear hW1 HC hLw
  go_region_held3 (fun W => (∃ x, W = gx w x) ∧ W.cell? ⟨w.heap.size, 0, none⟩ = some (.int .i64 den) ∧ W.cell? ⟨w.heap.size, 1, none⟩ = some (.slice A n c))
    (refine ⟨(by repeat (first | (with_reducible exact Gx.refl _) | (with_reducible assumption) | (with_reducible refine Gx.gx ?_) | (with_reducible refine Gx.alloc ?_) | (with_reducible refine Gx.drew ?_) | (with_reducible refine Gx.drewN ?_) | (with_reducible refine Gx.setRow ?_ (by first | omega | (simp; done) | (simp <;> omega))) | (with_reducible refine Gx.setCell ?_ (by first | omega | (simp; done) | (simp <;> omega))))), ?_, ?_⟩ <;> first | assumption | exact setc_other (setc_other (by assumption) (fun e => by injection e with e1; omega)) (fun e => by injection e with e1; omega) | exact cell_keep_gx ‹_› | go_keep | (simp [go_sem]; done))
    (first
    | (apply step_append_all' el_sample w W1.heap.size (v := .slice none 0 0) (n := 0) (xs := []) (A := A) (m := n) (c := c) (news := smC g n); exact rfl; exact rfl; exact rfl; exact rfl; exact hN; (focus omega); exact Own.nil _ _ _ _; exact (by repeat (first | (with_reducible exact Gx.refl _) | (with_reducible assumption) | (with_reducible refine Gx.gx ?_) | (with_reducible refine Gx.alloc ?_) | (with_reducible refine Gx.drew ?_) | (with_reducible refine Gx.drewN ?_) | (with_reducible refine Gx.setRow ?_ (by first | omega | (simp; done) | (simp <;> omega))) | (with_reducible refine Gx.setCell ?_ (by first | omega | (simp; done) | (simp <;> omega))))); (focus (simp <;> omega)); exact smC_len g n; (focus (repeat (first | (with_reducible assumption) | ((with_reducible apply Shows.whole); focus ((focus (repeat (first | (with_reducible assumption) | (with_reducible exact At.new _ _) | (with_reducible refine At.row ?_) | ((with_reducible refine At.row_other ?_ ?_); rotate_left; (focus (simp <;> omega))) | (with_reducible refine At.app ?_) | (with_reducible refine At.tick ?_) | (with_reducible refine At.gx ?_) | ((with_reducible refine At.new' ?_); focus (simp; done)) | (with_reducible refine At.alloc ?_) | (with_reducible refine At.drew ?_) | (with_reducible exact Is.new _ _ _) | (with_reducible refine Is.row ?_) | ((with_reducible refine Is.row_other ?_ ?_); rotate_left; (focus (simp <;> omega))) | (with_reducible refine Is.gx ?_) | ((with_reducible refine Is.new' ?_); focus (simp; done)) | (with_reducible refine Is.alloc ?_) | (with_reducible refine Is.drew ?_)))); done)) | (with_reducible refine Shows.app ?_) | (with_reducible refine Shows.tick ?_) | (with_reducible refine Shows.gx ?_) | (with_reducible refine Shows.alloc ?_) | (with_reducible refine Shows.drew ?_)))); exact smC_one g n; (focus (simp only [maxLen]; omega)); (focus omega); rintro v' W7 G7 hO3 hg3; obtain ⟨A7, c7, rfl, -⟩ := hO3.is; have HO := Lib.hid (hO3.smz.base (b' := w.heap.size + 1 + 1) (by omega)); have S7 := At.grown (g := w.heap.size) (o := (.cells #[.int .i64 den, .slice A n c] 24 (0, 0))) (by first | exact S1.drew | exact S1.drew.alloc) hg3 (by simp [Value.ownBlock]); have R7 := At.grown (g := w.heap.size + 1) (o := (.cells #[.int .i64 0, .slice none 0 0] 24 (0, 0))) (by first | exact R1.drew | exact R1.drew.alloc) hg3 (by simp [Value.ownBlock]); have t0 : W7.cell? ⟨w.heap.size, 0, none⟩ = some (.int .i64 den) := (by rw [cell_of_row W7 _ _ _ _ _ S7]; rfl); (try (have T7 := At.grown (g := W1.heap.size) (o := (.cells #[.int .i64 0, .slice none 0 0] 24 (0, 0))) (At.new W1 _).drew hg3 (by simp [Value.ownBlock]); have u0 : W7.cell? ⟨W1.heap.size, 0, none⟩ = some (.int .i64 0) := (by rw [cell_of_row W7 _ _ _ _ _ T7]; rfl); have u1 : W7.cell? ⟨W1.heap.size, 1, none⟩ = some (.slice none 0 0) := (by rw [cell_of_row W7 _ _ _ _ _ T7]; rfl); have f0 : W7.frozen? ⟨W1.heap.size, 0, none⟩ = false := T7.frz; have f1 : W7.frozen? ⟨W1.heap.size, 1, none⟩ = false := T7.frz; have hl3 : W1.heap.size < W7.heap.size := T7.lt)); have t1 : W7.cell? ⟨w.heap.size, 1, none⟩ = some (.slice A n c) := (by rw [cell_of_row W7 _ _ _ _ _ S7]; rfl); clear hO3 hg3))
  rotate_left
  · have HD := Lib.hid (DbSt.start2 G7 S7 R7 (by omega) HO.out T7 (by omega))
    clear G7 S7 R7 HO T7 t0 t1 u0 u1 f0 f1 hl3 s0 s1
    generalize (W7.setCell ⟨W1.heap.size, 0, none⟩ (.int .i64 den)).setCell ⟨W1.heap.size, 1, none⟩ (.slice A7 n c7) = W8 at *
    generalize W1.heap.size = gD at HD ⊢
    go_wp2
    go_loopw [8] (fun i wr => ∃ k : Nat, k ≤ m ∧ i = .int .i64 k ∧ firstOf (inE n z) k = 0 ∧ DbSt w wr gD den A n c g A7 c7) (fun i _ => m - (intOf i).toNat)
    case atStart => exact ⟨0, Nat.zero_le _, rfl, firstOf_0 _, HD.out⟩
    case round =>
      obtain ⟨k, hk, rfl, hck, H⟩ := hrel
      have HCK := Lib.hid hck
      have d0 : wr.cell? ⟨gD, 0, none⟩ = some (.int .i64 den) := by rw [cell_of_row wr _ _ _ _ _ H.dd]; rfl
      have d1 : wr.cell? ⟨gD, 1, none⟩ = some (.slice A7 n c7) := by rw [cell_of_row wr _ _ _ _ _ H.dd]; rfl
      have s1 : wr.cell? ⟨w.heap.size, 1, none⟩ = some (.slice A n c) := by rw [cell_of_row wr _ _ _ _ _ H.ser]; rfl
      have r0 : wr.cell? ⟨w.heap.size + 1, 0, none⟩ = some (.int .i64 0) := by rw [cell_of_row wr _ _ _ _ _ H.res]; rfl
      have r1 : wr.cell? ⟨w.heap.size + 1, 1, none⟩ = some (.slice none 0 0) := by rw [cell_of_row wr _ _ _ _ _ H.res]; rfl
      have f0 : wr.frozen? ⟨w.heap.size + 1, 0, none⟩ = false := H.res.frz
      have f1 : wr.frozen? ⟨w.heap.size + 1, 1, none⟩ = false := H.res.frz
      have lD : gD < wr.heap.size := H.dd.lt
      have lR : w.heap.size + 1 < wr.heap.size := H.res.lt
      have lS : w.heap.size < wr.heap.size := H.ser.lt
      have hgw := H.grew
      have H' := Lib.hid H
      clear hck
      by_cases hlt : k < m
      · have hkz : (k : Int) < (m : Int) := by omega
        obtain ⟨b, o, rfl, hcB⟩ := (iAt_of hB hgw).out (by omega)
        have hzk := hcB k hlt
        have e1 : IntKind.i64.wrap ((n : Int) - 1) = (n : Int) - 1 := IntWalk.i64_in _ (by omega)
        by_cases hq : 0 ≤ z k ∧ z k < n
        · have HE := Lib.hid ((firstOf_succ HCK.out).trans (inE_0 hq))
          have hb : inB 0 ((n : Int) - 1) (z k) = true := inB_iff.2 (by omega)
          clear hcB hq H
          generalize z k = q at *
          go_wp2
          go_region_held3 (fun W => (∃ x, W = gx wr x) ∧ W.cell? ⟨w.heap.size, 1, none⟩ = some (.slice A n c) ∧ W.cell? ⟨b, o + k, none⟩ = some (.int .i64 q))
            (refine ⟨(by repeat (first | (with_reducible exact Gx.refl _) | (with_reducible assumption) | (with_reducible refine Gx.gx ?_) | (with_reducible refine Gx.alloc ?_) | (with_reducible refine Gx.drew ?_) | (with_reducible refine Gx.drewN ?_) | (with_reducible refine Gx.setRow ?_ (by first | omega | (simp; done) | (simp <;> omega))) | (with_reducible refine Gx.setCell ?_ (by first | omega | (simp; done) | (simp <;> omega))))), ?_, ?_⟩ <;> first | assumption | exact cell_keep_gx ‹_› | go_keep | (simp [go_sem]; done))
            (first | (go_at_call 57; refine (outside_any _ _ _ _).mono ?_; rw [hb]; rintro e w' ⟨rfl, rfl⟩))
          go_wp2
          go_roundw
          case rel => exact ⟨k + 1, by omega, by go_num, HE.out, H'.out.of_gx (by repeat (first | (with_reducible exact Gx.refl _) | (with_reducible assumption) | (with_reducible refine Gx.gx ?_) | (with_reducible refine Gx.alloc ?_) | (with_reducible refine Gx.drew ?_) | (with_reducible refine Gx.drewN ?_) | (with_reducible refine Gx.setRow ?_ (by first | omega | (simp; done) | (simp <;> omega))) | (with_reducible refine Gx.setCell ?_ (by first | omega | (simp; done) | (simp <;> omega)))))⟩
          case measure => simp [intOf]; omega
        · have h9 : dbtE den g n z m = 9 := by
            have := firstOf_bad HCK.out hlt (inE_9 hq) (by decide)
            rw [dbtE_2 Hser.out (by rw [this]; decide), this]
          have HX := Lib.hid (H2.out 9 h9 (by decide))
          have hb : inB 0 ((n : Int) - 1) (z k) = false := inB_no.2 (by omega)
          clear hcB hq h9 H1 H2 H
          generalize z k = q at *
          go_wp2
          go_region_held3 (fun W => (∃ x, W = gx wr x) ∧ W.cell? ⟨w.heap.size, 1, none⟩ = some (.slice A n c) ∧ W.cell? ⟨b, o + k, none⟩ = some (.int .i64 q))
            (refine ⟨(by repeat (first | (with_reducible exact Gx.refl _) | (with_reducible assumption) | (with_reducible refine Gx.gx ?_) | (with_reducible refine Gx.alloc ?_) | (with_reducible refine Gx.drew ?_) | (with_reducible refine Gx.drewN ?_) | (with_reducible refine Gx.setRow ?_ (by first | omega | (simp; done) | (simp <;> omega))) | (with_reducible refine Gx.setCell ?_ (by first | omega | (simp; done) | (simp <;> omega))))), ?_, ?_⟩ <;> first | assumption | exact cell_keep_gx ‹_› | go_keep | (simp [go_sem]; done))
            (first | (go_at_call 57; refine (outside_any _ _ _ _).mono ?_; rw [hb]; rintro e w' ⟨rfl, rfl⟩))
          go_wp2
          refine bodyPost_ret (v := .tuple #[serV 0 none 0 0, .int .i64 9]) (by simp [results, Tryd.results30, go_sem, r0, r1]) rfl ?_
          rw [HX.out.1, HX.out.2.1, HX.out.2.2]
          exact SerPost.zero (by first | exact hgw | exact Gx.setCell (Gx.setCell hgw (by omega)) (by omega) | exact Gx.setCell (Gx.setCell (Gx.drew hgw) (by omega)) (by omega) | exact Gx.setCell (Gx.setCell (Gx.drewN hgw) (by omega)) (by omega))
      · obtain rfl : k = m := by omega
        have hin := Lib.hid (fun i (hi : i < k) => inE_ok (firstOf_all HCK.out i hi))
        clear H d0 d1 s1 r0 r1 f0 f1 lD lR lS hgw
        go_wp2
        go_loopw [9] (fun i wr => ∃ q : Nat, (q = 0 ∨ q + 1 ≤ k) ∧ i = .int .i64 ((q : Int) + 1) ∧ firstOf (riseE z) (q + 1) = 0 ∧ DbSt w wr gD den A n c g A7 c7) (fun i _ => k - (intOf i).toNat)
        case atStart => exact ⟨0, .inl rfl, rfl, (firstOf_succ (firstOf_0 _)).trans (riseE_0 (fun h => by omega)), H'.out⟩
        case round =>
          obtain ⟨q, hq, rfl, hrq, H⟩ := hrel
          have HR := Lib.hid hrq
          have d0 : wr.cell? ⟨gD, 0, none⟩ = some (.int .i64 den) := by rw [cell_of_row wr _ _ _ _ _ H.dd]; rfl
          have d1 : wr.cell? ⟨gD, 1, none⟩ = some (.slice A7 n c7) := by rw [cell_of_row wr _ _ _ _ _ H.dd]; rfl
          have s1 : wr.cell? ⟨w.heap.size, 1, none⟩ = some (.slice A n c) := by rw [cell_of_row wr _ _ _ _ _ H.ser]; rfl
          have r0 : wr.cell? ⟨w.heap.size + 1, 0, none⟩ = some (.int .i64 0) := by rw [cell_of_row wr _ _ _ _ _ H.res]; rfl
          have r1 : wr.cell? ⟨w.heap.size + 1, 1, none⟩ = some (.slice none 0 0) := by rw [cell_of_row wr _ _ _ _ _ H.res]; rfl
          have f0 : wr.frozen? ⟨w.heap.size + 1, 0, none⟩ = false := H.res.frz
          have f1 : wr.frozen? ⟨w.heap.size + 1, 1, none⟩ = false := H.res.frz
          have lD : gD < wr.heap.size := H.dd.lt
          have lR : w.heap.size + 1 < wr.heap.size := H.res.lt
          have lS : w.heap.size < wr.heap.size := H.ser.lt
          have hgw := H.grew
          have H' := Lib.hid H
          clear hrq
          by_cases hlt2 : q + 1 < k
          · have hqz : (q : Int) + 1 < (k : Int) := by omega
            have hqz0 : (q : Int) < (k : Int) := by omega
            have dq : decide ((q : Int) + 1 < (k : Int)) = true := decide_eq_true hqz
            have dq2 : decide (q + 1 < k) = true := decide_eq_true hlt2
            obtain ⟨b, o, rfl, hcB⟩ := (iAt_of hB hgw).out (by omega)
            have hz1 := hcB (q + 1) hlt2
            have hz0 := hcB q (by omega)
            by_cases hr : z (q + 1) ≤ z q
            · have h10 : dbtE den g n z k = 10 := by
                have := firstOf_bad HR.out hlt2 (riseE_10 (z := z) (i := q + 1) ⟨by omega, by rw [Nat.add_sub_cancel]; exact hr⟩) (by decide)
                rw [dbtE_3 Hser.out HCK.out, this]
              have HX := Lib.hid (H2.out 10 h10 (by decide))
              have dr : decide (z (q + 1) ≤ z q) = true := decide_eq_true hr
              clear H hcB HR hr h10 H1 H2
              generalize z (q + 1) = u at *
              generalize z q = v at *
              go_wp2
              go_quiet (fail)
              go_wp2
              refine bodyPost_ret (v := .tuple #[serV 0 none 0 0, .int .i64 10]) (by simp [results, Tryd.results30, go_sem, r0, r1]) rfl ?_
              rw [HX.out.1, HX.out.2.1, HX.out.2.2]
              exact SerPost.zero (by first | exact hgw | exact Gx.setCell (Gx.setCell hgw (by omega)) (by omega) | exact Gx.setCell (Gx.setCell (Gx.drew hgw) (by omega)) (by omega) | exact Gx.setCell (Gx.setCell (Gx.drewN hgw) (by omega)) (by omega))
            · have HE := Lib.hid ((firstOf_succ HR.out).trans (riseE_0 (z := z) (i := q + 1) (fun h => hr (by have := h.2; rw [Nat.add_sub_cancel] at this; exact this))))
              have dr : decide (z (q + 1) ≤ z q) = false := decide_eq_false hr
              clear H hcB HR hr
              generalize z (q + 1) = u at *
              generalize z q = v at *
              go_wp2
              go_quiet (fail)
              go_wp2
              go_roundw
              case rel => exact ⟨q + 1, .inr (by omega), by go_num, HE.out, H'.out.of_gx (by repeat (first | (with_reducible exact Gx.refl _) | (with_reducible assumption) | (with_reducible refine Gx.gx ?_) | (with_reducible refine Gx.alloc ?_) | (with_reducible refine Gx.drew ?_) | (with_reducible refine Gx.drewN ?_) | (with_reducible refine Gx.setRow ?_ (by first | omega | (simp; done) | (simp <;> omega))) | (with_reducible refine Gx.setCell ?_ (by first | omega | (simp; done) | (simp <;> omega)))))⟩
              case measure => simp [intOf]; omega
          · have dq : decide ((q : Int) + 1 < (k : Int)) = false := decide_eq_false (by omega)
            have dq2 : decide (q + 1 < k) = false := decide_eq_false hlt2
            have hrk : Hid (firstOf (riseE z) k = 0) := by
              rcases Nat.eq_zero_or_pos k with h | h
              · subst h; exact firstOf_0 _
              · obtain rfl : k = q + 1 := by omega
                exact HR.out
            clear H d0 d1 s1 r0 r1 f0 f1 lD lR lS hgw
            go_wp2
            go_loopw [10] (fun i wr => ∃ p : Nat, p ≤ k ∧ i = .int .i64 p ∧ DbSt w wr gD den A n c (dbtF g z p) A7 c7) (fun i _ => k - (intOf i).toNat)
            case atStart => exact ⟨0, Nat.zero_le _, rfl, H'.out⟩
            case round =>
              obtain ⟨p, hp, rfl, H⟩ := hrel
              have d0 : wr.cell? ⟨gD, 0, none⟩ = some (.int .i64 den) := by rw [cell_of_row wr _ _ _ _ _ H.dd]; rfl
              have d1 : wr.cell? ⟨gD, 1, none⟩ = some (.slice A7 n c7) := by rw [cell_of_row wr _ _ _ _ _ H.dd]; rfl
              have s1 : wr.cell? ⟨w.heap.size, 1, none⟩ = some (.slice A n c) := by rw [cell_of_row wr _ _ _ _ _ H.ser]; rfl
              have r0 : wr.cell? ⟨w.heap.size + 1, 0, none⟩ = some (.int .i64 0) := by rw [cell_of_row wr _ _ _ _ _ H.res]; rfl
              have r1 : wr.cell? ⟨w.heap.size + 1, 1, none⟩ = some (.slice none 0 0) := by rw [cell_of_row wr _ _ _ _ _ H.res]; rfl
              have f0 : wr.frozen? ⟨w.heap.size + 1, 0, none⟩ = false := H.res.frz
              have f1 : wr.frozen? ⟨w.heap.size + 1, 1, none⟩ = false := H.res.frz
              have lD : gD < wr.heap.size := H.dd.lt
              have lR : w.heap.size + 1 < wr.heap.size := H.res.lt
              have lS : w.heap.size < wr.heap.size := H.ser.lt
              have hgw := H.grew
              have H' := Lib.hid H
              by_cases hlt3 : p < k
              · have hpz : (p : Int) < (k : Int) := by omega
                obtain ⟨b, o, rfl, hcB⟩ := (iAt_of hB hgw).out (by omega)
                have hzq := hcB p hlt3
                obtain ⟨i1, i2⟩ := hin.out p hlt3
                obtain ⟨i, hi⟩ : ∃ i : Nat, z p = (i : Int) := ⟨(z p).toNat, by omega⟩
                have hin' : i < n := by omega
                obtain ⟨gM, rfl, hgM, hfz, x1, x2, x3⟩ := H.cell hin'
                have fz2 := hfz (i * 3 + 2)
                have hiz : (i : Int) < (n : Int) := by omega
                rw [hi] at hzq
                by_cases h3 : 3 ≤ (dbtF g z p i).m
                · have p3 : decide (3 ≤ (dbtF g z p i).m) = true := decide_eq_true h3
                  have hF := Lib.hid (dbtF_yes hi h3)
                  have hP := Lib.hid (fun W (hW : ∃ x, W = gx wr x) => (H.of_gx hW).put hin')
                  clear H hcB hfz h3 i1 i2 hi
                  generalize dbtF g z p = F at *
                  generalize hX : F i = X at *
                  obtain ⟨xt, xn, xm⟩ := X
                  simp only at x1 x2 x3 p3
                  go_wp2
                  go_region_held3 (fun W => (∃ x, W = gx wr x) ∧ W.cell? ⟨gD, 1, none⟩ = some (.slice (some ⟨gM, 0, none⟩) n c7) ∧ W.cell? ⟨b, o + p, none⟩ = some (.int .i64 (i : Int)) ∧ W.cell? ⟨gM, i * 3 + 2, none⟩ = some (.int .i64 xm))
                    (refine ⟨(by repeat (first | (with_reducible exact Gx.refl _) | (with_reducible assumption) | (with_reducible refine Gx.gx ?_) | (with_reducible refine Gx.alloc ?_) | (with_reducible refine Gx.drew ?_) | (with_reducible refine Gx.drewN ?_) | (with_reducible refine Gx.setRow ?_ (by first | omega | (simp; done) | (simp <;> omega))) | (with_reducible refine Gx.setCell ?_ (by first | omega | (simp; done) | (simp <;> omega))))), ?_, ?_, ?_⟩ <;> first | assumption | exact cell_keep_gx ‹_› | go_keep | (simp [go_sem]; done))
                    (first | (go_at_call 64; refine (Rsolid_any _ _).mono ?_; rw [p3]; rintro e w' ⟨rfl, rfl⟩))
                  go_wp2
                  go_region
                  go_wp2
                  go_roundw
                  case rel => exact ⟨p + 1, by omega, by go_num, by rw [hF.out]; exact (hP.out _ (Gx.refl _)).of_gx (by repeat (first | (with_reducible exact Gx.refl _) | (with_reducible assumption) | (with_reducible refine Gx.gx ?_) | (with_reducible refine Gx.alloc ?_) | (with_reducible refine Gx.drew ?_) | (with_reducible refine Gx.drewN ?_) | (with_reducible refine Gx.setRow ?_ (by first | omega | (simp; done) | (simp <;> omega))) | (with_reducible refine Gx.setCell ?_ (by first | omega | (simp; done) | (simp <;> omega)))))⟩
                  case measure => simp [intOf]; omega
                · have p3 : decide (3 ≤ (dbtF g z p i).m) = false := decide_eq_false h3
                  have hF := Lib.hid (dbtF_no hi h3)
                  clear H hcB hfz h3 i1 i2 hi
                  generalize dbtF g z p = F at *
                  generalize hX : F i = X at *
                  obtain ⟨xt, xn, xm⟩ := X
                  simp only at x1 x2 x3 p3
                  go_wp2
                  go_region_held3 (fun W => (∃ x, W = gx wr x) ∧ W.cell? ⟨gD, 1, none⟩ = some (.slice (some ⟨gM, 0, none⟩) n c7) ∧ W.cell? ⟨b, o + p, none⟩ = some (.int .i64 (i : Int)) ∧ W.cell? ⟨gM, i * 3 + 2, none⟩ = some (.int .i64 xm))
                    (refine ⟨(by repeat (first | (with_reducible exact Gx.refl _) | (with_reducible assumption) | (with_reducible refine Gx.gx ?_) | (with_reducible refine Gx.alloc ?_) | (with_reducible refine Gx.drew ?_) | (with_reducible refine Gx.drewN ?_) | (with_reducible refine Gx.setRow ?_ (by first | omega | (simp; done) | (simp <;> omega))) | (with_reducible refine Gx.setCell ?_ (by first | omega | (simp; done) | (simp <;> omega))))), ?_, ?_, ?_⟩ <;> first | assumption | exact cell_keep_gx ‹_› | go_keep | (simp [go_sem]; done))
                    (first | (go_at_call 64; refine (Rsolid_any _ _).mono ?_; rw [p3]; rintro e w' ⟨rfl, rfl⟩))
                  go_wp2
                  go_roundw
                  case rel => exact ⟨p + 1, by omega, by go_num, by rw [hF.out]; exact H'.out.of_gx (by repeat (first | (with_reducible exact Gx.refl _) | (with_reducible assumption) | (with_reducible refine Gx.gx ?_) | (with_reducible refine Gx.alloc ?_) | (with_reducible refine Gx.drew ?_) | (with_reducible refine Gx.drewN ?_) | (with_reducible refine Gx.setRow ?_ (by first | omega | (simp; done) | (simp <;> omega))) | (with_reducible refine Gx.setCell ?_ (by first | omega | (simp; done) | (simp <;> omega)))))⟩
                  case measure => simp [intOf]; omega
              · obtain rfl : p = k := by omega
                have h00 : dbtE den g n z p = 0 := by rw [dbtE_3 Hser.out HCK.out, hrk.out]
                have HX := Lib.hid (H1.out h00)
                clear H h00 H1 H2
                go_wp2
                refine bodyPost_ret (v := .tuple #[serV den A7 n c7, .int .i64 0]) (by simp [results, Tryd.results30, go_sem, r0, r1]) rfl ?_
                rw [HX.out.1, HX.out.2.1, HX.out.2.2]
                exact DbSt.fin H'.out
  · have HD := Lib.hid (DbSt.start1 (ob := #[.int .i64 den, .slice A7 n c7]) G7 S7 R7 (by omega) HO.out rfl)
    clear G7 S7 R7 HO t0 t1 s0 s1
    generalize W7.alloc (.cells #[.int .i64 den, .slice A7 n c7] 24) = W8 at *
    generalize W7.heap.size = gD at HD ⊢
    go_wp2
    go_loopw [8] (fun i wr => ∃ k : Nat, k ≤ m ∧ i = .int .i64 k ∧ firstOf (inE n z) k = 0 ∧ DbSt w wr gD den A n c g A7 c7) (fun i _ => m - (intOf i).toNat)
    case atStart => exact ⟨0, Nat.zero_le _, rfl, firstOf_0 _, HD.out⟩
    case round =>
      obtain ⟨k, hk, rfl, hck, H⟩ := hrel
      have HCK := Lib.hid hck
      have d0 : wr.cell? ⟨gD, 0, none⟩ = some (.int .i64 den) := by rw [cell_of_row wr _ _ _ _ _ H.dd]; rfl
      have d1 : wr.cell? ⟨gD, 1, none⟩ = some (.slice A7 n c7) := by rw [cell_of_row wr _ _ _ _ _ H.dd]; rfl
      have s1 : wr.cell? ⟨w.heap.size, 1, none⟩ = some (.slice A n c) := by rw [cell_of_row wr _ _ _ _ _ H.ser]; rfl
      have r0 : wr.cell? ⟨w.heap.size + 1, 0, none⟩ = some (.int .i64 0) := by rw [cell_of_row wr _ _ _ _ _ H.res]; rfl
      have r1 : wr.cell? ⟨w.heap.size + 1, 1, none⟩ = some (.slice none 0 0) := by rw [cell_of_row wr _ _ _ _ _ H.res]; rfl
      have f0 : wr.frozen? ⟨w.heap.size + 1, 0, none⟩ = false := H.res.frz
      have f1 : wr.frozen? ⟨w.heap.size + 1, 1, none⟩ = false := H.res.frz
      have lD : gD < wr.heap.size := H.dd.lt
      have lR : w.heap.size + 1 < wr.heap.size := H.res.lt
      have lS : w.heap.size < wr.heap.size := H.ser.lt
      have hgw := H.grew
      have H' := Lib.hid H
      clear hck
      by_cases hlt : k < m
      · have hkz : (k : Int) < (m : Int) := by omega
        obtain ⟨b, o, rfl, hcB⟩ := (iAt_of hB hgw).out (by omega)
        have hzk := hcB k hlt
        have e1 : IntKind.i64.wrap ((n : Int) - 1) = (n : Int) - 1 := IntWalk.i64_in _ (by omega)
        by_cases hq : 0 ≤ z k ∧ z k < n
        · have HE := Lib.hid ((firstOf_succ HCK.out).trans (inE_0 hq))
          have hb : inB 0 ((n : Int) - 1) (z k) = true := inB_iff.2 (by omega)
          clear hcB hq H
          generalize z k = q at *
          go_wp2
          go_region_held3 (fun W => (∃ x, W = gx wr x) ∧ W.cell? ⟨w.heap.size, 1, none⟩ = some (.slice A n c) ∧ W.cell? ⟨b, o + k, none⟩ = some (.int .i64 q))
            (refine ⟨(by repeat (first | (with_reducible exact Gx.refl _) | (with_reducible assumption) | (with_reducible refine Gx.gx ?_) | (with_reducible refine Gx.alloc ?_) | (with_reducible refine Gx.drew ?_) | (with_reducible refine Gx.drewN ?_) | (with_reducible refine Gx.setRow ?_ (by first | omega | (simp; done) | (simp <;> omega))) | (with_reducible refine Gx.setCell ?_ (by first | omega | (simp; done) | (simp <;> omega))))), ?_, ?_⟩ <;> first | assumption | exact cell_keep_gx ‹_› | go_keep | (simp [go_sem]; done))
            (first | (go_at_call 57; refine (outside_any _ _ _ _).mono ?_; rw [hb]; rintro e w' ⟨rfl, rfl⟩))
          go_wp2
          go_roundw
          case rel => exact ⟨k + 1, by omega, by go_num, HE.out, H'.out.of_gx (by repeat (first | (with_reducible exact Gx.refl _) | (with_reducible assumption) | (with_reducible refine Gx.gx ?_) | (with_reducible refine Gx.alloc ?_) | (with_reducible refine Gx.drew ?_) | (with_reducible refine Gx.drewN ?_) | (with_reducible refine Gx.setRow ?_ (by first | omega | (simp; done) | (simp <;> omega))) | (with_reducible refine Gx.setCell ?_ (by first | omega | (simp; done) | (simp <;> omega)))))⟩
          case measure => simp [intOf]; omega
        · have h9 : dbtE den g n z m = 9 := by
            have := firstOf_bad HCK.out hlt (inE_9 hq) (by decide)
            rw [dbtE_2 Hser.out (by rw [this]; decide), this]
          have HX := Lib.hid (H2.out 9 h9 (by decide))
          have hb : inB 0 ((n : Int) - 1) (z k) = false := inB_no.2 (by omega)
          clear hcB hq h9 H1 H2 H
          generalize z k = q at *
          go_wp2
          go_region_held3 (fun W => (∃ x, W = gx wr x) ∧ W.cell? ⟨w.heap.size, 1, none⟩ = some (.slice A n c) ∧ W.cell? ⟨b, o + k, none⟩ = some (.int .i64 q))
            (refine ⟨(by repeat (first | (with_reducible exact Gx.refl _) | (with_reducible assumption) | (with_reducible refine Gx.gx ?_) | (with_reducible refine Gx.alloc ?_) | (with_reducible refine Gx.drew ?_) | (with_reducible refine Gx.drewN ?_) | (with_reducible refine Gx.setRow ?_ (by first | omega | (simp; done) | (simp <;> omega))) | (with_reducible refine Gx.setCell ?_ (by first | omega | (simp; done) | (simp <;> omega))))), ?_, ?_⟩ <;> first | assumption | exact cell_keep_gx ‹_› | go_keep | (simp [go_sem]; done))
            (first | (go_at_call 57; refine (outside_any _ _ _ _).mono ?_; rw [hb]; rintro e w' ⟨rfl, rfl⟩))
          go_wp2
          refine bodyPost_ret (v := .tuple #[serV 0 none 0 0, .int .i64 9]) (by simp [results, Tryd.results30, go_sem, r0, r1]) rfl ?_
          rw [HX.out.1, HX.out.2.1, HX.out.2.2]
          exact SerPost.zero (by first | exact hgw | exact Gx.setCell (Gx.setCell hgw (by omega)) (by omega) | exact Gx.setCell (Gx.setCell (Gx.drew hgw) (by omega)) (by omega) | exact Gx.setCell (Gx.setCell (Gx.drewN hgw) (by omega)) (by omega))
      · obtain rfl : k = m := by omega
        have hin := Lib.hid (fun i (hi : i < k) => inE_ok (firstOf_all HCK.out i hi))
        clear H d0 d1 s1 r0 r1 f0 f1 lD lR lS hgw
        go_wp2
        go_loopw [9] (fun i wr => ∃ q : Nat, (q = 0 ∨ q + 1 ≤ k) ∧ i = .int .i64 ((q : Int) + 1) ∧ firstOf (riseE z) (q + 1) = 0 ∧ DbSt w wr gD den A n c g A7 c7) (fun i _ => k - (intOf i).toNat)
        case atStart => exact ⟨0, .inl rfl, rfl, (firstOf_succ (firstOf_0 _)).trans (riseE_0 (fun h => by omega)), H'.out⟩
        case round =>
          obtain ⟨q, hq, rfl, hrq, H⟩ := hrel
          have HR := Lib.hid hrq
          have d0 : wr.cell? ⟨gD, 0, none⟩ = some (.int .i64 den) := by rw [cell_of_row wr _ _ _ _ _ H.dd]; rfl
          have d1 : wr.cell? ⟨gD, 1, none⟩ = some (.slice A7 n c7) := by rw [cell_of_row wr _ _ _ _ _ H.dd]; rfl
          have s1 : wr.cell? ⟨w.heap.size, 1, none⟩ = some (.slice A n c) := by rw [cell_of_row wr _ _ _ _ _ H.ser]; rfl
          have r0 : wr.cell? ⟨w.heap.size + 1, 0, none⟩ = some (.int .i64 0) := by rw [cell_of_row wr _ _ _ _ _ H.res]; rfl
          have r1 : wr.cell? ⟨w.heap.size + 1, 1, none⟩ = some (.slice none 0 0) := by rw [cell_of_row wr _ _ _ _ _ H.res]; rfl
          have f0 : wr.frozen? ⟨w.heap.size + 1, 0, none⟩ = false := H.res.frz
          have f1 : wr.frozen? ⟨w.heap.size + 1, 1, none⟩ = false := H.res.frz
          have lD : gD < wr.heap.size := H.dd.lt
          have lR : w.heap.size + 1 < wr.heap.size := H.res.lt
          have lS : w.heap.size < wr.heap.size := H.ser.lt
          have hgw := H.grew
          have H' := Lib.hid H
          clear hrq
          by_cases hlt2 : q + 1 < k
          · have hqz : (q : Int) + 1 < (k : Int) := by omega
            have hqz0 : (q : Int) < (k : Int) := by omega
            have dq : decide ((q : Int) + 1 < (k : Int)) = true := decide_eq_true hqz
            have dq2 : decide (q + 1 < k) = true := decide_eq_true hlt2
            obtain ⟨b, o, rfl, hcB⟩ := (iAt_of hB hgw).out (by omega)
            have hz1 := hcB (q + 1) hlt2
            have hz0 := hcB q (by omega)
            by_cases hr : z (q + 1) ≤ z q
            · have h10 : dbtE den g n z k = 10 := by
                have := firstOf_bad HR.out hlt2 (riseE_10 (z := z) (i := q + 1) ⟨by omega, by rw [Nat.add_sub_cancel]; exact hr⟩) (by decide)
                rw [dbtE_3 Hser.out HCK.out, this]
              have HX := Lib.hid (H2.out 10 h10 (by decide))
              have dr : decide (z (q + 1) ≤ z q) = true := decide_eq_true hr
              clear H hcB HR hr h10 H1 H2
              generalize z (q + 1) = u at *
              generalize z q = v at *
              go_wp2
              go_quiet (fail)
              go_wp2
              refine bodyPost_ret (v := .tuple #[serV 0 none 0 0, .int .i64 10]) (by simp [results, Tryd.results30, go_sem, r0, r1]) rfl ?_
              rw [HX.out.1, HX.out.2.1, HX.out.2.2]
              exact SerPost.zero (by first | exact hgw | exact Gx.setCell (Gx.setCell hgw (by omega)) (by omega) | exact Gx.setCell (Gx.setCell (Gx.drew hgw) (by omega)) (by omega) | exact Gx.setCell (Gx.setCell (Gx.drewN hgw) (by omega)) (by omega))
            · have HE := Lib.hid ((firstOf_succ HR.out).trans (riseE_0 (z := z) (i := q + 1) (fun h => hr (by have := h.2; rw [Nat.add_sub_cancel] at this; exact this))))
              have dr : decide (z (q + 1) ≤ z q) = false := decide_eq_false hr
              clear H hcB HR hr
              generalize z (q + 1) = u at *
              generalize z q = v at *
              go_wp2
              go_quiet (fail)
              go_wp2
              go_roundw
              case rel => exact ⟨q + 1, .inr (by omega), by go_num, HE.out, H'.out.of_gx (by repeat (first | (with_reducible exact Gx.refl _) | (with_reducible assumption) | (with_reducible refine Gx.gx ?_) | (with_reducible refine Gx.alloc ?_) | (with_reducible refine Gx.drew ?_) | (with_reducible refine Gx.drewN ?_) | (with_reducible refine Gx.setRow ?_ (by first | omega | (simp; done) | (simp <;> omega))) | (with_reducible refine Gx.setCell ?_ (by first | omega | (simp; done) | (simp <;> omega)))))⟩
              case measure => simp [intOf]; omega
          · have dq : decide ((q : Int) + 1 < (k : Int)) = false := decide_eq_false (by omega)
            have dq2 : decide (q + 1 < k) = false := decide_eq_false hlt2
            have hrk : Hid (firstOf (riseE z) k = 0) := by
              rcases Nat.eq_zero_or_pos k with h | h
              · subst h; exact firstOf_0 _
              · obtain rfl : k = q + 1 := by omega
                exact HR.out
            clear H d0 d1 s1 r0 r1 f0 f1 lD lR lS hgw
            go_wp2
            go_loopw [10] (fun i wr => ∃ p : Nat, p ≤ k ∧ i = .int .i64 p ∧ DbSt w wr gD den A n c (dbtF g z p) A7 c7) (fun i _ => k - (intOf i).toNat)
            case atStart => exact ⟨0, Nat.zero_le _, rfl, H'.out⟩
            case round =>
              obtain ⟨p, hp, rfl, H⟩ := hrel
              have d0 : wr.cell? ⟨gD, 0, none⟩ = some (.int .i64 den) := by rw [cell_of_row wr _ _ _ _ _ H.dd]; rfl
              have d1 : wr.cell? ⟨gD, 1, none⟩ = some (.slice A7 n c7) := by rw [cell_of_row wr _ _ _ _ _ H.dd]; rfl
              have s1 : wr.cell? ⟨w.heap.size, 1, none⟩ = some (.slice A n c) := by rw [cell_of_row wr _ _ _ _ _ H.ser]; rfl
              have r0 : wr.cell? ⟨w.heap.size + 1, 0, none⟩ = some (.int .i64 0) := by rw [cell_of_row wr _ _ _ _ _ H.res]; rfl
              have r1 : wr.cell? ⟨w.heap.size + 1, 1, none⟩ = some (.slice none 0 0) := by rw [cell_of_row wr _ _ _ _ _ H.res]; rfl
              have f0 : wr.frozen? ⟨w.heap.size + 1, 0, none⟩ = false := H.res.frz
              have f1 : wr.frozen? ⟨w.heap.size + 1, 1, none⟩ = false := H.res.frz
              have lD : gD < wr.heap.size := H.dd.lt
              have lR : w.heap.size + 1 < wr.heap.size := H.res.lt
              have lS : w.heap.size < wr.heap.size := H.ser.lt
              have hgw := H.grew
              have H' := Lib.hid H
              by_cases hlt3 : p < k
              · have hpz : (p : Int) < (k : Int) := by omega
                obtain ⟨b, o, rfl, hcB⟩ := (iAt_of hB hgw).out (by omega)
                have hzq := hcB p hlt3
                obtain ⟨i1, i2⟩ := hin.out p hlt3
                obtain ⟨i, hi⟩ : ∃ i : Nat, z p = (i : Int) := ⟨(z p).toNat, by omega⟩
                have hin' : i < n := by omega
                obtain ⟨gM, rfl, hgM, hfz, x1, x2, x3⟩ := H.cell hin'
                have fz2 := hfz (i * 3 + 2)
                have hiz : (i : Int) < (n : Int) := by omega
                rw [hi] at hzq
                by_cases h3 : 3 ≤ (dbtF g z p i).m
                · have p3 : decide (3 ≤ (dbtF g z p i).m) = true := decide_eq_true h3
                  have hF := Lib.hid (dbtF_yes hi h3)
                  have hP := Lib.hid (fun W (hW : ∃ x, W = gx wr x) => (H.of_gx hW).put hin')
                  clear H hcB hfz h3 i1 i2 hi
                  generalize dbtF g z p = F at *
                  generalize hX : F i = X at *
                  obtain ⟨xt, xn, xm⟩ := X
                  simp only at x1 x2 x3 p3
                  go_wp2
                  go_region_held3 (fun W => (∃ x, W = gx wr x) ∧ W.cell? ⟨gD, 1, none⟩ = some (.slice (some ⟨gM, 0, none⟩) n c7) ∧ W.cell? ⟨b, o + p, none⟩ = some (.int .i64 (i : Int)) ∧ W.cell? ⟨gM, i * 3 + 2, none⟩ = some (.int .i64 xm))
                    (refine ⟨(by repeat (first | (with_reducible exact Gx.refl _) | (with_reducible assumption) | (with_reducible refine Gx.gx ?_) | (with_reducible refine Gx.alloc ?_) | (with_reducible refine Gx.drew ?_) | (with_reducible refine Gx.drewN ?_) | (with_reducible refine Gx.setRow ?_ (by first | omega | (simp; done) | (simp <;> omega))) | (with_reducible refine Gx.setCell ?_ (by first | omega | (simp; done) | (simp <;> omega))))), ?_, ?_, ?_⟩ <;> first | assumption | exact cell_keep_gx ‹_› | go_keep | (simp [go_sem]; done))
                    (first | (go_at_call 64; refine (Rsolid_any _ _).mono ?_; rw [p3]; rintro e w' ⟨rfl, rfl⟩))
                  go_wp2
                  go_region
                  go_wp2
                  go_roundw
                  case rel => exact ⟨p + 1, by omega, by go_num, by rw [hF.out]; exact (hP.out _ (Gx.refl _)).of_gx (by repeat (first | (with_reducible exact Gx.refl _) | (with_reducible assumption) | (with_reducible refine Gx.gx ?_) | (with_reducible refine Gx.alloc ?_) | (with_reducible refine Gx.drew ?_) | (with_reducible refine Gx.drewN ?_) | (with_reducible refine Gx.setRow ?_ (by first | omega | (simp; done) | (simp <;> omega))) | (with_reducible refine Gx.setCell ?_ (by first | omega | (simp; done) | (simp <;> omega)))))⟩
                  case measure => simp [intOf]; omega
                · have p3 : decide (3 ≤ (dbtF g z p i).m) = false := decide_eq_false h3
                  have hF := Lib.hid (dbtF_no hi h3)
                  clear H hcB hfz h3 i1 i2 hi
                  generalize dbtF g z p = F at *
                  generalize hX : F i = X at *
                  obtain ⟨xt, xn, xm⟩ := X
                  simp only at x1 x2 x3 p3
                  go_wp2
                  go_region_held3 (fun W => (∃ x, W = gx wr x) ∧ W.cell? ⟨gD, 1, none⟩ = some (.slice (some ⟨gM, 0, none⟩) n c7) ∧ W.cell? ⟨b, o + p, none⟩ = some (.int .i64 (i : Int)) ∧ W.cell? ⟨gM, i * 3 + 2, none⟩ = some (.int .i64 xm))
                    (refine ⟨(by repeat (first | (with_reducible exact Gx.refl _) | (with_reducible assumption) | (with_reducible refine Gx.gx ?_) | (with_reducible refine Gx.alloc ?_) | (with_reducible refine Gx.drew ?_) | (with_reducible refine Gx.drewN ?_) | (with_reducible refine Gx.setRow ?_ (by first | omega | (simp; done) | (simp <;> omega))) | (with_reducible refine Gx.setCell ?_ (by first | omega | (simp; done) | (simp <;> omega))))), ?_, ?_, ?_⟩ <;> first | assumption | exact cell_keep_gx ‹_› | go_keep | (simp [go_sem]; done))
                    (first | (go_at_call 64; refine (Rsolid_any _ _).mono ?_; rw [p3]; rintro e w' ⟨rfl, rfl⟩))
                  go_wp2
                  go_roundw
                  case rel => exact ⟨p + 1, by omega, by go_num, by rw [hF.out]; exact H'.out.of_gx (by repeat (first | (with_reducible exact Gx.refl _) | (with_reducible assumption) | (with_reducible refine Gx.gx ?_) | (with_reducible refine Gx.alloc ?_) | (with_reducible refine Gx.drew ?_) | (with_reducible refine Gx.drewN ?_) | (with_reducible refine Gx.setRow ?_ (by first | omega | (simp; done) | (simp <;> omega))) | (with_reducible refine Gx.setCell ?_ (by first | omega | (simp; done) | (simp <;> omega)))))⟩
                  case measure => simp [intOf]; omega
              · obtain rfl : p = k := by omega
                have h00 : dbtE den g n z p = 0 := by rw [dbtE_3 Hser.out HCK.out, hrk.out]
                have HX := Lib.hid (H1.out h00)
                clear H h00 H1 H2
                go_wp2
                refine bodyPost_ret (v := .tuple #[serV den A7 n c7, .int .i64 0]) (by simp [results, Tryd.results30, go_sem, r0, r1]) rfl ?_
                rw [HX.out.1, HX.out.2.1, HX.out.2.2]
                exact DbSt.fin H'.out
end Go.Proofs.YtjlokobgdkkppaaDoor
