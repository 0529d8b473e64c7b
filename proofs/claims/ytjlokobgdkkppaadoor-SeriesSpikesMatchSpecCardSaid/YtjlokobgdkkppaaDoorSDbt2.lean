/-
  Doubt, the program's: a contract.
-/
import Derived.Test.YtjlokobgdkkppaaDoorSDbt
namespace Go.Proofs.YtjlokobgdkkppaaDoor
open Go.RowKit
-- AT2
-- AT3

set_option maxHeartbeats 4000000 in
set_option maxRecDepth 100000 in
theorem Doubt_go (den : Int) (g : Nat → Sm) (n c : Nat) (A : Option Addr) (hN : A = none → n = 0 ∧ c = 0) (z : Nat → Int) (m cB : Nat) (B : Option Addr) (hm : m ≤ 9223372036854775807) (w : World) (hL : SmAt w g n A) (hB : IAt w z m B) (h0 : serE den g n = 0) (D E : Int) (N : Nat)
    (H1 : Hid (dbtE den g n z m = 0 → D = den ∧ N = n ∧ E = 0)) (H2 : Hid (∀ e, dbtE den g n z m = e → e ≠ 0 → D = 0 ∧ N = 0 ∧ E = e)) :
    Calls Tryd.prog 29 #[serV den A n c, .slice B m cB] w (SerPost w D (dbtF g z m) N E) := by
  obtain ⟨_, hn, hG⟩ := goodS_of h0
  have hLw : SmAt ((w.alloc (.cells #[.int .i64 den, .slice A n c] 24)).alloc (.cells #[.int .i64 0, .slice none 0 0] 24)) g n A := hL.alloc.alloc
  have HC := fun W h => Check_any den g n c A W h
  rw [h0] at HC
  have Hser := Lib.hid h0
  clear h0
  go_enter Tryd.func29, Tryd.ntmps29
  go_wp2_with (go_at_call 12; refine (HC _ hLw).mono ?_; rintro e w' ⟨rfl, z1, rfl⟩)
  obtain ⟨W1, hW1⟩ : ∃ W1, W1 = gx ((w.alloc (.cells #[.int .i64 den, .slice A n c] 24)).alloc (.cells #[.int .i64 0, .slice none 0 0] 24)) z1 := ⟨_, rfl⟩
  rw [← hW1]
  have G1 : ∃ x, W1 = gx w x := by rw [hW1]; exact (by repeat (first | (with_reducible exact Gx.refl _) | (with_reducible assumption) | (with_reducible refine Gx.gx ?_) | (with_reducible refine Gx.alloc ?_) | (with_reducible refine Gx.drew ?_) | (with_reducible refine Gx.drewN ?_) | (with_reducible refine Gx.setRow ?_ (by first | omega | (simp; done) | (simp <;> omega))) | (with_reducible refine Gx.setCell ?_ (by first | omega | (simp; done) | (simp <;> omega)))))
  have S1 : At W1 w.heap.size (.cells #[.int .i64 den, .slice A n c] 24 (0, 0)) := by rw [hW1]; (focus (repeat (first | (with_reducible assumption) | (with_reducible exact At.new _ _) | (with_reducible refine At.row ?_) | ((with_reducible refine At.row_other ?_ ?_); rotate_left; (focus (simp <;> omega))) | (with_reducible refine At.app ?_) | (with_reducible refine At.tick ?_) | (with_reducible refine At.gx ?_) | ((with_reducible refine At.new' ?_); focus (simp; done)) | (with_reducible refine At.alloc ?_) | (with_reducible refine At.drew ?_) | (with_reducible exact Is.new _ _ _) | (with_reducible refine Is.row ?_) | ((with_reducible refine Is.row_other ?_ ?_); rotate_left; (focus (simp <;> omega))) | (with_reducible refine Is.gx ?_) | ((with_reducible refine Is.new' ?_); focus (simp; done)) | (with_reducible refine Is.alloc ?_) | (with_reducible refine Is.drew ?_))))
  have R1 : At W1 (w.heap.size + 1) (.cells #[.int .i64 0, .slice none 0 0] 24 (0, 0)) := by rw [hW1]; (focus (repeat (first | (with_reducible assumption) | (with_reducible exact At.new _ _) | (with_reducible refine At.row ?_) | ((with_reducible refine At.row_other ?_ ?_); rotate_left; (focus (simp <;> omega))) | (with_reducible refine At.app ?_) | (with_reducible refine At.tick ?_) | (with_reducible refine At.gx ?_) | ((with_reducible refine At.new' ?_); focus (simp; done)) | (with_reducible refine At.alloc ?_) | (with_reducible refine At.drew ?_) | (with_reducible exact Is.new _ _ _) | (with_reducible refine Is.row ?_) | ((with_reducible refine Is.row_other ?_ ?_); rotate_left; (focus (simp <;> omega))) | (with_reducible refine Is.gx ?_) | ((with_reducible refine Is.new' ?_); focus (simp; done)) | (with_reducible refine Is.alloc ?_) | (with_reducible refine Is.drew ?_))))
  clear hW1 HC hLw
  go_loopw [20] (fun i wr => ∃ k : Nat, k ≤ m ∧ i = .int .i64 k ∧ firstOf (inE n z) k = 0 ∧ wr = W1) (fun i _ => m - (intOf i).toNat)
  case atStart => exact ⟨0, Nat.zero_le _, rfl, firstOf_0 _, rfl⟩
  case round =>
    obtain ⟨k, hk, rfl, hck, rfl⟩ := hrel
    have HCK := Lib.hid hck
    clear hck
    have s0 : wr.cell? ⟨w.heap.size, 0, none⟩ = some (.int .i64 den) := by rw [cell_of_row wr _ _ _ _ _ S1]; rfl
    have s1 : wr.cell? ⟨w.heap.size, 1, none⟩ = some (.slice A n c) := by rw [cell_of_row wr _ _ _ _ _ S1]; rfl
    have r0 : wr.cell? ⟨w.heap.size + 1, 0, none⟩ = some (.int .i64 0) := by rw [cell_of_row wr _ _ _ _ _ R1]; rfl
    have r1 : wr.cell? ⟨w.heap.size + 1, 1, none⟩ = some (.slice none 0 0) := by rw [cell_of_row wr _ _ _ _ _ R1]; rfl
    have f0 : wr.frozen? ⟨w.heap.size + 1, 0, none⟩ = false := R1.frz
    have f1 : wr.frozen? ⟨w.heap.size + 1, 1, none⟩ = false := R1.frz
    have l1 : w.heap.size + 1 < wr.heap.size := R1.lt
    have l0 : w.heap.size < wr.heap.size := S1.lt
    by_cases hlt : k < m
    · have hkz : (k : Int) < (m : Int) := by omega
      obtain ⟨b, o, rfl, hcB⟩ := (iAt_of hB G1).out (by omega)
      have hzk := hcB k hlt
      by_cases hq : 0 ≤ z k ∧ z k < n
      · have HE := Lib.hid ((firstOf_succ HCK.out).trans (inE_0 hq))
        have d1 : decide (z k < 0) = false := decide_eq_false (by omega)
        have d2 : decide ((n : Int) ≤ z k) = false := decide_eq_false (by omega)
        clear hcB hq
        generalize z k = q at *
        go_wp2
        go_roundw
        case rel => exact ⟨k + 1, by omega, by go_num, HE.out, by first | rfl | trivial⟩
        case measure => simp [intOf]; omega
      · have h9 : dbtE den g n z m = 9 := by
          have := firstOf_bad HCK.out hlt (inE_9 hq) (by decide)
          rw [dbtE_2 Hser.out (by rw [this]; decide), this]
        have HR := Lib.hid (H2.out 9 h9 (by decide))
        have hd : decide (z k < 0) = true ∨ (decide (z k < 0) = false ∧ decide ((n : Int) ≤ z k) = true) := by
          simp only [decide_eq_true_eq, decide_eq_false_iff_not]; omega
        clear hcB hq h9 H1 H2
        generalize z k = q at *
        rcases hd with d1 | ⟨d1, d2⟩
        all_goals
          go_wp2
          refine bodyPost_ret (v := .tuple #[serV 0 none 0 0, .int .i64 9]) (by simp [results, Tryd.results29, go_sem, r0, r1]) rfl ?_
          rw [HR.out.1, HR.out.2.1, HR.out.2.2]
          exact SerPost.zero (by first | exact G1 | exact Gx.setCell (Gx.setCell G1 (by omega)) (by omega))
    · obtain rfl : k = m := by omega
      clear r0 r1 f0 f1
      have hin := Lib.hid (fun i (hi : i < k) => inE_ok (firstOf_all HCK.out i hi))
      go_wp2
      go_region_held3 (fun W => (∃ x, W = gx w x) ∧ W.cell? ⟨w.heap.size, 0, none⟩ = some (.int .i64 den) ∧ W.cell? ⟨w.heap.size, 1, none⟩ = some (.slice A n c))
        (refine ⟨(by repeat (first | (with_reducible exact Gx.refl _) | (with_reducible assumption) | (with_reducible refine Gx.gx ?_) | (with_reducible refine Gx.alloc ?_) | (with_reducible refine Gx.drew ?_) | (with_reducible refine Gx.drewN ?_) | (with_reducible refine Gx.setRow ?_ (by first | omega | (simp; done) | (simp <;> omega))) | (with_reducible refine Gx.setCell ?_ (by first | omega | (simp; done) | (simp <;> omega))))), ?_, ?_⟩ <;> first | assumption | exact setc_other (setc_other (by assumption) (fun e => by injection e with e1; omega)) (fun e => by injection e with e1; omega) | exact cell_keep_gx ‹_› | go_keep | (simp [go_sem]; done))
        (first
        | (go_at_call 45; refine (Clone_any _ _ _ _ _ (smAt_of hL (by repeat (first | (with_reducible exact Gx.refl _) | (with_reducible assumption) | (with_reducible refine Gx.gx ?_) | (with_reducible refine Gx.alloc ?_) | (with_reducible refine Gx.drew ?_) | (with_reducible refine Gx.drewN ?_) | (with_reducible refine Gx.setRow ?_ (by first | omega | (simp; done) | (simp <;> omega))) | (with_reducible refine Gx.setCell ?_ (by first | omega | (simp; done) | (simp <;> omega)))))) hN (by omega)).mono ?_; rintro e W7 ⟨A7, c7, x7, rfl, hW7, hO⟩; have G7 : ∃ x, W7 = gx w x := (by rw [hW7]; exact (by repeat (first | (with_reducible exact Gx.refl _) | (with_reducible assumption) | (with_reducible refine Gx.gx ?_) | (with_reducible refine Gx.alloc ?_) | (with_reducible refine Gx.drew ?_) | (with_reducible refine Gx.drewN ?_) | (with_reducible refine Gx.setRow ?_ (by first | omega | (simp; done) | (simp <;> omega))) | (with_reducible refine Gx.setCell ?_ (by first | omega | (simp; done) | (simp <;> omega)))))); have S7 : At W7 w.heap.size (.cells #[.int .i64 den, .slice A n c] 24 (0, 0)) := (by rw [hW7]; (focus (repeat (first | (with_reducible assumption) | (with_reducible exact At.new _ _) | (with_reducible refine At.row ?_) | ((with_reducible refine At.row_other ?_ ?_); rotate_left; (focus (simp <;> omega))) | (with_reducible refine At.app ?_) | (with_reducible refine At.tick ?_) | (with_reducible refine At.gx ?_) | ((with_reducible refine At.new' ?_); focus (simp; done)) | (with_reducible refine At.alloc ?_) | (with_reducible refine At.drew ?_) | (with_reducible exact Is.new _ _ _) | (with_reducible refine Is.row ?_) | ((with_reducible refine Is.row_other ?_ ?_); rotate_left; (focus (simp <;> omega))) | (with_reducible refine Is.gx ?_) | ((with_reducible refine Is.new' ?_); focus (simp; done)) | (with_reducible refine Is.alloc ?_) | (with_reducible refine Is.drew ?_))))); have R7 : At W7 (w.heap.size + 1) (.cells #[.int .i64 0, .slice none 0 0] 24 (0, 0)) := (by rw [hW7]; (focus (repeat (first | (with_reducible assumption) | (with_reducible exact At.new _ _) | (with_reducible refine At.row ?_) | ((with_reducible refine At.row_other ?_ ?_); rotate_left; (focus (simp <;> omega))) | (with_reducible refine At.app ?_) | (with_reducible refine At.tick ?_) | (with_reducible refine At.gx ?_) | ((with_reducible refine At.new' ?_); focus (simp; done)) | (with_reducible refine At.alloc ?_) | (with_reducible refine At.drew ?_) | (with_reducible exact Is.new _ _ _) | (with_reducible refine Is.row ?_) | ((with_reducible refine Is.row_other ?_ ?_); rotate_left; (focus (simp <;> omega))) | (with_reducible refine Is.gx ?_) | ((with_reducible refine Is.new' ?_); focus (simp; done)) | (with_reducible refine Is.alloc ?_) | (with_reducible refine Is.drew ?_))))); have t0 : W7.cell? ⟨w.heap.size, 0, none⟩ = some (.int .i64 den) := (by rw [cell_of_row W7 _ _ _ _ _ S7]; rfl); have t1 : W7.cell? ⟨w.heap.size, 1, none⟩ = some (.slice A n c) := (by rw [cell_of_row W7 _ _ _ _ _ S7]; rfl); (try (have T7 : At W7 wr.heap.size (.cells #[.int .i64 0, .slice none 0 0] 24 (0, 0)) := (by rw [hW7]; refine At.gx ?_; exact At.new' (by simp)); have u0 : W7.cell? ⟨wr.heap.size, 0, none⟩ = some (.int .i64 0) := (by rw [cell_of_row W7 _ _ _ _ _ T7]; rfl); have u1 : W7.cell? ⟨wr.heap.size, 1, none⟩ = some (.slice none 0 0) := (by rw [cell_of_row W7 _ _ _ _ _ T7]; rfl); have f0 : W7.frozen? ⟨wr.heap.size, 0, none⟩ = false := T7.frz; have f1 : W7.frozen? ⟨wr.heap.size, 1, none⟩ = false := T7.frz; have hl3 : wr.heap.size < W7.heap.size := T7.lt)); have HO := Lib.hid (hO.base (b' := w.heap.size + 1 + 1) (by first | omega | (simp <;> omega))); clear hW7 hO))
      rotate_left
      · have HD := Lib.hid (DbSt.start2 G7 S7 R7 (by omega) HO.out T7 (by omega))
        have hgD : w.heap.size + 1 < wr.heap.size := l1
        clear G7 S7 R7 HO T7 t0 t1 u0 u1 f0 f1 hl3 s0 s1
        generalize (W7.setCell ⟨wr.heap.size, 0, none⟩ (.int .i64 den)).setCell ⟨wr.heap.size, 1, none⟩ (.slice A7 n c7) = W8 at *
        generalize wr.heap.size = gD at HD ⊢
        go_wp2
        go_loopw [43] (fun i wr => ∃ q : Nat, q ≤ k ∧ i = .int .i64 q ∧ firstOf (riseE z) q = 0 ∧ DbSt w wr gD den A n c (dbtF g z q) A7 c7) (fun i _ => k - (intOf i).toNat)
        case atStart => exact ⟨0, Nat.zero_le _, rfl, firstOf_0 _, HD.out⟩
        case round =>
          obtain ⟨q, hq, rfl, hrq, H⟩ := hrel
          have HR := Lib.hid hrq
          have H' := Lib.hid H
          have d0 : wr.cell? ⟨gD, 0, none⟩ = some (.int .i64 den) := by rw [cell_of_row wr _ _ _ _ _ H.dd]; rfl
          have d1 : wr.cell? ⟨gD, 1, none⟩ = some (.slice A7 n c7) := by rw [cell_of_row wr _ _ _ _ _ H.dd]; rfl
          have r0 : wr.cell? ⟨w.heap.size + 1, 0, none⟩ = some (.int .i64 0) := by rw [cell_of_row wr _ _ _ _ _ H.res]; rfl
          have r1 : wr.cell? ⟨w.heap.size + 1, 1, none⟩ = some (.slice none 0 0) := by rw [cell_of_row wr _ _ _ _ _ H.res]; rfl
          have f0 : wr.frozen? ⟨w.heap.size + 1, 0, none⟩ = false := H.res.frz
          have f1 : wr.frozen? ⟨w.heap.size + 1, 1, none⟩ = false := H.res.frz
          have lD : gD < wr.heap.size := H.dd.lt
          have lR : w.heap.size + 1 < wr.heap.size := H.res.lt
          have hgw := H.grew
          clear hrq
          by_cases hlt2 : q < k
          · have hqz : (q : Int) < (k : Int) := by omega
            obtain ⟨b, o, rfl, hcB⟩ := (iAt_of hB hgw).out (by omega)
            have hzq := hcB q hlt2
            obtain ⟨i1, i2⟩ := hin.out q hlt2
            obtain ⟨i, hi⟩ : ∃ i : Nat, z q = (i : Int) := ⟨(z q).toNat, by omega⟩
            have hin' : i < n := by omega
            obtain ⟨gM, rfl, hgM, hfz, x1, x2, x3⟩ := H.cell hin'
            have fz2 := hfz (i * 3 + 2)
            have hiz : (i : Int) < (n : Int) := by omega
            rcases Nat.eq_zero_or_pos q with hq0 | hq0
            · have dq : decide (0 < q) = false := decide_eq_false (by omega)
              have HE := Lib.hid ((firstOf_succ HR.out).trans (riseE_0 (z := z) (i := q) (fun h => by omega)))
              rw [hi] at hzq
              by_cases h3 : 3 ≤ (dbtF g z q i).m
              · have p3 : decide (3 ≤ (dbtF g z q i).m) = true := decide_eq_true h3
                have hF := Lib.hid (dbtF_yes hi h3)
                have hP := Lib.hid (H.put hin')
                clear H hcB hfz h3 hq0 i1 i2 hi HR
                generalize dbtF g z q = F at *
                generalize hX : F i = X at *
                obtain ⟨xt, xn, xm⟩ := X
                simp only at x1 x2 x3 p3
                go_wp2_with (go_at_call 63; refine (isSolid_any _ _ _ _).mono ?_; rw [p3]; rintro e w' ⟨rfl, y, rfl⟩)
                go_roundw
                case rel => exact ⟨q + 1, by omega, by go_num, HE.out, by rw [hF.out]; exact hP.out.onx⟩
                case measure => simp [intOf]; omega
              · have p3 : decide (3 ≤ (dbtF g z q i).m) = false := decide_eq_false h3
                have hF := Lib.hid (dbtF_no hi h3)
                clear H hcB hfz h3 hq0 i1 i2 hi HR
                generalize dbtF g z q = F at *
                generalize hX : F i = X at *
                obtain ⟨xt, xn, xm⟩ := X
                simp only at x1 x2 x3 p3
                go_wp2_with (go_at_call 63; refine (isSolid_any _ _ _ _).mono ?_; rw [p3]; rintro e w' ⟨rfl, y, rfl⟩)
                go_roundw
                case rel => exact ⟨q + 1, by omega, by go_num, HE.out, by rw [hF.out]; exact H'.out.onx⟩
                case measure => simp [intOf]; omega
            · obtain ⟨j, hj⟩ : ∃ j, q = j + 1 := ⟨q - 1, by omega⟩
              have dq : decide (0 < q) = true := decide_eq_true hq0
              have hzj := hcB j (by omega)
              have e1 : IntKind.i64.wrap ((q : Int) - 1) = (j : Int) := by rw [IntWalk.i64_in _ (by omega)]; omega
              have ejz : (j : Int) < (k : Int) := by omega
              have ej : q - 1 = j := by omega
              by_cases hr : z q ≤ z j
              · have h10 : dbtE den g n z k = 10 := by
                  have := firstOf_bad HR.out hlt2 (riseE_10 (z := z) (i := q) ⟨hq0, by rw [ej]; exact hr⟩) (by decide)
                  rw [dbtE_3 Hser.out HCK.out, this]
                have HX := Lib.hid (H2.out 10 h10 (by decide))
                have dr : decide (z q ≤ z j) = true := decide_eq_true hr
                clear H hcB hfz hq0 i1 i2 hi HR hr h10 H1 H2 hj ej
                generalize z q = u at *
                generalize z j = v at *
                go_wp2
                refine bodyPost_ret (v := .tuple #[serV 0 none 0 0, .int .i64 10]) (by simp [results, Tryd.results29, go_sem, r0, r1]) rfl ?_
                rw [HX.out.1, HX.out.2.1, HX.out.2.2]
                exact SerPost.zero (by first | exact hgw | exact Gx.setCell (Gx.setCell hgw (by omega)) (by omega))
              · have dr : decide ((i : Int) ≤ z j) = false := decide_eq_false (by rw [← hi]; exact hr)
                have HE := Lib.hid ((firstOf_succ HR.out).trans (riseE_0 (z := z) (i := q) (fun h => hr (by rw [← ej]; exact h.2))))
                rw [hi] at hzq
                clear hr ej hj
                generalize z j = v at *
                by_cases h3 : 3 ≤ (dbtF g z q i).m
                · have p3 : decide (3 ≤ (dbtF g z q i).m) = true := decide_eq_true h3
                  have hF := Lib.hid (dbtF_yes hi h3)
                  have hP := Lib.hid (H.put hin')
                  clear H hcB hfz h3 hq0 i1 i2 hi HR
                  generalize dbtF g z q = F at *
                  generalize hX : F i = X at *
                  obtain ⟨xt, xn, xm⟩ := X
                  simp only at x1 x2 x3 p3
                  go_wp2_with (go_at_call 63; refine (isSolid_any _ _ _ _).mono ?_; rw [p3]; rintro e w' ⟨rfl, y, rfl⟩)
                  go_roundw
                  case rel => exact ⟨q + 1, by omega, by go_num, HE.out, by rw [hF.out]; exact hP.out.onx⟩
                  case measure => simp [intOf]; omega
                · have p3 : decide (3 ≤ (dbtF g z q i).m) = false := decide_eq_false h3
                  have hF := Lib.hid (dbtF_no hi h3)
                  clear H hcB hfz h3 hq0 i1 i2 hi HR
                  generalize dbtF g z q = F at *
                  generalize hX : F i = X at *
                  obtain ⟨xt, xn, xm⟩ := X
                  simp only at x1 x2 x3 p3
                  go_wp2_with (go_at_call 63; refine (isSolid_any _ _ _ _).mono ?_; rw [p3]; rintro e w' ⟨rfl, y, rfl⟩)
                  go_roundw
                  case rel => exact ⟨q + 1, by omega, by go_num, HE.out, by rw [hF.out]; exact H'.out.onx⟩
                  case measure => simp [intOf]; omega
          · obtain rfl : q = k := by omega
            have h00 : dbtE den g n z q = 0 := by rw [dbtE_3 Hser.out HCK.out, HR.out]
            have HX := Lib.hid (H1.out h00)
            clear H h00 H1 H2 HR
            go_wp2
            refine bodyPost_ret (v := .tuple #[serV den A7 n c7, .int .i64 0]) (by simp [results, Tryd.results29, go_sem, r0, r1]) rfl ?_
            rw [HX.out.1, HX.out.2.1, HX.out.2.2]
            exact DbSt.fin H'.out
      · have HD := Lib.hid (DbSt.start1 (ob := #[.int .i64 den, .slice A7 n c7]) G7 S7 R7 (by omega) HO.out rfl)
        clear G7 S7 R7 HO t0 t1 s0 s1
        generalize W7.alloc (.cells #[.int .i64 den, .slice A7 n c7] 24) = W8 at *
        generalize W7.heap.size = gD at HD ⊢
        go_wp2
        go_loopw [43] (fun i wr => ∃ q : Nat, q ≤ k ∧ i = .int .i64 q ∧ firstOf (riseE z) q = 0 ∧ DbSt w wr gD den A n c (dbtF g z q) A7 c7) (fun i _ => k - (intOf i).toNat)
        case atStart => exact ⟨0, Nat.zero_le _, rfl, firstOf_0 _, HD.out⟩
        case round =>
          obtain ⟨q, hq, rfl, hrq, H⟩ := hrel
          have HR := Lib.hid hrq
          have H' := Lib.hid H
          have d0 : wr.cell? ⟨gD, 0, none⟩ = some (.int .i64 den) := by rw [cell_of_row wr _ _ _ _ _ H.dd]; rfl
          have d1 : wr.cell? ⟨gD, 1, none⟩ = some (.slice A7 n c7) := by rw [cell_of_row wr _ _ _ _ _ H.dd]; rfl
          have r0 : wr.cell? ⟨w.heap.size + 1, 0, none⟩ = some (.int .i64 0) := by rw [cell_of_row wr _ _ _ _ _ H.res]; rfl
          have r1 : wr.cell? ⟨w.heap.size + 1, 1, none⟩ = some (.slice none 0 0) := by rw [cell_of_row wr _ _ _ _ _ H.res]; rfl
          have f0 : wr.frozen? ⟨w.heap.size + 1, 0, none⟩ = false := H.res.frz
          have f1 : wr.frozen? ⟨w.heap.size + 1, 1, none⟩ = false := H.res.frz
          have lD : gD < wr.heap.size := H.dd.lt
          have lR : w.heap.size + 1 < wr.heap.size := H.res.lt
          have hgw := H.grew
          clear hrq
          by_cases hlt2 : q < k
          · have hqz : (q : Int) < (k : Int) := by omega
            obtain ⟨b, o, rfl, hcB⟩ := (iAt_of hB hgw).out (by omega)
            have hzq := hcB q hlt2
            obtain ⟨i1, i2⟩ := hin.out q hlt2
            obtain ⟨i, hi⟩ : ∃ i : Nat, z q = (i : Int) := ⟨(z q).toNat, by omega⟩
            have hin' : i < n := by omega
            obtain ⟨gM, rfl, hgM, hfz, x1, x2, x3⟩ := H.cell hin'
            have fz2 := hfz (i * 3 + 2)
            have hiz : (i : Int) < (n : Int) := by omega
            rcases Nat.eq_zero_or_pos q with hq0 | hq0
            · have dq : decide (0 < q) = false := decide_eq_false (by omega)
              have HE := Lib.hid ((firstOf_succ HR.out).trans (riseE_0 (z := z) (i := q) (fun h => by omega)))
              rw [hi] at hzq
              by_cases h3 : 3 ≤ (dbtF g z q i).m
              · have p3 : decide (3 ≤ (dbtF g z q i).m) = true := decide_eq_true h3
                have hF := Lib.hid (dbtF_yes hi h3)
                have hP := Lib.hid (H.put hin')
                clear H hcB hfz h3 hq0 i1 i2 hi HR
                generalize dbtF g z q = F at *
                generalize hX : F i = X at *
                obtain ⟨xt, xn, xm⟩ := X
                simp only at x1 x2 x3 p3
                go_wp2_with (go_at_call 63; refine (isSolid_any _ _ _ _).mono ?_; rw [p3]; rintro e w' ⟨rfl, y, rfl⟩)
                go_roundw
                case rel => exact ⟨q + 1, by omega, by go_num, HE.out, by rw [hF.out]; exact hP.out.onx⟩
                case measure => simp [intOf]; omega
              · have p3 : decide (3 ≤ (dbtF g z q i).m) = false := decide_eq_false h3
                have hF := Lib.hid (dbtF_no hi h3)
                clear H hcB hfz h3 hq0 i1 i2 hi HR
                generalize dbtF g z q = F at *
                generalize hX : F i = X at *
                obtain ⟨xt, xn, xm⟩ := X
                simp only at x1 x2 x3 p3
                go_wp2_with (go_at_call 63; refine (isSolid_any _ _ _ _).mono ?_; rw [p3]; rintro e w' ⟨rfl, y, rfl⟩)
                go_roundw
                case rel => exact ⟨q + 1, by omega, by go_num, HE.out, by rw [hF.out]; exact H'.out.onx⟩
                case measure => simp [intOf]; omega
            · obtain ⟨j, hj⟩ : ∃ j, q = j + 1 := ⟨q - 1, by omega⟩
              have dq : decide (0 < q) = true := decide_eq_true hq0
              have hzj := hcB j (by omega)
              have e1 : IntKind.i64.wrap ((q : Int) - 1) = (j : Int) := by rw [IntWalk.i64_in _ (by omega)]; omega
              have ejz : (j : Int) < (k : Int) := by omega
              have ej : q - 1 = j := by omega
              by_cases hr : z q ≤ z j
              · have h10 : dbtE den g n z k = 10 := by
                  have := firstOf_bad HR.out hlt2 (riseE_10 (z := z) (i := q) ⟨hq0, by rw [ej]; exact hr⟩) (by decide)
                  rw [dbtE_3 Hser.out HCK.out, this]
                have HX := Lib.hid (H2.out 10 h10 (by decide))
                have dr : decide (z q ≤ z j) = true := decide_eq_true hr
                clear H hcB hfz hq0 i1 i2 hi HR hr h10 H1 H2 hj ej
                generalize z q = u at *
                generalize z j = v at *
                go_wp2
                refine bodyPost_ret (v := .tuple #[serV 0 none 0 0, .int .i64 10]) (by simp [results, Tryd.results29, go_sem, r0, r1]) rfl ?_
                rw [HX.out.1, HX.out.2.1, HX.out.2.2]
                exact SerPost.zero (by first | exact hgw | exact Gx.setCell (Gx.setCell hgw (by omega)) (by omega))
              · have dr : decide ((i : Int) ≤ z j) = false := decide_eq_false (by rw [← hi]; exact hr)
                have HE := Lib.hid ((firstOf_succ HR.out).trans (riseE_0 (z := z) (i := q) (fun h => hr (by rw [← ej]; exact h.2))))
                rw [hi] at hzq
                clear hr ej hj
                generalize z j = v at *
                by_cases h3 : 3 ≤ (dbtF g z q i).m
                · have p3 : decide (3 ≤ (dbtF g z q i).m) = true := decide_eq_true h3
                  have hF := Lib.hid (dbtF_yes hi h3)
                  have hP := Lib.hid (H.put hin')
                  clear H hcB hfz h3 hq0 i1 i2 hi HR
                  generalize dbtF g z q = F at *
                  generalize hX : F i = X at *
                  obtain ⟨xt, xn, xm⟩ := X
                  simp only at x1 x2 x3 p3
                  go_wp2_with (go_at_call 63; refine (isSolid_any _ _ _ _).mono ?_; rw [p3]; rintro e w' ⟨rfl, y, rfl⟩)
                  go_roundw
                  case rel => exact ⟨q + 1, by omega, by go_num, HE.out, by rw [hF.out]; exact hP.out.onx⟩
                  case measure => simp [intOf]; omega
                · have p3 : decide (3 ≤ (dbtF g z q i).m) = false := decide_eq_false h3
                  have hF := Lib.hid (dbtF_no hi h3)
                  clear H hcB hfz h3 hq0 i1 i2 hi HR
                  generalize dbtF g z q = F at *
                  generalize hX : F i = X at *
                  obtain ⟨xt, xn, xm⟩ := X
                  simp only at x1 x2 x3 p3
                  go_wp2_with (go_at_call 63; refine (isSolid_any _ _ _ _).mono ?_; rw [p3]; rintro e w' ⟨rfl, y, rfl⟩)
                  go_roundw
                  case rel => exact ⟨q + 1, by omega, by go_num, HE.out, by rw [hF.out]; exact H'.out.onx⟩
                  case measure => simp [intOf]; omega
          · obtain rfl : q = k := by omega
            have h00 : dbtE den g n z q = 0 := by rw [dbtE_3 Hser.out HCK.out, HR.out]
            have HX := Lib.hid (H1.out h00)
            clear H h00 H1 H2 HR
            go_wp2
            refine bodyPost_ret (v := .tuple #[serV den A7 n c7, .int .i64 0]) (by simp [results, Tryd.results29, go_sem, r0, r1]) rfl ?_
            rw [HX.out.1, HX.out.2.1, HX.out.2.2]
            exact DbSt.fin H'.out
end Go.Proofs.YtjlokobgdkkppaaDoor
