/-
  Median, the reference's: the walk where nothing is wrong.
-/
import Derived.Test.YtmpokfbliacmoaaDoorSMed
import Derived.Deep.RegionHeld3
import Derived.Deep.RegionWith
namespace Go.Proofs.YtmpokfbliacmoaaDoor
open Go.RowKit
-- AT2
-- AT3

theorem iC_app (xs : List Int) (v : Int) : iC (xs ++ [v]) = iC xs ++ [.int .i64 v] := by unfold iC; rw [List.map_append]; rfl
theorem near_take {g : Nat → Sm} {L : List Nat} {h k m : Nat} (hm : m < nearB L.length h k - nearA h k) : (nearL g L h k).take (m + 1) = (nearL g L h k).take m ++ [(g (L.getD (nearA h k + m) 0)).n] := by
  have hl : m < (nearL g L h k).length := by rw [nearL_len]; exact hm
  rw [List.take_succ_eq_append_getElem hl]
  congr 2
  unfold nearL
  simp
theorem near_all {g : Nat → Sm} {L : List Nat} {h k m : Nat} (hm : m = nearB L.length h k - nearA h k) : (nearL g L h k).take m = nearL g L h k := by
  rw [List.take_of_length_le]; rw [nearL_len]; omega
set_option maxHeartbeats 4000000 in
set_option maxRecDepth 100000 in
theorem RMedian_go (den : Int) (g : Nat → Sm) (n c : Nat) (A : Option Addr) (hN : A = none → n = 0 ∧ c = 0) (h : Nat) (wd : Int) (hw : wd = 2 * (h : Int) + 1) (hh : h ≤ 50) (w : World) (hL : SmAt w g n A) (h0 : serE den g n = 0) :
    Calls Tryd.prog 6 #[serV den A n c, .int .i64 wd] w (SerPost w den (medF g (solL g n) h (solL g n).length) n 0) := by
  obtain ⟨_, hn, hG⟩ := goodS_of h0
  have HC := fun W h => RCheck_any den g n c A W h
  rw [h0] at HC
  have HS := Lib.hid (fun W (h : SmAt W g n A) => RSolids_any den g n c A W h hn)
  have hle := solL_len g n
  have hlt := Lib.hid (solL_at_lt g n)
  have hb : inB 1 101 wd = true := inB_iff.2 (by omega)
  have k3 : wd.tmod 2 = 1 := by subst hw; rw [Int.tmod_eq_emod_of_nonneg (by omega)]; omega
  have k4 : wd.tdiv 2 = (h : Int) := by subst hw; rw [Int.tdiv_eq_ediv_of_nonneg (by omega)]; omega
  clear h0
  have HW := Lib.hid hw
  clear hw
  generalize hgL : solL g n = L at *
  have hle2 : L.length ≤ 20000 := by omega
  go_enter Tryd.func6, Tryd.ntmps6
  go_wp2_with first
    | (go_at_call 16; refine (HC _ (smAt_of' hL (by repeat (first | (with_reducible exact Gx.refl _) | (with_reducible assumption) | (with_reducible refine Gx.gx ?_) | (with_reducible refine Gx.alloc ?_) | (with_reducible refine Gx.drew ?_) | (with_reducible refine Gx.drewN ?_) | (with_reducible refine Gx.setRow ?_ (by first | omega | (simp; done) | (simp <;> omega))) | (with_reducible refine Gx.setCell ?_ (by first | omega | (simp; done) | (simp <;> omega))))))).mono ?_; rintro e w' ⟨rfl, z1, rfl⟩)
    | (go_at_call 17; refine (outside_any _ _ _ _).mono ?_; rw [hb]; rintro e w' ⟨rfl, rfl⟩)
    | (go_at_call 18; refine (HS.out _ (smAt_of' hL (by repeat (first | (with_reducible exact Gx.refl _) | (with_reducible assumption) | (with_reducible refine Gx.gx ?_) | (with_reducible refine Gx.alloc ?_) | (with_reducible refine Gx.drew ?_) | (with_reducible refine Gx.drewN ?_) | (with_reducible refine Gx.setRow ?_ (by first | omega | (simp; done) | (simp <;> omega))) | (with_reducible refine Gx.setCell ?_ (by first | omega | (simp; done) | (simp <;> omega))))))).mono ?_; rintro e W1 ⟨A2, c2, x2, rfl, hW8, hO⟩; have G1 : ∃ x, W1 = gx w x := (by rw [hW8]; exact (by repeat (first | (with_reducible exact Gx.refl _) | (with_reducible assumption) | (with_reducible refine Gx.gx ?_) | (with_reducible refine Gx.alloc ?_) | (with_reducible refine Gx.drew ?_) | (with_reducible refine Gx.drewN ?_) | (with_reducible refine Gx.setRow ?_ (by first | omega | (simp; done) | (simp <;> omega))) | (with_reducible refine Gx.setCell ?_ (by first | omega | (simp; done) | (simp <;> omega)))))); have S1 : At W1 w.heap.size (.cells #[.int .i64 den, .slice A n c] 24 (0, 0)) := (by rw [hW8]; (focus (repeat (first | (with_reducible assumption) | (with_reducible exact At.new _ _) | (with_reducible refine At.row ?_) | ((with_reducible refine At.row_other ?_ ?_); rotate_left; (focus (simp <;> omega))) | (with_reducible refine At.app ?_) | (with_reducible refine At.tick ?_) | (with_reducible refine At.gx ?_) | ((with_reducible refine At.new' ?_); focus (simp; done)) | (with_reducible refine At.alloc ?_) | (with_reducible refine At.drew ?_) | (with_reducible exact Is.new _ _ _) | (with_reducible refine Is.row ?_) | ((with_reducible refine Is.row_other ?_ ?_); rotate_left; (focus (simp <;> omega))) | (with_reducible refine Is.gx ?_) | ((with_reducible refine Is.new' ?_); focus (simp; done)) | (with_reducible refine Is.alloc ?_) | (with_reducible refine Is.drew ?_))))); have R1 : At W1 (w.heap.size + 1) (.cells #[.int .i64 0, .slice none 0 0] 24 (0, 0)) := (by rw [hW8]; (focus (repeat (first | (with_reducible assumption) | (with_reducible exact At.new _ _) | (with_reducible refine At.row ?_) | ((with_reducible refine At.row_other ?_ ?_); rotate_left; (focus (simp <;> omega))) | (with_reducible refine At.app ?_) | (with_reducible refine At.tick ?_) | (with_reducible refine At.gx ?_) | ((with_reducible refine At.new' ?_); focus (simp; done)) | (with_reducible refine At.alloc ?_) | (with_reducible refine At.drew ?_) | (with_reducible exact Is.new _ _ _) | (with_reducible refine Is.row ?_) | ((with_reducible refine Is.row_other ?_ ?_); rotate_left; (focus (simp <;> omega))) | (with_reducible refine Is.gx ?_) | ((with_reducible refine Is.new' ?_); focus (simp; done)) | (with_reducible refine Is.alloc ?_) | (with_reducible refine Is.drew ?_))))); have O1 := Lib.hid hO; clear hW8 hO)
  have l1 : w.heap.size + 1 < W1.heap.size := R1.lt
  have s0 : W1.cell? ⟨w.heap.size, 0, none⟩ = some (.int .i64 den) := by rw [cell_of_row W1 _ _ _ _ _ S1]; rfl
  have s1 : W1.cell? ⟨w.heap.size, 1, none⟩ = some (.slice A n c) := by rw [cell_of_row W1 _ _ _ _ _ S1]; rfl
  have L1 : SmAt W1 g n A := smAt_of' hL G1
  have hsh := L1.shows
  clear HC
  go_region_held3 (fun W => (∃ x, W = gx W1 x) ∧ W.cell? ⟨w.heap.size, 0, none⟩ = some (.int .i64 den) ∧ W.cell? ⟨w.heap.size, 1, none⟩ = some (.slice A n c))
    (refine ⟨(by repeat (first | (with_reducible exact Gx.refl _) | (with_reducible assumption) | (with_reducible refine Gx.gx ?_) | (with_reducible refine Gx.alloc ?_) | (with_reducible refine Gx.drew ?_) | (with_reducible refine Gx.drewN ?_) | (with_reducible refine Gx.setRow ?_ (by first | omega | (simp; done) | (simp <;> omega))) | (with_reducible refine Gx.setCell ?_ (by first | omega | (simp; done) | (simp <;> omega))))), ?_, ?_⟩ <;> first | assumption | exact setc_other (setc_other (by assumption) (fun e => by injection e with e1; omega)) (fun e => by injection e with e1; omega) | exact cell_keep_gx ‹_› | go_keep | (simp [go_sem]; done))
    (first
    | (apply step_append_all' el_sample W1 W1.heap.size (v := .slice none 0 0) (n := 0) (xs := []) (A := A) (m := n) (c := c) (news := smC g n); exact rfl; exact rfl; exact rfl; exact rfl; exact hN; (focus omega); exact Own.nil _ _ _ _; exact (by repeat (first | (with_reducible exact Gx.refl _) | (with_reducible assumption) | (with_reducible refine Gx.gx ?_) | (with_reducible refine Gx.alloc ?_) | (with_reducible refine Gx.drew ?_) | (with_reducible refine Gx.drewN ?_) | (with_reducible refine Gx.setRow ?_ (by first | omega | (simp; done) | (simp <;> omega))) | (with_reducible refine Gx.setCell ?_ (by first | omega | (simp; done) | (simp <;> omega))))); (focus (simp <;> omega)); exact smC_len g n; (focus (repeat (first | (with_reducible assumption) | ((with_reducible apply Shows.whole); focus ((focus (repeat (first | (with_reducible assumption) | (with_reducible exact At.new _ _) | (with_reducible refine At.row ?_) | ((with_reducible refine At.row_other ?_ ?_); rotate_left; (focus (simp <;> omega))) | (with_reducible refine At.app ?_) | (with_reducible refine At.tick ?_) | (with_reducible refine At.gx ?_) | ((with_reducible refine At.new' ?_); focus (simp; done)) | (with_reducible refine At.alloc ?_) | (with_reducible refine At.drew ?_) | (with_reducible exact Is.new _ _ _) | (with_reducible refine Is.row ?_) | ((with_reducible refine Is.row_other ?_ ?_); rotate_left; (focus (simp <;> omega))) | (with_reducible refine Is.gx ?_) | ((with_reducible refine Is.new' ?_); focus (simp; done)) | (with_reducible refine Is.alloc ?_) | (with_reducible refine Is.drew ?_)))); done)) | (with_reducible refine Shows.app ?_) | (with_reducible refine Shows.tick ?_) | (with_reducible refine Shows.gx ?_) | (with_reducible refine Shows.alloc ?_) | (with_reducible refine Shows.drew ?_)))); exact smC_one g n; (focus (simp only [maxLen]; omega)); (focus omega); rintro v' W7 G7 hO3 hg3; obtain ⟨A7, c7, rfl, -⟩ := hO3.is; have HO := Lib.hid hO3.smz; have S7 := At.grown (g := w.heap.size) (o := (.cells #[.int .i64 den, .slice A n c] 24 (0, 0))) (by first | exact S1.drew | exact S1.drew.alloc) hg3 (by simp [Value.ownBlock]); have R7 := At.grown (g := w.heap.size + 1) (o := (.cells #[.int .i64 0, .slice none 0 0] 24 (0, 0))) (by first | exact R1.drew | exact R1.drew.alloc) hg3 (by simp [Value.ownBlock]); have t0 : W7.cell? ⟨w.heap.size, 0, none⟩ = some (.int .i64 den) := (by rw [cell_of_row W7 _ _ _ _ _ S7]; rfl); (try (have T7 := At.grown (g := W1.heap.size) (o := (.cells #[.int .i64 0, .slice none 0 0] 24 (0, 0))) (At.new W1 _).drew hg3 (by simp [Value.ownBlock]); have u0 : W7.cell? ⟨W1.heap.size, 0, none⟩ = some (.int .i64 0) := (by rw [cell_of_row W7 _ _ _ _ _ T7]; rfl); have u1 : W7.cell? ⟨W1.heap.size, 1, none⟩ = some (.slice none 0 0) := (by rw [cell_of_row W7 _ _ _ _ _ T7]; rfl); have f0 : W7.frozen? ⟨W1.heap.size, 0, none⟩ = false := T7.frz; have f1 : W7.frozen? ⟨W1.heap.size, 1, none⟩ = false := T7.frz; have hl3 : W1.heap.size < W7.heap.size := T7.lt)); have t1 : W7.cell? ⟨w.heap.size, 1, none⟩ = some (.slice A n c) := (by rw [cell_of_row W7 _ _ _ _ _ S7]; rfl); clear hO3 hg3))
  rotate_left
  · have HD := Lib.hid (DbSt.start2 (w := w) (Gx.trans G7 G1) S7 R7 (by omega) HO.out T7 (by omega))
    have G8 : ∃ x, (W7.setCell ⟨W1.heap.size, 0, none⟩ (.int .i64 den)).setCell ⟨W1.heap.size, 1, none⟩ (.slice A7 n c7) = gx W1 x := Gx.setCell (Gx.setCell G7 (Nat.le_refl _)) (Nat.le_refl _)
    clear T7 u0 u1 f0 f1 hl3
    have HM : Hid (0 < n → ∃ gM, A7 = some ⟨gM, 0, none⟩ ∧ W1.heap.size ≤ gM) := Lib.hid fun hn => by obtain ⟨gM, e, hb, _⟩ := HO.out.rows' hn; exact ⟨gM, e, hb⟩
    clear S7 R7 HO t0 t1 s0 s1 S1 R1 G7 L1 hsh
    have G9 := Lib.hid G8
    clear G8
    generalize hW9 : (W7.setCell ⟨W1.heap.size, 0, none⟩ (.int .i64 den)).setCell ⟨W1.heap.size, 1, none⟩ (.slice A7 n c7) = W9 at *
    generalize W1.heap.size = gD at HD ⊢
    clear hW9
    go_wp2
    go_loopw [9] (fun i wq => ∃ k : Nat, k ≤ L.length ∧ i = .int .i64 k ∧ (∃ x, wq = gx W1 x) ∧ DbSt w wq gD den A n c (medF g L h k) A7 c7) (fun i _ => L.length - (intOf i).toNat)
    case atStart => exact ⟨0, Nat.zero_le _, rfl, G9.out, HD.out⟩
    case round =>
      obtain ⟨k, hk, rfl, hgq, H⟩ := hrel
      have HG := Lib.hid hgq
      have H' := Lib.hid H
      by_cases hlt2 : k < L.length
      · have hqz : (k : Int) < (L.length : Int) := by omega
        have O2 := O1.out.ofx hgq
        have hi := hlt.out k hlt2
        obtain ⟨b, o, rfl, hbw, HCs0⟩ := hL.get (by omega)
        obtain ⟨gS, rfl, hnum⟩ := num_cells O2 (by omega)
        have lgS : gS < W1.heap.size := by obtain ⟨gS', e, hn'⟩ := num_cells O1.out (by omega); obtain rfl : gS = gS' := (by simpa using e); exact World.block_lt_of_cell? W1 _ (hn' k hlt2)
        have hgw := H.grew
        have d1 : wr.cell? ⟨gD, 1, none⟩ = some (.slice A7 n c7) := by rw [cell_of_row wr _ _ _ _ _ H.dd]; rfl
        have s1 : wr.cell? ⟨w.heap.size, 1, none⟩ = some (.slice (some ⟨b, o, none⟩) n c) := by rw [cell_of_row wr _ _ _ _ _ H.ser]; rfl
        have lD : gD < wr.heap.size := H.dd.lt
        have lS : w.heap.size < wr.heap.size := H.ser.lt
        obtain ⟨n1, n2, n3⟩ := near_some (h := h) hlt2
        have hnl := nearL_len g L h k
        have ea : max 0 ((k : Int) - (h : Int)) = (nearA h k : Int) := by unfold nearA; omega
        have eb : ∀ j : Nat, (j < nearB L.length h k ↔ (j < L.length ∧ j ≤ k + h)) := by intro j; unfold nearB; omega
        have Hea := Lib.hid ea
        have Heb := Lib.hid eb
        have HNum := Lib.hid hnum
        clear ea eb hnum O2 hgq H
        generalize wr = Wo at *
        go_wp2
        go_loopw [10, 11] (fun s j wi => ∃ (m jn : Nat) (A1 : Option Addr) (c1 : Nat), m ≤ nearB L.length h k - nearA h k ∧ jn = nearA h k + m ∧ j = .int .i64 jn ∧ s = .slice A1 m c1 ∧ (∃ x, wi = gx Wo x) ∧ Own Wo.heap.size wi 3 1 (.slice A1 m c1) m (iC ((nearL g L h k).take m))) (fun _ j _ => nearB L.length h k - (intOf j).toNat)
        case atStart => exact ⟨0, nearA h k, none, 0, Nat.zero_le _, rfl, by rw [Hea.out], rfl, Gx.refl _, Own.nil _ _ _ _⟩
        case round =>
          obtain ⟨m, jn, A1, c1, hm, hj, rfl, rfl, hGi, hOi⟩ := hrel
          have HJ := Lib.hid hj
          have HGi := Lib.hid hGi
          have HOi := Lib.hid hOi
          obtain ⟨xi, hxi⟩ := id hGi
          have hs1 : wr.cell? ⟨w.heap.size, 1, none⟩ = some (.slice (some ⟨b, o, none⟩) n c) := by rw [hxi]; exact cell_keep_gx s1
          have lSi : w.heap.size < wr.heap.size := by rw [hxi, size_gx]; omega
          have lWo : Wo.heap.size ≤ wr.heap.size := by rw [hxi, size_gx]; omega
          by_cases hjm : m < nearB L.length h k - nearA h k
          · have hjL : jn < L.length := by omega
            have d2 : decide ((jn : Int) < (L.length : Int)) = true := decide_eq_true (by omega)
            have d3 : decide ((jn : Int) ≤ (k : Int) + (h : Int)) = true := decide_eq_true (by have := (Heb.out jn).1 (by omega); omega)
            have hjz : (jn : Int) < (L.length : Int) := by omega
            have cj : wr.cell? ⟨gS, jn, none⟩ = some (.int .i64 ((L.getD jn 0 : Nat) : Int)) := by rw [hxi]; exact cell_keep_gx (HNum.out jn hjL)
            have hdx := hlt.out jn hjL
            obtain ⟨q1, q2, q3⟩ := HCs0.out (L.getD jn 0) hdx
            obtain ⟨y, hy⟩ := Gx.trans hGi hgw
            have cs : wr.cell? ⟨b, o + L.getD jn 0 * 3 + 1, none⟩ = some (.int .i64 (g (L.getD jn 0)).n) := by rw [hy]; exact cell_keep_gx q2
            have ht : Hid ((nearL g L h k).take (m + 1) = (nearL g L h k).take m ++ [(g (L.getD jn 0)).n]) := Lib.hid (by rw [near_take hjm, hj])
            have lb : b < wr.heap.size := World.block_lt_of_cell? wr _ cs
            have lg : gS < wr.heap.size := World.block_lt_of_cell? wr _ cj
            have iz0 : ((L.getD jn 0 : Nat) : Int) < (n : Int) := by omega
            have hm2 : m ≤ 20000 := by omega
            have hgo := Gx.trans HG.out (Gx.refl W1)
            have w2 : Wo.cell? ⟨gS, jn, none⟩ = some (.int .i64 ((L.getD jn 0 : Nat) : Int)) := HNum.out jn hjL
            have w3 : Wo.cell? ⟨b, o + L.getD jn 0 * 3 + 1, none⟩ = some (.int .i64 (g (L.getD jn 0)).n) := by obtain ⟨x, hx⟩ := hgw; rw [hx]; exact cell_keep_gx q2
            clear q1 q2 q3 hOi hxi hy hj hgo
            generalize L.getD jn 0 = sg at *
            generalize (g sg).n = v at *
            generalize (nearL g L h k).take m = zs at *
            go_wp2
            go_region_held3 (fun W => (∃ x, W = gx Wo x) ∧ W.cell? ⟨w.heap.size, 1, none⟩ = some (.slice (some ⟨b, o, none⟩) n c) ∧ W.cell? ⟨gS, jn, none⟩ = some (.int .i64 ((sg : Nat) : Int)) ∧ W.cell? ⟨b, o + sg * 3 + 1, none⟩ = some (.int .i64 v))
              (refine ⟨(by repeat (first | (with_reducible exact Gx.refl _) | (with_reducible assumption) | (with_reducible refine Gx.gx ?_) | (with_reducible refine Gx.alloc ?_) | (with_reducible refine Gx.drew ?_) | (with_reducible refine Gx.drewN ?_) | (with_reducible refine Gx.setRow ?_ (by first | omega | (simp; done) | (simp <;> omega))) | (with_reducible refine Gx.setCell ?_ (by first | omega | (simp; done) | (simp <;> omega))))), ?_, ?_, ?_⟩ <;> first | assumption | exact cell_keep_gx ‹_› | go_keep | (simp [go_sem]; done))
              (first
              | (apply step_append_all' el_int Wo Wo.heap.size (v := .slice A1 m c1) (n := m) (xs := iC zs) (m := 1) (news := [.int .i64 v]); exact rfl; exact rfl; exact rfl; exact rfl; exact (fun h => by cases h); (focus omega); exact HOi.out.ofx (by repeat (first | (with_reducible exact Gx.refl _) | (with_reducible assumption) | (with_reducible refine Gx.gx ?_) | (with_reducible refine Gx.alloc ?_) | (with_reducible refine Gx.drew ?_) | (with_reducible refine Gx.drewN ?_) | (with_reducible refine Gx.setRow ?_ (by first | omega | (simp; done) | (simp <;> omega))) | (with_reducible refine Gx.setCell ?_ (by first | omega | (simp; done) | (simp <;> omega))))); exact Gx.trans (by repeat (first | (with_reducible exact Gx.refl _) | (with_reducible assumption) | (with_reducible refine Gx.gx ?_) | (with_reducible refine Gx.alloc ?_) | (with_reducible refine Gx.drew ?_) | (with_reducible refine Gx.drewN ?_) | (with_reducible refine Gx.setRow ?_ (by first | omega | (simp; done) | (simp <;> omega))) | (with_reducible refine Gx.setCell ?_ (by first | omega | (simp; done) | (simp <;> omega))))) HGi.out; (focus (simp <;> omega)); exact rfl; (focus (repeat (first | (with_reducible assumption) | ((with_reducible apply Shows.whole); focus ((focus (repeat (first | (with_reducible assumption) | (with_reducible exact At.new _ _) | (with_reducible refine At.row ?_) | ((with_reducible refine At.row_other ?_ ?_); rotate_left; (focus (simp <;> omega))) | (with_reducible refine At.app ?_) | (with_reducible refine At.tick ?_) | (with_reducible refine At.gx ?_) | ((with_reducible refine At.new' ?_); focus (simp; done)) | (with_reducible refine At.alloc ?_) | (with_reducible refine At.drew ?_) | (with_reducible exact Is.new _ _ _) | (with_reducible refine Is.row ?_) | ((with_reducible refine Is.row_other ?_ ?_); rotate_left; (focus (simp <;> omega))) | (with_reducible refine Is.gx ?_) | ((with_reducible refine Is.new' ?_); focus (simp; done)) | (with_reducible refine Is.alloc ?_) | (with_reducible refine Is.drew ?_)))); done)) | (with_reducible refine Shows.app ?_) | (with_reducible refine Shows.tick ?_) | (with_reducible refine Shows.gx ?_) | (with_reducible refine Shows.alloc ?_) | (with_reducible refine Shows.drew ?_)))); (focus (simp [Value.oneCell']; done)); (focus (simp only [maxLen]; omega)); (focus omega); rintro v2 W2 hW2 hO2 hg2; obtain ⟨A4, c4, rfl, -⟩ := hO2.is; have HO2 := Lib.hid hO2; have HW2 := Lib.hid hW2; have v1 : W2.cell? ⟨w.heap.size, 1, none⟩ = some (.slice (some ⟨b, o, none⟩) n c) := (by obtain ⟨x, hx⟩ := hW2; rw [hx]; exact cell_keep_gx s1); have v2 : W2.cell? ⟨gS, jn, none⟩ = some (.int .i64 ((sg : Nat) : Int)) := (by obtain ⟨x, hx⟩ := hW2; rw [hx]; exact cell_keep_gx w2); have v3 : W2.cell? ⟨b, o + sg * 3 + 1, none⟩ = some (.int .i64 v) := (by obtain ⟨x, hx⟩ := hW2; rw [hx]; exact cell_keep_gx w3); clear hO2 hg2))
            all_goals go_wp2
            all_goals go_roundw
            all_goals first
              | (have := HJ.out; simp [intOf]; omega)
              | exact ⟨m + 1, jn + 1, A4, c4, by omega, by have := HJ.out; omega, by go_num, rfl, HW2.out, by rw [ht.out, iC_app]; exact HO2.out⟩
          · have hjB : jn = nearB L.length h k := by omega
            have hd : (¬ jn < L.length) ∨ (jn < L.length ∧ (k : Int) + (h : Int) < (jn : Int)) := by
              have := Heb.out jn
              omega
            have hzs := near_all (g := g) (L := L) (h := h) (k := k) (m := m) (by omega)
            rw [hzs] at HOi
            obtain ⟨m1, rfl⟩ : ∃ m1, m = m1 + 1 := ⟨m - 1, by omega⟩
            have hm1 : nearB L.length h k - nearA h k = m1 + 1 := by omega
            have hmb : m1 ≤ 20000 := by omega
            have Hmid : Hid (midN g L h k = (srt (nearL g L h k)).getD (m1 / 2) 0) := Lib.hid (by unfold midN; rw [hm1, Nat.add_sub_cancel])
            have Hln : Hid (m1 / 2 < (srt (nearL g L h k)).length) := Lib.hid (by rw [srt_len, hnl, hm1]; omega)
            have hF := Lib.hid (medF_succ g L h k)
            have hsh : Hid (Shows (iC (nearL g L h k)) A1 wr) := Lib.hid (by obtain ⟨A', c', e, _, _, _, hs⟩ := HOi.out.is; injection e with e1 e2 e3; subst e1; exact hs)
            have hAn := Lib.hid HOi.out.nilc
            have HSo := Lib.hid (fun W (hW : ∃ x, W = gx wr x) => RSorted_any (nearL g L h k) A1 c1 (m1 + 1) (by omega) W (shows_ofx hsh.out hW) hAn.out (by omega))
            have H3 := H'.out.of_gx hGi
            have d1i : wr.cell? ⟨gD, 1, none⟩ = some (.slice A7 n c7) := by rw [cell_of_row wr _ _ _ _ _ H3.dd]; rfl
            have lDi : gD < wr.heap.size := H3.dd.lt
            have ck : wr.cell? ⟨gS, k, none⟩ = some (.int .i64 ((L.getD k 0 : Nat) : Int)) := by rw [hxi]; exact cell_keep_gx (HNum.out k hlt2)
            have lg : gS < wr.heap.size := World.block_lt_of_cell? wr _ ck
            have HM2 := HM.out (by omega)
            obtain ⟨gM, rfl, _, _, _, _, _⟩ := H3.cell hi
            have neD : gM ≠ gD := by obtain ⟨gM', e, hI, _⟩ := H3.row (by omega); obtain rfl : gM = gM' := (by simpa using e); exact is_ne_at hI H3.dd (by decide)
            have HGw := Lib.hid (Gx.trans hGi HG.out)
            have HM3 : Hid (W1.heap.size ≤ gM) := Lib.hid (by obtain ⟨gM', e, hb⟩ := HM2; obtain rfl : gM = gM' := (by simpa using e); exact hb)
            have neS : gM ≠ gS := by have := HM3.out; omega
            have iz0 : ((L.getD k 0 : Nat) : Int) < (n : Int) := by omega
            clear H3 HM2 hm1 hGi hOi hxi hm hzs hjm hnl n1 n2 n3 hj hjB HJ
            generalize L.getD k 0 = sg at *
            obtain ⟨m2, hm2⟩ : ∃ m2, m1 / 2 = m2 := ⟨_, rfl⟩
            have e4 : IntKind.i64.wrap (m1 : Int) = (m1 : Int) := by rw [IntWalk.i64_in _ (by omega)]
            have e5 : ((m1 : Int)).tdiv 2 = (m2 : Int) := by rw [Int.tdiv_eq_ediv_of_nonneg (by omega)]; omega
            have e55 : IntKind.i64.wrap (m2 : Int) = (m2 : Int) := by rw [IntWalk.i64_in _ (by omega)]
            have e56 : IntKind.i64.wrap ((IntKind.i64.wrap (m1 : Int)).tdiv 2) = (m2 : Int) := by rw [e4, e5, e55]
            have e6 : (m2 : Int) < (m1 : Int) + 1 := by omega
            have e7 : (0 : Int) ≤ (m2 : Int) := by omega
            rw [hm2] at Hmid Hln
            clear hm2
            rcases hd with d2 | ⟨d2, d3⟩
            rotate_left
            have d4 : decide ((jn : Int) ≤ (k : Int) + (h : Int)) = false := decide_eq_false (by omega)
            have d5 : (jn : Int) < (L.length : Int) := by omega
            have d6 : decide ((jn : Int) < (L.length : Int)) = true := decide_eq_true d5
            rotate_left
            have d5 : ¬ ((jn : Int) < (L.length : Int)) := by omega
            have d6 : decide ((jn : Int) < (L.length : Int)) = false := decide_eq_false d5
            all_goals
              go_wp2
              go_region_with
                (first
                | (go_at_call 19; refine (HSo.out _ (by first | exact Gx.refl _ | exact Gx.drew (Gx.refl _) | exact Gx.drewN (Gx.refl _))).mono ?_; rintro e W2 ⟨AR, cR, rfl, hG2, hI0⟩; obtain ⟨gR, rfl, hI⟩ := hI0 (by omega); have G2 : ∃ x, W2 = gx wr x := Gx.trans hG2 (by first | exact Gx.refl _ | exact Gx.drew (Gx.refl _) | exact Gx.drewN (Gx.refl _)); have H2 := H'.out.of_gx (Gx.trans G2 HGi.out); have d1' : W2.cell? ⟨gD, 1, none⟩ = some (.slice (some ⟨gM, 0, none⟩) n c7) := (by rw [cell_of_row W2 _ _ _ _ _ H2.dd]; rfl); have ck' : W2.cell? ⟨gS, k, none⟩ = some (.int .i64 ((sg : Nat) : Int)) := (by obtain ⟨x, hx⟩ := G2; rw [hx]; exact cell_keep_gx ck); have rM : W2.cell? ⟨gR, m2, none⟩ = some (.int .i64 (midN g L h k)) := (by rw [Hmid.out]; exact hI.cells _ Hln.out); obtain ⟨gM', eM, lM2, hfz2, y1, y2, y3⟩ := H2.cell hi; obtain rfl : gM = gM' := (by simpa using eM); have fz := hfz2 (sg * 3 + 1); have HP := Lib.hid (H2.putN (v := midN g L h k) hi); have HG2 := Lib.hid (Gx.trans (Gx.trans G2 HGi.out) HG.out); have lD2 : gD < W2.heap.size := H2.dd.lt; have lR2 : gR < W2.heap.size := (by obtain ⟨cs, h⟩ := hI.is; exact h.lt); have lg2 : gS < W2.heap.size := World.block_lt_of_cell? W2 _ ck'; clear hI hI0 H2 hfz2 eM))
              all_goals go_wp2
              all_goals go_roundw
              all_goals first
                | (simp [intOf] <;> omega)
                | exact ⟨k + 1, by omega, by first | rfl | go_num, by first | exact Gx.setCell HG2.out HM3.out | exact Gx.drew (Gx.setCell HG2.out HM3.out) | exact Gx.drewN (Gx.setCell HG2.out HM3.out) | exact Gx.setCell (Gx.drewN HG2.out) HM3.out, by rw [hF.out]; first | exact HP.out | exact HP.out.of_gx (Gx.drew (Gx.refl _)) | exact HP.out.of_gx (Gx.drewN (Gx.refl _))⟩
      · obtain rfl : k = L.length := by omega
        have d0 : wr.cell? ⟨gD, 0, none⟩ = some (.int .i64 den) := by rw [cell_of_row wr _ _ _ _ _ H.dd]; rfl
        have d1 : wr.cell? ⟨gD, 1, none⟩ = some (.slice A7 n c7) := by rw [cell_of_row wr _ _ _ _ _ H.dd]; rfl
        have lD : gD < wr.heap.size := H.dd.lt
        have r0 : wr.cell? ⟨w.heap.size + 1, 0, none⟩ = some (.int .i64 0) := by rw [cell_of_row wr _ _ _ _ _ H.res]; rfl
        have r1 : wr.cell? ⟨w.heap.size + 1, 1, none⟩ = some (.slice none 0 0) := by rw [cell_of_row wr _ _ _ _ _ H.res]; rfl
        have f0 : wr.frozen? ⟨w.heap.size + 1, 0, none⟩ = false := H.res.frz
        have f1 : wr.frozen? ⟨w.heap.size + 1, 1, none⟩ = false := H.res.frz
        have lR : w.heap.size + 1 < wr.heap.size := H.res.lt
        clear H
        go_wp2
        refine bodyPost_ret (v := .tuple #[serV den A7 n c7, .int .i64 0]) (by simp [results, Tryd.results6, go_sem, r0, r1]) rfl ?_
        exact DbSt.fin H'.out
  · have HD := Lib.hid (DbSt.start1 (ob := #[.int .i64 den, .slice A7 n c7]) (w := w) (Gx.trans G7 G1) S7 R7 (by omega) HO.out rfl)
    have G8 : ∃ x, W7.alloc (.cells #[.int .i64 den, .slice A7 n c7] 24) = gx W1 x := Gx.alloc G7
    have HM : Hid (0 < n → ∃ gM, A7 = some ⟨gM, 0, none⟩ ∧ W1.heap.size ≤ gM) := Lib.hid fun hn => by obtain ⟨gM, e, hb, _⟩ := HO.out.rows' hn; exact ⟨gM, e, hb⟩
    clear S7 R7 HO t0 t1 s0 s1 S1 R1 G7 L1 hsh
    have G9 := Lib.hid G8
    clear G8
    generalize hW9 : W7.alloc (.cells #[.int .i64 den, .slice A7 n c7] 24) = W9 at *
    generalize W7.heap.size = gD at HD ⊢
    clear hW9
    go_wp2
    go_loopw [9] (fun i wq => ∃ k : Nat, k ≤ L.length ∧ i = .int .i64 k ∧ (∃ x, wq = gx W1 x) ∧ DbSt w wq gD den A n c (medF g L h k) A7 c7) (fun i _ => L.length - (intOf i).toNat)
    case atStart => exact ⟨0, Nat.zero_le _, rfl, G9.out, HD.out⟩
    case round =>
      obtain ⟨k, hk, rfl, hgq, H⟩ := hrel
      have HG := Lib.hid hgq
      have H' := Lib.hid H
      by_cases hlt2 : k < L.length
      · have hqz : (k : Int) < (L.length : Int) := by omega
        have O2 := O1.out.ofx hgq
        have hi := hlt.out k hlt2
        obtain ⟨b, o, rfl, hbw, HCs0⟩ := hL.get (by omega)
        obtain ⟨gS, rfl, hnum⟩ := num_cells O2 (by omega)
        have lgS : gS < W1.heap.size := by obtain ⟨gS', e, hn'⟩ := num_cells O1.out (by omega); obtain rfl : gS = gS' := (by simpa using e); exact World.block_lt_of_cell? W1 _ (hn' k hlt2)
        have hgw := H.grew
        have d1 : wr.cell? ⟨gD, 1, none⟩ = some (.slice A7 n c7) := by rw [cell_of_row wr _ _ _ _ _ H.dd]; rfl
        have s1 : wr.cell? ⟨w.heap.size, 1, none⟩ = some (.slice (some ⟨b, o, none⟩) n c) := by rw [cell_of_row wr _ _ _ _ _ H.ser]; rfl
        have lD : gD < wr.heap.size := H.dd.lt
        have lS : w.heap.size < wr.heap.size := H.ser.lt
        obtain ⟨n1, n2, n3⟩ := near_some (h := h) hlt2
        have hnl := nearL_len g L h k
        have ea : max 0 ((k : Int) - (h : Int)) = (nearA h k : Int) := by unfold nearA; omega
        have eb : ∀ j : Nat, (j < nearB L.length h k ↔ (j < L.length ∧ j ≤ k + h)) := by intro j; unfold nearB; omega
        have Hea := Lib.hid ea
        have Heb := Lib.hid eb
        have HNum := Lib.hid hnum
        clear ea eb hnum O2 hgq H
        generalize wr = Wo at *
        go_wp2
        go_loopw [10, 11] (fun s j wi => ∃ (m jn : Nat) (A1 : Option Addr) (c1 : Nat), m ≤ nearB L.length h k - nearA h k ∧ jn = nearA h k + m ∧ j = .int .i64 jn ∧ s = .slice A1 m c1 ∧ (∃ x, wi = gx Wo x) ∧ Own Wo.heap.size wi 3 1 (.slice A1 m c1) m (iC ((nearL g L h k).take m))) (fun _ j _ => nearB L.length h k - (intOf j).toNat)
        case atStart => exact ⟨0, nearA h k, none, 0, Nat.zero_le _, rfl, by rw [Hea.out], rfl, Gx.refl _, Own.nil _ _ _ _⟩
        case round =>
          obtain ⟨m, jn, A1, c1, hm, hj, rfl, rfl, hGi, hOi⟩ := hrel
          have HJ := Lib.hid hj
          have HGi := Lib.hid hGi
          have HOi := Lib.hid hOi
          obtain ⟨xi, hxi⟩ := id hGi
          have hs1 : wr.cell? ⟨w.heap.size, 1, none⟩ = some (.slice (some ⟨b, o, none⟩) n c) := by rw [hxi]; exact cell_keep_gx s1
          have lSi : w.heap.size < wr.heap.size := by rw [hxi, size_gx]; omega
          have lWo : Wo.heap.size ≤ wr.heap.size := by rw [hxi, size_gx]; omega
          by_cases hjm : m < nearB L.length h k - nearA h k
          · have hjL : jn < L.length := by omega
            have d2 : decide ((jn : Int) < (L.length : Int)) = true := decide_eq_true (by omega)
            have d3 : decide ((jn : Int) ≤ (k : Int) + (h : Int)) = true := decide_eq_true (by have := (Heb.out jn).1 (by omega); omega)
            have hjz : (jn : Int) < (L.length : Int) := by omega
            have cj : wr.cell? ⟨gS, jn, none⟩ = some (.int .i64 ((L.getD jn 0 : Nat) : Int)) := by rw [hxi]; exact cell_keep_gx (HNum.out jn hjL)
            have hdx := hlt.out jn hjL
            obtain ⟨q1, q2, q3⟩ := HCs0.out (L.getD jn 0) hdx
            obtain ⟨y, hy⟩ := Gx.trans hGi hgw
            have cs : wr.cell? ⟨b, o + L.getD jn 0 * 3 + 1, none⟩ = some (.int .i64 (g (L.getD jn 0)).n) := by rw [hy]; exact cell_keep_gx q2
            have ht : Hid ((nearL g L h k).take (m + 1) = (nearL g L h k).take m ++ [(g (L.getD jn 0)).n]) := Lib.hid (by rw [near_take hjm, hj])
            have lb : b < wr.heap.size := World.block_lt_of_cell? wr _ cs
            have lg : gS < wr.heap.size := World.block_lt_of_cell? wr _ cj
            have iz0 : ((L.getD jn 0 : Nat) : Int) < (n : Int) := by omega
            have hm2 : m ≤ 20000 := by omega
            have hgo := Gx.trans HG.out (Gx.refl W1)
            have w2 : Wo.cell? ⟨gS, jn, none⟩ = some (.int .i64 ((L.getD jn 0 : Nat) : Int)) := HNum.out jn hjL
            have w3 : Wo.cell? ⟨b, o + L.getD jn 0 * 3 + 1, none⟩ = some (.int .i64 (g (L.getD jn 0)).n) := by obtain ⟨x, hx⟩ := hgw; rw [hx]; exact cell_keep_gx q2
            clear q1 q2 q3 hOi hxi hy hj hgo
            generalize L.getD jn 0 = sg at *
            generalize (g sg).n = v at *
            generalize (nearL g L h k).take m = zs at *
            go_wp2
            go_region_held3 (fun W => (∃ x, W = gx Wo x) ∧ W.cell? ⟨w.heap.size, 1, none⟩ = some (.slice (some ⟨b, o, none⟩) n c) ∧ W.cell? ⟨gS, jn, none⟩ = some (.int .i64 ((sg : Nat) : Int)) ∧ W.cell? ⟨b, o + sg * 3 + 1, none⟩ = some (.int .i64 v))
              (refine ⟨(by repeat (first | (with_reducible exact Gx.refl _) | (with_reducible assumption) | (with_reducible refine Gx.gx ?_) | (with_reducible refine Gx.alloc ?_) | (with_reducible refine Gx.drew ?_) | (with_reducible refine Gx.drewN ?_) | (with_reducible refine Gx.setRow ?_ (by first | omega | (simp; done) | (simp <;> omega))) | (with_reducible refine Gx.setCell ?_ (by first | omega | (simp; done) | (simp <;> omega))))), ?_, ?_, ?_⟩ <;> first | assumption | exact cell_keep_gx ‹_› | go_keep | (simp [go_sem]; done))
              (first
              | (apply step_append_all' el_int Wo Wo.heap.size (v := .slice A1 m c1) (n := m) (xs := iC zs) (m := 1) (news := [.int .i64 v]); exact rfl; exact rfl; exact rfl; exact rfl; exact (fun h => by cases h); (focus omega); exact HOi.out.ofx (by repeat (first | (with_reducible exact Gx.refl _) | (with_reducible assumption) | (with_reducible refine Gx.gx ?_) | (with_reducible refine Gx.alloc ?_) | (with_reducible refine Gx.drew ?_) | (with_reducible refine Gx.drewN ?_) | (with_reducible refine Gx.setRow ?_ (by first | omega | (simp; done) | (simp <;> omega))) | (with_reducible refine Gx.setCell ?_ (by first | omega | (simp; done) | (simp <;> omega))))); exact Gx.trans (by repeat (first | (with_reducible exact Gx.refl _) | (with_reducible assumption) | (with_reducible refine Gx.gx ?_) | (with_reducible refine Gx.alloc ?_) | (with_reducible refine Gx.drew ?_) | (with_reducible refine Gx.drewN ?_) | (with_reducible refine Gx.setRow ?_ (by first | omega | (simp; done) | (simp <;> omega))) | (with_reducible refine Gx.setCell ?_ (by first | omega | (simp; done) | (simp <;> omega))))) HGi.out; (focus (simp <;> omega)); exact rfl; (focus (repeat (first | (with_reducible assumption) | ((with_reducible apply Shows.whole); focus ((focus (repeat (first | (with_reducible assumption) | (with_reducible exact At.new _ _) | (with_reducible refine At.row ?_) | ((with_reducible refine At.row_other ?_ ?_); rotate_left; (focus (simp <;> omega))) | (with_reducible refine At.app ?_) | (with_reducible refine At.tick ?_) | (with_reducible refine At.gx ?_) | ((with_reducible refine At.new' ?_); focus (simp; done)) | (with_reducible refine At.alloc ?_) | (with_reducible refine At.drew ?_) | (with_reducible exact Is.new _ _ _) | (with_reducible refine Is.row ?_) | ((with_reducible refine Is.row_other ?_ ?_); rotate_left; (focus (simp <;> omega))) | (with_reducible refine Is.gx ?_) | ((with_reducible refine Is.new' ?_); focus (simp; done)) | (with_reducible refine Is.alloc ?_) | (with_reducible refine Is.drew ?_)))); done)) | (with_reducible refine Shows.app ?_) | (with_reducible refine Shows.tick ?_) | (with_reducible refine Shows.gx ?_) | (with_reducible refine Shows.alloc ?_) | (with_reducible refine Shows.drew ?_)))); (focus (simp [Value.oneCell']; done)); (focus (simp only [maxLen]; omega)); (focus omega); rintro v2 W2 hW2 hO2 hg2; obtain ⟨A4, c4, rfl, -⟩ := hO2.is; have HO2 := Lib.hid hO2; have HW2 := Lib.hid hW2; have v1 : W2.cell? ⟨w.heap.size, 1, none⟩ = some (.slice (some ⟨b, o, none⟩) n c) := (by obtain ⟨x, hx⟩ := hW2; rw [hx]; exact cell_keep_gx s1); have v2 : W2.cell? ⟨gS, jn, none⟩ = some (.int .i64 ((sg : Nat) : Int)) := (by obtain ⟨x, hx⟩ := hW2; rw [hx]; exact cell_keep_gx w2); have v3 : W2.cell? ⟨b, o + sg * 3 + 1, none⟩ = some (.int .i64 v) := (by obtain ⟨x, hx⟩ := hW2; rw [hx]; exact cell_keep_gx w3); clear hO2 hg2))
            all_goals go_wp2
            all_goals go_roundw
            all_goals first
              | (have := HJ.out; simp [intOf]; omega)
              | exact ⟨m + 1, jn + 1, A4, c4, by omega, by have := HJ.out; omega, by go_num, rfl, HW2.out, by rw [ht.out, iC_app]; exact HO2.out⟩
          · have hjB : jn = nearB L.length h k := by omega
            have hd : (¬ jn < L.length) ∨ (jn < L.length ∧ (k : Int) + (h : Int) < (jn : Int)) := by
              have := Heb.out jn
              omega
            have hzs := near_all (g := g) (L := L) (h := h) (k := k) (m := m) (by omega)
            rw [hzs] at HOi
            obtain ⟨m1, rfl⟩ : ∃ m1, m = m1 + 1 := ⟨m - 1, by omega⟩
            have hm1 : nearB L.length h k - nearA h k = m1 + 1 := by omega
            have hmb : m1 ≤ 20000 := by omega
            have Hmid : Hid (midN g L h k = (srt (nearL g L h k)).getD (m1 / 2) 0) := Lib.hid (by unfold midN; rw [hm1, Nat.add_sub_cancel])
            have Hln : Hid (m1 / 2 < (srt (nearL g L h k)).length) := Lib.hid (by rw [srt_len, hnl, hm1]; omega)
            have hF := Lib.hid (medF_succ g L h k)
            have hsh : Hid (Shows (iC (nearL g L h k)) A1 wr) := Lib.hid (by obtain ⟨A', c', e, _, _, _, hs⟩ := HOi.out.is; injection e with e1 e2 e3; subst e1; exact hs)
            have hAn := Lib.hid HOi.out.nilc
            have HSo := Lib.hid (fun W (hW : ∃ x, W = gx wr x) => RSorted_any (nearL g L h k) A1 c1 (m1 + 1) (by omega) W (shows_ofx hsh.out hW) hAn.out (by omega))
            have H3 := H'.out.of_gx hGi
            have d1i : wr.cell? ⟨gD, 1, none⟩ = some (.slice A7 n c7) := by rw [cell_of_row wr _ _ _ _ _ H3.dd]; rfl
            have lDi : gD < wr.heap.size := H3.dd.lt
            have ck : wr.cell? ⟨gS, k, none⟩ = some (.int .i64 ((L.getD k 0 : Nat) : Int)) := by rw [hxi]; exact cell_keep_gx (HNum.out k hlt2)
            have lg : gS < wr.heap.size := World.block_lt_of_cell? wr _ ck
            have HM2 := HM.out (by omega)
            obtain ⟨gM, rfl, _, _, _, _, _⟩ := H3.cell hi
            have neD : gM ≠ gD := by obtain ⟨gM', e, hI, _⟩ := H3.row (by omega); obtain rfl : gM = gM' := (by simpa using e); exact is_ne_at hI H3.dd (by decide)
            have HGw := Lib.hid (Gx.trans hGi HG.out)
            have HM3 : Hid (W1.heap.size ≤ gM) := Lib.hid (by obtain ⟨gM', e, hb⟩ := HM2; obtain rfl : gM = gM' := (by simpa using e); exact hb)
            have neS : gM ≠ gS := by have := HM3.out; omega
            have iz0 : ((L.getD k 0 : Nat) : Int) < (n : Int) := by omega
            clear H3 HM2 hm1 hGi hOi hxi hm hzs hjm hnl n1 n2 n3 hj hjB HJ
            generalize L.getD k 0 = sg at *
            obtain ⟨m2, hm2⟩ : ∃ m2, m1 / 2 = m2 := ⟨_, rfl⟩
            have e4 : IntKind.i64.wrap (m1 : Int) = (m1 : Int) := by rw [IntWalk.i64_in _ (by omega)]
            have e5 : ((m1 : Int)).tdiv 2 = (m2 : Int) := by rw [Int.tdiv_eq_ediv_of_nonneg (by omega)]; omega
            have e55 : IntKind.i64.wrap (m2 : Int) = (m2 : Int) := by rw [IntWalk.i64_in _ (by omega)]
            have e56 : IntKind.i64.wrap ((IntKind.i64.wrap (m1 : Int)).tdiv 2) = (m2 : Int) := by rw [e4, e5, e55]
            have e6 : (m2 : Int) < (m1 : Int) + 1 := by omega
            have e7 : (0 : Int) ≤ (m2 : Int) := by omega
            rw [hm2] at Hmid Hln
            clear hm2
            rcases hd with d2 | ⟨d2, d3⟩
            rotate_left
            have d4 : decide ((jn : Int) ≤ (k : Int) + (h : Int)) = false := decide_eq_false (by omega)
            have d5 : (jn : Int) < (L.length : Int) := by omega
            have d6 : decide ((jn : Int) < (L.length : Int)) = true := decide_eq_true d5
            rotate_left
            have d5 : ¬ ((jn : Int) < (L.length : Int)) := by omega
            have d6 : decide ((jn : Int) < (L.length : Int)) = false := decide_eq_false d5
            all_goals
              go_wp2
              go_region_with
                (first
                | (go_at_call 19; refine (HSo.out _ (by first | exact Gx.refl _ | exact Gx.drew (Gx.refl _) | exact Gx.drewN (Gx.refl _))).mono ?_; rintro e W2 ⟨AR, cR, rfl, hG2, hI0⟩; obtain ⟨gR, rfl, hI⟩ := hI0 (by omega); have G2 : ∃ x, W2 = gx wr x := Gx.trans hG2 (by first | exact Gx.refl _ | exact Gx.drew (Gx.refl _) | exact Gx.drewN (Gx.refl _)); have H2 := H'.out.of_gx (Gx.trans G2 HGi.out); have d1' : W2.cell? ⟨gD, 1, none⟩ = some (.slice (some ⟨gM, 0, none⟩) n c7) := (by rw [cell_of_row W2 _ _ _ _ _ H2.dd]; rfl); have ck' : W2.cell? ⟨gS, k, none⟩ = some (.int .i64 ((sg : Nat) : Int)) := (by obtain ⟨x, hx⟩ := G2; rw [hx]; exact cell_keep_gx ck); have rM : W2.cell? ⟨gR, m2, none⟩ = some (.int .i64 (midN g L h k)) := (by rw [Hmid.out]; exact hI.cells _ Hln.out); obtain ⟨gM', eM, lM2, hfz2, y1, y2, y3⟩ := H2.cell hi; obtain rfl : gM = gM' := (by simpa using eM); have fz := hfz2 (sg * 3 + 1); have HP := Lib.hid (H2.putN (v := midN g L h k) hi); have HG2 := Lib.hid (Gx.trans (Gx.trans G2 HGi.out) HG.out); have lD2 : gD < W2.heap.size := H2.dd.lt; have lR2 : gR < W2.heap.size := (by obtain ⟨cs, h⟩ := hI.is; exact h.lt); have lg2 : gS < W2.heap.size := World.block_lt_of_cell? W2 _ ck'; clear hI hI0 H2 hfz2 eM))
              all_goals go_wp2
              all_goals go_roundw
              all_goals first
                | (simp [intOf] <;> omega)
                | exact ⟨k + 1, by omega, by first | rfl | go_num, by first | exact Gx.setCell HG2.out HM3.out | exact Gx.drew (Gx.setCell HG2.out HM3.out) | exact Gx.drewN (Gx.setCell HG2.out HM3.out) | exact Gx.setCell (Gx.drewN HG2.out) HM3.out, by rw [hF.out]; first | exact HP.out | exact HP.out.of_gx (Gx.drew (Gx.refl _)) | exact HP.out.of_gx (Gx.drewN (Gx.refl _))⟩
      · obtain rfl : k = L.length := by omega
        have d0 : wr.cell? ⟨gD, 0, none⟩ = some (.int .i64 den) := by rw [cell_of_row wr _ _ _ _ _ H.dd]; rfl
        have d1 : wr.cell? ⟨gD, 1, none⟩ = some (.slice A7 n c7) := by rw [cell_of_row wr _ _ _ _ _ H.dd]; rfl
        have lD : gD < wr.heap.size := H.dd.lt
        have r0 : wr.cell? ⟨w.heap.size + 1, 0, none⟩ = some (.int .i64 0) := by rw [cell_of_row wr _ _ _ _ _ H.res]; rfl
        have r1 : wr.cell? ⟨w.heap.size + 1, 1, none⟩ = some (.slice none 0 0) := by rw [cell_of_row wr _ _ _ _ _ H.res]; rfl
        have f0 : wr.frozen? ⟨w.heap.size + 1, 0, none⟩ = false := H.res.frz
        have f1 : wr.frozen? ⟨w.heap.size + 1, 1, none⟩ = false := H.res.frz
        have lR : w.heap.size + 1 < wr.heap.size := H.res.lt
        clear H
        go_wp2
        refine bodyPost_ret (v := .tuple #[serV den A7 n c7, .int .i64 0]) (by simp [results, Tryd.results6, go_sem, r0, r1]) rfl ?_
        exact DbSt.fin H'.out
end Go.Proofs.YtmpokfbliacmoaaDoor
