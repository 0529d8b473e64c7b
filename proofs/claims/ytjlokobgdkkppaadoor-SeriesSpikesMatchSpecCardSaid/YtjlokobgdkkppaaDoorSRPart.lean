/-
  Part, the reference's, and Part of anything, both sides: contracts.
-/
import Derived.Test.YtjlokobgdkkppaaDoorSPart
import Derived.Test.YtjlokobgdkkppaaDoorSRRsm
namespace Go.Proofs.YtjlokobgdkkppaaDoor
open Go.RowKit
-- AT2
-- AT3

set_option maxHeartbeats 4000000 in
set_option maxRecDepth 100000 in
theorem RPart_go (den : Int) (g : Nat → Sm) (n c : Nat) (A : Option Addr) (fr to : Int) (w : World) (hL : SmAt w g n A)
    (h0 : serE den g n = 0) (h1 : 0 ≤ fr) (h2 : fr ≤ to) (h3 : to ≤ 1099511627777) :
    Calls Tryd.prog 18 #[serV den A n c, .int .i64 fr, .int .i64 to] w (SerPost w den (ptF g (aheadN g fr n)) (aheadN g to n - aheadN g fr n) 0) := by
  obtain ⟨_, hn, hG⟩ := goodS_of h0
  have hLw : SmAt ((w.alloc (.cells #[.int .i64 den, .slice A n c] 24)).alloc (.cells #[.int .i64 0, .slice none 0 0] 24)) g n A := hL.alloc.alloc
  have HC := fun W h => RCheck_any den g n c A W h
  rw [h0] at HC
  clear h0
  have m1 := aheadN_le g to n
  have m2 := aheadN_mono g h2 n
  have k1 : decide (fr < 0) = false := decide_eq_false (by omega)
  have k2 : decide (to < fr) = false := decide_eq_false (by omega)
  have k3 : decide (1099511627777 < to) = false := decide_eq_false (by omega)
  have HI := Lib.hid (aheadN_is hG fr)
  have HJ := Lib.hid (aheadN_is hG to)
  obtain ⟨f, hf⟩ : ∃ f, f = ptF g (aheadN g fr n) := ⟨_, rfl⟩
  rw [← hf]
  have HF : Hid (∀ k, f k = g (aheadN g fr n + k)) := Lib.hid (fun k => by rw [hf]; rfl)
  clear hf
  generalize aheadN g fr n = i at *
  generalize aheadN g to n = j at *
  go_enter Tryd.func18, Tryd.ntmps18
  go_wp2_with (go_at_call 13; refine (HC _ hLw).mono ?_; rintro e w' ⟨rfl, z1, rfl⟩)
  obtain ⟨gO, hgO⟩ : ∃ gO, gO = w.heap.size + 1 + 1 + z1.n := ⟨_, rfl⟩
  rw [← hgO]
  have HgO := Lib.hid hgO
  clear hgO
  go_loopw [10] (fun i' wr => ∃ (k q : Nat) (A1 : Option Addr) (c1 : Nat), k ≤ n ∧ i' = .int .i64 k ∧ ((k ≤ i ∧ q = 0) ∨ (i < k ∧ k ≤ j ∧ q = k - i) ∨ (i < k ∧ j < k ∧ q = j - i)) ∧ RtSt w wr gO q f den A1 c1 #[.int .i64 den, .slice A n c] #[.int .i64 0, .slice none 0 0]) (fun i' _ => n - (intOf i').toNat)
  case atStart =>
    have e1 := HgO.out
    refine ⟨0, 0, none, 0, Nat.zero_le _, rfl, .inl ⟨Nat.zero_le _, rfl⟩, ⟨(by repeat (first | (with_reducible exact Gx.refl _) | (with_reducible assumption) | (with_reducible refine Gx.gx ?_) | (with_reducible refine Gx.alloc ?_) | (with_reducible refine Gx.drew ?_) | (with_reducible refine Gx.drewN ?_) | (with_reducible refine Gx.setRow ?_ (by first | omega | (simp; done) | (simp <;> omega))) | (with_reducible refine Gx.setCell ?_ (by first | omega | (simp; done) | (simp <;> omega))))), ?_, ?_, ?_, by omega, Own.nil _ _ _ _⟩⟩
    all_goals first | (refine At.new' ?_; simp; omega) | ((focus (repeat (first | (with_reducible assumption) | (with_reducible exact At.new _ _) | (with_reducible refine At.row ?_) | ((with_reducible refine At.row_other ?_ ?_); rotate_left; (focus (simp <;> omega))) | (with_reducible refine At.app ?_) | (with_reducible refine At.tick ?_) | (with_reducible refine At.gx ?_) | ((with_reducible refine At.new' ?_); focus (simp; done)) | (with_reducible refine At.alloc ?_) | (with_reducible refine At.drew ?_) | (with_reducible exact Is.new _ _ _) | (with_reducible refine Is.row ?_) | ((with_reducible refine Is.row_other ?_ ?_); rotate_left; (focus (simp <;> omega))) | (with_reducible refine Is.gx ?_) | ((with_reducible refine Is.new' ?_); focus (simp; done)) | (with_reducible refine Is.alloc ?_) | (with_reducible refine Is.drew ?_)))); done)
  case round =>
    obtain ⟨k, q, A1, c1, hk, rfl, hq, hst⟩ := hrel
    have s0 : wr.cell? ⟨w.heap.size, 0, none⟩ = some (.int .i64 den) := by rw [cell_of_row wr _ _ _ _ _ hst.ser]; rfl
    have s1 : wr.cell? ⟨w.heap.size, 1, none⟩ = some (.slice A n c) := by rw [cell_of_row wr _ _ _ _ _ hst.ser]; rfl
    have l0 : w.heap.size < wr.heap.size := hst.ser.lt
    have l2 : w.heap.size + 1 < wr.heap.size := hst.res.lt
    have l3 : gO < wr.heap.size := hst.out.lt
    have o0 : wr.cell? ⟨gO, 0, none⟩ = some (.int .i64 den) := by rw [cell_of_row wr _ _ _ _ _ hst.out]; rfl
    have o1 : wr.cell? ⟨gO, 1, none⟩ = some (.slice A1 q c1) := by rw [cell_of_row wr _ _ _ _ _ hst.out]; rfl
    have hfar := hst.far
    have of1 : wr.frozen? ⟨gO, 1, none⟩ = false := hst.out.frz
    by_cases hlt : k < n
    · have hkz : (k : Int) < (n : Int) := by omega
      obtain ⟨b, o, rfl, hbw, HCs⟩ := hL.get (by omega)
      obtain ⟨t1, t2, t3⟩ := HCs.out k hlt
      obtain ⟨x, hx⟩ := hst.grew
      have d1 : wr.cell? ⟨b, o + k * 3, none⟩ = some (.int .i64 (g k).t) := by rw [hx]; exact cell_keep_gx t1
      have d2 : wr.cell? ⟨b, o + k * 3 + 1, none⟩ = some (.int .i64 (g k).n) := by rw [hx]; exact cell_keep_gx t2
      have d3 : wr.cell? ⟨b, o + k * 3 + 2, none⟩ = some (.int .i64 (g k).m) := by rw [hx]; exact cell_keep_gx t3
      have hb0 : b < wr.heap.size := World.block_lt_of_cell? wr _ d1
      have HS := Lib.hid hst
      have HQ := Lib.hid hq
      have hcase : (k < i ∧ decide (fr ≤ (g k).t) = false) ∨ (i ≤ k ∧ k < j ∧ q = k - i ∧ decide (fr ≤ (g k).t) = true ∧ decide ((g k).t < to) = true) ∨ (i ≤ k ∧ j ≤ k ∧ decide (fr ≤ (g k).t) = true ∧ decide ((g k).t < to) = false) := by
        rcases Nat.lt_or_ge k i with e1 | e1
        · exact .inl ⟨e1, decide_eq_false (by have := HI.out.1 k e1; omega)⟩
        · have e2 := HI.out.2 k e1 hlt
          rcases Nat.lt_or_ge k j with e3 | e3
          · exact .inr (.inl ⟨e1, e3, by omega, decide_eq_true e2, decide_eq_true (HJ.out.1 k e3)⟩)
          · exact .inr (.inr ⟨e1, e3, decide_eq_true e2, decide_eq_false (by have := HJ.out.2 k e3 hlt; omega)⟩)
      have HFk := HF.out
      clear hst hx t1 t2 t3 hq
      rcases hcase with ⟨e1, p1⟩ | ⟨e1, e2, e3, p1, p2⟩ | ⟨e1, e2, p1, p2⟩
      · clear HFk
        go_wp2
        go_roundw
        case rel => exact ⟨k + 1, q, A1, c1, by omega, by go_num, by have := HQ.out; omega, HS.out.alloc⟩
        case measure => simp [intOf]; omega
      · have hfk : f q = g k := by rw [HFk q, show i + q = k by omega]
        clear HFk
        generalize g k = X at *
        obtain ⟨xt, xn, xm⟩ := X
        simp only at d1 d2 d3 p1 p2
        have Hfk := Lib.hid hfk
        have HE := Lib.hid (And.intro e1 (And.intro e2 e3))
        have hq2 : q ≤ 20000 := by omega
        clear hfk e3
        go_wp2_with (at_builtin; (with_reducible apply append_new (o := ⟨some 59, _, _, _, _, _⟩) el_sample w (w.heap.size + 1 + 1) (v := .slice A1 q c1) (n := q) (xs := smC f q) (m := 1) (news := [.int .i64 xt, .int .i64 xn, .int .i64 xm])); go_loud (exact rfl; exact rfl; exact rfl; exact rfl; (focus omega); exact ((HS.out.alloc (o := (.cells #[.int .i64 xt, .int .i64 xn, .int .i64 xm] 61))).alloc (o := (.cells #[.int .i64 xt, .int .i64 xn, .int .i64 xm] 61))).own; exact ((HS.out.alloc (o := (.cells #[.int .i64 xt, .int .i64 xn, .int .i64 xm] 61))).alloc (o := (.cells #[.int .i64 xt, .int .i64 xn, .int .i64 xm] 61))).grew; (focus (simp <;> omega)); exact rfl; (focus (repeat (first | (with_reducible assumption) | ((with_reducible apply Shows.whole); focus ((focus (repeat (first | (with_reducible assumption) | (with_reducible exact At.new _ _) | (with_reducible refine At.row ?_) | ((with_reducible refine At.row_other ?_ ?_); rotate_left; (focus (simp <;> omega))) | (with_reducible refine At.app ?_) | (with_reducible refine At.tick ?_) | (with_reducible refine At.gx ?_) | ((with_reducible refine At.new' ?_); focus (simp; done)) | (with_reducible refine At.alloc ?_) | (with_reducible refine At.drew ?_) | (with_reducible exact Is.new _ _ _) | (with_reducible refine Is.row ?_) | ((with_reducible refine Is.row_other ?_ ?_); rotate_left; (focus (simp <;> omega))) | (with_reducible refine Is.gx ?_) | ((with_reducible refine Is.new' ?_); focus (simp; done)) | (with_reducible refine Is.alloc ?_) | (with_reducible refine Is.drew ?_)))); done)) | (with_reducible refine Shows.app ?_) | (with_reducible refine Shows.tick ?_) | (with_reducible refine Shows.gx ?_) | (with_reducible refine Shows.alloc ?_) | (with_reducible refine Shows.drew ?_)))); (focus (simp [Value.oneCell']; done)); (focus (simp only [maxLen]; omega)); (focus omega); rintro v2 W2 hW2 hO2 hg; obtain ⟨A2, c2, rfl, -⟩ := hO2.is; have hM := ((HS.out.alloc (o := (.cells #[.int .i64 xt, .int .i64 xn, .int .i64 xm] 61))).alloc (o := (.cells #[.int .i64 xt, .int .i64 xn, .int .i64 xm] 61))); have hN := RtSt.step hM hW2 hg (by rw [Hfk.out]; exact hO2); have ho := hM.out.grown hg (own_ne_at hM.own hM.out (by decide)); have p1 : W2.cell? ⟨gO, 1, none⟩ = some (.slice A1 q c1) := (by rw [cell_of_row W2 _ _ _ _ _ ho]; rfl); have pf : W2.frozen? ⟨gO, 1, none⟩ = false := ho.frz; have HN := Lib.hid hN; clear hN ho hg hO2 hW2 hM))
        go_roundw
        case rel => exact ⟨k + 1, q + 1, A2, c2, by omega, by go_num, by have := HE.out; omega, HN.out⟩
        case measure => simp [intOf]; omega
      · clear HFk
        go_wp2
        go_roundw
        case rel => exact ⟨k + 1, q, A1, c1, by omega, by go_num, by have := HQ.out; omega, HS.out.alloc⟩
        case measure => simp [intOf]; omega
    · obtain rfl : k = n := by omega
      obtain rfl : q = j - i := by omega
      have HS := Lib.hid hst
      have qr : wr.cell? ⟨w.heap.size + 1, 0, none⟩ = some (.int .i64 0) := by rw [cell_of_row wr _ _ _ _ _ hst.res]; rfl
      have qr1 : wr.cell? ⟨w.heap.size + 1, 1, none⟩ = some (.slice none 0 0) := by rw [cell_of_row wr _ _ _ _ _ hst.res]; rfl
      have qf0 : wr.frozen? ⟨w.heap.size + 1, 0, none⟩ = false := hst.res.frz
      have qf1 : wr.frozen? ⟨w.heap.size + 1, 1, none⟩ = false := hst.res.frz
      clear hst hq
      go_wp2
      refine bodyPost_ret (v := .tuple #[serV den A1 (j - i) c1, .int .i64 0]) (by simp [results, Tryd.results18, go_sem, qr, qr1]) rfl ?_
      exact RtSt.fin HS.out
set_option maxHeartbeats 2000000 in
set_option maxRecDepth 100000 in
theorem Part_any (den : Int) (g : Nat → Sm) (n c : Nat) (A : Option Addr) (hN : A = none → n = 0 ∧ c = 0) (hnc : n ≤ c) (fr to : Int) (w : World) (hL : SmAt w g n A) :
    Calls Tryd.prog 17 #[serV den A n c, .int .i64 fr, .int .i64 to] w (SerPost w (if ptE den g n fr to = 0 then den else 0) (ptF g (aheadN g fr n)) (if ptE den g n fr to = 0 then aheadN g to n - aheadN g fr n else 0) (ptE den g n fr to)) := by
  have hLw : SmAt ((w.alloc (.cells #[.int .i64 den, .slice A n c] 24)).alloc (.cells #[.int .i64 0, .slice none 0 0] 24)) g n A := hL.alloc.alloc
  have HC := fun W h => Check_any den g n c A W h
  by_cases h0 : serE den g n = 0
  · by_cases h1 : 0 ≤ fr ∧ fr ≤ to ∧ to ≤ 1099511627777
    · rw [ptE_3 h0 h1, if_pos rfl, if_pos rfl]
      exact Part_go den g n c A hN hnc fr to w hL h0 h1.1 h1.2.1 h1.2.2
    · rw [ptE_2 h0 h1, if_neg (by decide), if_neg (by decide)]
      rw [h0] at HC
      have hs : (decide (fr < 0) = true) ∨ (decide (fr < 0) = false ∧ decide (to < fr) = true) ∨ (decide (fr < 0) = false ∧ decide (to < fr) = false ∧ decide (1099511627777 < to) = true) := by
        simp only [decide_eq_true_eq, decide_eq_false_iff_not]
        omega
      clear h0 h1
      rcases hs with k1 | ⟨k1, k2⟩ | ⟨k1, k2, k3⟩
      all_goals go_enter Tryd.func17, Tryd.ntmps17
      all_goals go_wp2_with (go_at_call 12; refine (HC _ hLw).mono ?_; rintro e w' ⟨rfl, z1, rfl⟩)
      all_goals refine bodyPost_ret (v := .tuple #[serV 0 none 0 0, .int .i64 9]) (by simp [results, Tryd.results17, go_sem]) rfl ?_
      all_goals exact SerPost.zero (by repeat (first | (with_reducible exact Gx.refl _) | (with_reducible assumption) | (with_reducible refine Gx.gx ?_) | (with_reducible refine Gx.alloc ?_) | (with_reducible refine Gx.drew ?_) | (with_reducible refine Gx.drewN ?_) | (with_reducible refine Gx.setRow ?_ (by first | omega | (simp; done) | (simp <;> omega))) | (with_reducible refine Gx.setCell ?_ (by first | omega | (simp; done) | (simp <;> omega)))))
  · rw [ptE_1 h0, if_neg h0, if_neg h0]
    have n1 := ne0 h0
    have n2 := ne0' h0
    clear h0
    generalize serE den g n = q at *
    go_enter Tryd.func17, Tryd.ntmps17
    go_wp2_with (go_at_call 12; refine (HC _ hLw).mono ?_; rintro e w' ⟨rfl, z1, rfl⟩)
    refine bodyPost_ret (v := .tuple #[serV 0 none 0 0, .int .i64 q]) (by simp [results, Tryd.results17, go_sem]) rfl ?_
    exact SerPost.zero (by repeat (first | (with_reducible exact Gx.refl _) | (with_reducible assumption) | (with_reducible refine Gx.gx ?_) | (with_reducible refine Gx.alloc ?_) | (with_reducible refine Gx.drew ?_) | (with_reducible refine Gx.drewN ?_) | (with_reducible refine Gx.setRow ?_ (by first | omega | (simp; done) | (simp <;> omega))) | (with_reducible refine Gx.setCell ?_ (by first | omega | (simp; done) | (simp <;> omega)))))
set_option maxHeartbeats 2000000 in
set_option maxRecDepth 100000 in
theorem RPart_any (den : Int) (g : Nat → Sm) (n c : Nat) (A : Option Addr) (fr to : Int) (w : World) (hL : SmAt w g n A) :
    Calls Tryd.prog 18 #[serV den A n c, .int .i64 fr, .int .i64 to] w (SerPost w (if ptE den g n fr to = 0 then den else 0) (ptF g (aheadN g fr n)) (if ptE den g n fr to = 0 then aheadN g to n - aheadN g fr n else 0) (ptE den g n fr to)) := by
  have hLw : SmAt ((w.alloc (.cells #[.int .i64 den, .slice A n c] 24)).alloc (.cells #[.int .i64 0, .slice none 0 0] 24)) g n A := hL.alloc.alloc
  have HC := fun W h => RCheck_any den g n c A W h
  by_cases h0 : serE den g n = 0
  · by_cases h1 : 0 ≤ fr ∧ fr ≤ to ∧ to ≤ 1099511627777
    · rw [ptE_3 h0 h1, if_pos rfl, if_pos rfl]
      exact RPart_go den g n c A fr to w hL h0 h1.1 h1.2.1 h1.2.2
    · rw [ptE_2 h0 h1, if_neg (by decide), if_neg (by decide)]
      rw [h0] at HC
      have hs : (decide (fr < 0) = true) ∨ (decide (fr < 0) = false ∧ decide (to < fr) = true) ∨ (decide (fr < 0) = false ∧ decide (to < fr) = false ∧ decide (1099511627777 < to) = true) := by
        simp only [decide_eq_true_eq, decide_eq_false_iff_not]
        omega
      clear h0 h1
      rcases hs with k1 | ⟨k1, k2⟩ | ⟨k1, k2, k3⟩
      all_goals go_enter Tryd.func18, Tryd.ntmps18
      all_goals go_wp2_with (go_at_call 13; refine (HC _ hLw).mono ?_; rintro e w' ⟨rfl, z1, rfl⟩)
      all_goals refine bodyPost_ret (v := .tuple #[serV 0 none 0 0, .int .i64 9]) (by simp [results, Tryd.results18, go_sem]) rfl ?_
      all_goals exact SerPost.zero (by repeat (first | (with_reducible exact Gx.refl _) | (with_reducible assumption) | (with_reducible refine Gx.gx ?_) | (with_reducible refine Gx.alloc ?_) | (with_reducible refine Gx.drew ?_) | (with_reducible refine Gx.drewN ?_) | (with_reducible refine Gx.setRow ?_ (by first | omega | (simp; done) | (simp <;> omega))) | (with_reducible refine Gx.setCell ?_ (by first | omega | (simp; done) | (simp <;> omega)))))
  · rw [ptE_1 h0, if_neg h0, if_neg h0]
    have n1 := ne0 h0
    have n2 := ne0' h0
    clear h0
    generalize serE den g n = q at *
    go_enter Tryd.func18, Tryd.ntmps18
    go_wp2_with (go_at_call 13; refine (HC _ hLw).mono ?_; rintro e w' ⟨rfl, z1, rfl⟩)
    refine bodyPost_ret (v := .tuple #[serV 0 none 0 0, .int .i64 q]) (by simp [results, Tryd.results18, go_sem]) rfl ?_
    exact SerPost.zero (by repeat (first | (with_reducible exact Gx.refl _) | (with_reducible assumption) | (with_reducible refine Gx.gx ?_) | (with_reducible refine Gx.alloc ?_) | (with_reducible refine Gx.drew ?_) | (with_reducible refine Gx.drewN ?_) | (with_reducible refine Gx.setRow ?_ (by first | omega | (simp; done) | (simp <;> omega))) | (with_reducible refine Gx.setCell ?_ (by first | omega | (simp; done) | (simp <;> omega)))))
end Go.Proofs.YtjlokobgdkkppaaDoor
