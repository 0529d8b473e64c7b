/-
  Spikes, the program's: its loop.
-/
import Derived.Test.YtjlokobgdkkppaaDoorSSpk
namespace Go.Proofs.YtjlokobgdkkppaaDoor
open Go.RowKit
-- AT2
-- AT3

theorem sol_at {b : Nat} {W : World} {g : Nat → Sm} {L : List Nat} {A : Option Addr} {c : Nat} (h : Own b W 67 4 (.slice A L.length c) L.length (slC g L)) {k : Nat} (hk : k + 2 < L.length) :
    ∃ gS, A = some ⟨gS, 0, none⟩ ∧ gS < W.heap.size ∧ W.cell? ⟨gS, k * 4 + 1, none⟩ = some (.int .i64 (g (L.getD k 0)).n) ∧ W.cell? ⟨gS, k * 4 + 4 + 1, none⟩ = some (.int .i64 (g (L.getD (k + 1) 0)).n) ∧ W.cell? ⟨gS, k * 4 + 8 + 1, none⟩ = some (.int .i64 (g (L.getD (k + 2) 0)).n) ∧ W.cell? ⟨gS, k * 4 + 4 + 3, none⟩ = some (.int .i64 ((L.getD (k + 1) 0 : Nat) : Int)) := by
  obtain ⟨gS, e, hg, hc⟩ := sol_cells h (by omega)
  obtain ⟨_, a, _, _⟩ := hc k (by omega)
  obtain ⟨_, b1, _, b2⟩ := hc (k + 1) (by omega)
  obtain ⟨_, c1, _, _⟩ := hc (k + 2) (by omega)
  rw [show (k + 1) * 4 = k * 4 + 4 by omega] at b1 b2
  rw [show (k + 2) * 4 = k * 4 + 8 by omega] at c1
  exact ⟨gS, e, hg, a, b1, c1, b2⟩
theorem solL_rise (g : Nat → Sm) : ∀ n i j, i < j → j < (solL g n).length → (solL g n).getD i 0 < (solL g n).getD j 0
  | 0, i, j, _, hj => by have : (solL g 0).length = 0 := rfl; omega
  | n + 1, i, j, hij, hj => by
    by_cases h : 3 ≤ (g n).m
    · rw [solL_yes h] at hj ⊢
      simp only [List.length_append, List.length_cons, List.length_nil] at hj
      have hl := solL_lt g n
      rcases Nat.lt_or_ge j (solL g n).length with h1 | h1
      · have := solL_rise g n i j hij h1
        simp only [List.getD, List.getElem?_append_left h1, List.getElem?_append_left (by omega : i < (solL g n).length)] at this ⊢
        exact this
      · obtain rfl : j = (solL g n).length := by omega
        have h2 : i < (solL g n).length := hij
        have e1 : (solL g n ++ [n]).getD (solL g n).length 0 = n := by simp [List.getD]
        have e2 : (solL g n ++ [n]).getD i 0 = (solL g n)[i] := by simp [List.getD, List.getElem?_append_left h2, h2]
        rw [e1, e2]
        exact hl _ (List.getElem_mem h2)
    · rw [solL_no h] at hj ⊢
      exact solL_rise g n i j hij hj
theorem solL_at_lt (g : Nat → Sm) (n : Nat) : ∀ k, k < (solL g n).length → (solL g n).getD k 0 < n := fun k hk =>
  solL_lt g n _ (by rw [List.getD, List.getElem?_eq_getElem hk]; exact List.getElem_mem hk)
theorem ok_in50 {x : Sm} (h : smOk x) : in50 x.n := by unfold smOk at h; unfold in50; exact ⟨h.2.2.1, h.2.2.2.1⟩
set_option maxHeartbeats 4000000 in
set_option maxRecDepth 100000 in
theorem Spikes_go (den : Int) (g : Nat → Sm) (n c : Nat) (A : Option Addr) (most : Int) (w : World) (hL : SmAt w g n A) (h0 : serE den g n = 0) (hm0 : 0 ≤ most) (hm1 : most ≤ 1125899906842624) :
    Calls Tryd.prog 26 #[serV den A n c, .int .i64 most] w (IntPost w (spkL g (solL g n) most (solL g n).length) 0) := by
  obtain ⟨_, hn, hG⟩ := goodS_of h0
  have hLw : SmAt (w.alloc (.cells #[.int .i64 den, .slice A n c] 24)) g n A := hL.alloc
  have HC := fun W h => Check_any den g n c A W h
  rw [h0] at HC
  have HS := Lib.hid (fun W (h : SmAt W g n A) => solids_any g n c A W h hn)
  have hle := solL_len g n
  have hlt := Lib.hid (solL_at_lt g n)
  have hin : Hid (∀ k, k < (solL g n).length → in50 (g ((solL g n).getD k 0)).n) := Lib.hid fun k hk => ok_in50 (hG.ok _ (solL_at_lt g n k hk))
  have k1 : decide (most < 0) = false := decide_eq_false (by omega)
  have k2 : decide (1125899906842624 < most) = false := decide_eq_false (by omega)
  clear h0 hL
  generalize solL g n = L at *
  go_enter Tryd.func26, Tryd.ntmps26
  go_wp2_with (go_at_call 12; refine (HC _ hLw).mono ?_; rintro e w' ⟨rfl, z1, rfl⟩)
  refine (HS.out _ hLw.gx).mono ?_
  rintro e W8 ⟨A2, c2, x2, rfl, hW8, hO⟩
  have G8 : ∃ x, W8 = gx w x := by rw [hW8]; exact (by repeat (first | (with_reducible exact Gx.refl _) | (with_reducible assumption) | (with_reducible refine Gx.gx ?_) | (with_reducible refine Gx.alloc ?_) | (with_reducible refine Gx.drew ?_) | (with_reducible refine Gx.drewN ?_) | (with_reducible refine Gx.setRow ?_ (by first | omega | (simp; done) | (simp <;> omega))) | (with_reducible refine Gx.setCell ?_ (by first | omega | (simp; done) | (simp <;> omega)))))
  have HO8 := Lib.hid (hO.base (b' := w.heap.size) (by rw [size_gx, size_alloc']; omega))
  obtain ⟨A', c', e8, hcap, _, _, _⟩ := hO.is
  injection e8 with e7 e8 e9
  subst e9
  clear hW8 hO e7 e8
  go_wp2
  have HG8 := Lib.hid G8
  go_loopw [28, 7] (fun i s wr => ∃ (k : Nat) (A1 : Option Addr) (c1 : Nat), k ≤ L.length ∧ i = .int .i64 k ∧ s = .slice A1 (spkL g L most k).length c1 ∧ (∃ x, wr = gx w x) ∧ Own w.heap.size wr 67 4 (.slice A2 L.length c2) L.length (slC g L) ∧ Own w.heap.size wr 3 1 (.slice A1 (spkL g L most k).length c1) (spkL g L most k).length (numI (spkL g L most k))) (fun i _ _ => L.length - (intOf i).toNat)
  case atStart => exact ⟨0, none, 0, Nat.zero_le _, rfl, rfl, HG8.out, HO8.out, Own.nil _ _ _ _⟩
  case round =>
    obtain ⟨k, A1, c1, hk, rfl, rfl, hG', hS, hO⟩ := hrel
    have hq := spkL_len g L most k
    have HG' := Lib.hid hG'
    have HS' := Lib.hid hS
    have HO := Lib.hid hO
    have hwr : w.heap.size ≤ wr.heap.size := by obtain ⟨x, hx⟩ := hG'; rw [hx, size_gx]; omega
    by_cases hlt' : k < L.length
    · have hkz : (k : Int) < (L.length : Int) := by omega
      have y1 : (k : Int) ≤ (L.length : Int) := by omega
      have y2 : (L.length : Int) ≤ (c2 : Int) := by omega
      have y3 : (0 : Int) ≤ (k : Int) := by omega
      have y4 : (k : Int) ≤ (c2 : Int) := by omega
      have y5 : ¬ c2 = k := by omega
      obtain ⟨gS0, hA2, _, _⟩ := sol_cells hS (by omega)
      subst hA2
      by_cases h3 : k + 2 < L.length
      · obtain ⟨gS, e, hgS, x1, x2, x3, x4⟩ := sol_at hS h3
        obtain rfl : gS0 = gS := by simpa using e
        have hr := Lib.hid (fun W => neighbours_yes ⟨gS0, k * 4, none⟩ (L.length - k) (c2 - k) W (by omega))
        have p1 := hin.out k (by omega)
        have p2 := hin.out (k + 1) (by omega)
        have p3 := hin.out (k + 2) (by omega)
        cases hb : spkB g L most k with
        | true =>
          have hs := Lib.hid (spkL_yes hb)
          have hi : Hid (∀ W, (∃ x, W = gx wr x) → Calls Tryd.prog 60 #[.pointer (some ⟨gS0, k * 4, none⟩), .int .i64 most] W fun e w' => e = .returned (.bool true) ∧ ∃ x, w' = gx W x) := by
            rintro W ⟨x, rfl⟩
            have := isSpike_any _ _ _ most gS0 (k * 4) _ p1 p2 p3 (cell_keep_gx (x := x) x1) (cell_keep_gx (x := x) x2) (cell_keep_gx (x := x) x3)
            unfold spkB at hb
            rw [decide_eq_true (of_decide_eq_true hb).2] at this
            exact this
          have ha := Lib.hid (numI_app (spkL g L most k) (L.getD (k + 1) 0))
          clear hS hO hG' hb x1 x2 x3 p1 p2 p3 e
          generalize spkL g L most k = M at *
          generalize L.getD (k + 1) 0 = v at *
          go_wp2_with first
            | (go_at_call 59; refine (hr.out _).mono ?_; rintro e w' ⟨rfl, y, rfl⟩)
            | (go_at_call 60; refine (hi.out _ (by repeat (first | (with_reducible exact Gx.refl _) | (with_reducible assumption) | (with_reducible refine Gx.gx ?_) | (with_reducible refine Gx.alloc ?_) | (with_reducible refine Gx.drew ?_) | (with_reducible refine Gx.drewN ?_) | (with_reducible refine Gx.setRow ?_ (by first | omega | (simp; done) | (simp <;> omega))) | (with_reducible refine Gx.setCell ?_ (by first | omega | (simp; done) | (simp <;> omega)))))).mono ?_; rintro e w' ⟨rfl, y', rfl⟩)
            | (at_builtin; (with_reducible apply append_new (o := ⟨some 51, _, _, _, _, _⟩) el_int w w.heap.size (v := .slice A1 M.length c1) (n := M.length) (xs := numI M) (m := 1) (news := [.int .i64 (v : Int)])); go_loud (exact rfl; exact rfl; exact rfl; exact rfl; (focus omega); exact HO.out.ofx (by repeat (first | (with_reducible exact Gx.refl _) | (with_reducible assumption) | (with_reducible refine Gx.gx ?_) | (with_reducible refine Gx.alloc ?_) | (with_reducible refine Gx.drew ?_) | (with_reducible refine Gx.drewN ?_) | (with_reducible refine Gx.setRow ?_ (by first | omega | (simp; done) | (simp <;> omega))) | (with_reducible refine Gx.setCell ?_ (by first | omega | (simp; done) | (simp <;> omega))))); exact (Gx.trans (by repeat (first | (with_reducible exact Gx.refl _) | (with_reducible assumption) | (with_reducible refine Gx.gx ?_) | (with_reducible refine Gx.alloc ?_) | (with_reducible refine Gx.drew ?_) | (with_reducible refine Gx.drewN ?_) | (with_reducible refine Gx.setRow ?_ (by first | omega | (simp; done) | (simp <;> omega))) | (with_reducible refine Gx.setCell ?_ (by first | omega | (simp; done) | (simp <;> omega))))) HG'.out); (focus (simp <;> omega)); exact rfl; (focus (repeat (first | (with_reducible assumption) | ((with_reducible apply Shows.whole); focus ((focus (repeat (first | (with_reducible assumption) | (with_reducible exact At.new _ _) | (with_reducible refine At.row ?_) | ((with_reducible refine At.row_other ?_ ?_); rotate_left; (focus (simp <;> omega))) | (with_reducible refine At.app ?_) | (with_reducible refine At.tick ?_) | (with_reducible refine At.gx ?_) | ((with_reducible refine At.new' ?_); focus (simp; done)) | (with_reducible refine At.alloc ?_) | (with_reducible refine At.drew ?_) | (with_reducible exact Is.new _ _ _) | (with_reducible refine Is.row ?_) | ((with_reducible refine Is.row_other ?_ ?_); rotate_left; (focus (simp <;> omega))) | (with_reducible refine Is.gx ?_) | ((with_reducible refine Is.new' ?_); focus (simp; done)) | (with_reducible refine Is.alloc ?_) | (with_reducible refine Is.drew ?_)))); done)) | (with_reducible refine Shows.app ?_) | (with_reducible refine Shows.tick ?_) | (with_reducible refine Shows.gx ?_) | (with_reducible refine Shows.alloc ?_) | (with_reducible refine Shows.drew ?_)))); (focus (simp [Value.oneCell']; done)); (focus (simp only [maxLen]; omega)); (focus omega); rintro v2 W2 hW2 hO2 hg; obtain ⟨A3, c3, rfl, -⟩ := hO2.is; have HS2 := Lib.hid (Own.kept2 (HS'.out.ofx (by repeat (first | (with_reducible exact Gx.refl _) | (with_reducible assumption) | (with_reducible refine Gx.gx ?_) | (with_reducible refine Gx.alloc ?_) | (with_reducible refine Gx.drew ?_) | (with_reducible refine Gx.drewN ?_) | (with_reducible refine Gx.setRow ?_ (by first | omega | (simp; done) | (simp <;> omega))) | (with_reducible refine Gx.setCell ?_ (by first | omega | (simp; done) | (simp <;> omega)))))) (HO.out.ofx (by repeat (first | (with_reducible exact Gx.refl _) | (with_reducible assumption) | (with_reducible refine Gx.gx ?_) | (with_reducible refine Gx.alloc ?_) | (with_reducible refine Gx.drew ?_) | (with_reducible refine Gx.drewN ?_) | (with_reducible refine Gx.setRow ?_ (by first | omega | (simp; done) | (simp <;> omega))) | (with_reducible refine Gx.setCell ?_ (by first | omega | (simp; done) | (simp <;> omega)))))) hg (by decide)); have HO2 := Lib.hid hO2; clear hg hO2))
          go_roundw
          case rel => exact ⟨k + 1, A3, c3, by omega, by go_num, by rw [hs.out, List.length_append]; rfl, hW2, HS2.out, by rw [hs.out, List.length_append, ha.out]; exact HO2.out⟩
          case measure => simp [intOf]; omega
        | false =>
          have hs := Lib.hid (spkL_no hb)
          have hi : Hid (∀ W, (∃ x, W = gx wr x) → Calls Tryd.prog 60 #[.pointer (some ⟨gS0, k * 4, none⟩), .int .i64 most] W fun e w' => e = .returned (.bool false) ∧ ∃ x, w' = gx W x) := by
            rintro W ⟨x, rfl⟩
            have := isSpike_any _ _ _ most gS0 (k * 4) _ p1 p2 p3 (cell_keep_gx (x := x) x1) (cell_keep_gx (x := x) x2) (cell_keep_gx (x := x) x3)
            unfold spkB at hb
            rw [decide_eq_false (fun h => of_decide_eq_false hb ⟨h3, h⟩)] at this
            exact this
          clear hS hO hG' hb x1 x2 x3 p1 p2 p3 e
          go_wp2_with first
            | (go_at_call 59; refine (hr.out _).mono ?_; rintro e w' ⟨rfl, y, rfl⟩)
            | (go_at_call 60; refine (hi.out _ (by repeat (first | (with_reducible exact Gx.refl _) | (with_reducible assumption) | (with_reducible refine Gx.gx ?_) | (with_reducible refine Gx.alloc ?_) | (with_reducible refine Gx.drew ?_) | (with_reducible refine Gx.drewN ?_) | (with_reducible refine Gx.setRow ?_ (by first | omega | (simp; done) | (simp <;> omega))) | (with_reducible refine Gx.setCell ?_ (by first | omega | (simp; done) | (simp <;> omega)))))).mono ?_; rintro e w' ⟨rfl, y', rfl⟩)
          go_roundw
          case rel => exact ⟨k + 1, A1, c1, by omega, by go_num, by rw [hs.out], Gx.trans (by repeat (first | (with_reducible exact Gx.refl _) | (with_reducible assumption) | (with_reducible refine Gx.gx ?_) | (with_reducible refine Gx.alloc ?_) | (with_reducible refine Gx.drew ?_) | (with_reducible refine Gx.drewN ?_) | (with_reducible refine Gx.setRow ?_ (by first | omega | (simp; done) | (simp <;> omega))) | (with_reducible refine Gx.setCell ?_ (by first | omega | (simp; done) | (simp <;> omega))))) HG'.out, HS'.out.ofx (by repeat (first | (with_reducible exact Gx.refl _) | (with_reducible assumption) | (with_reducible refine Gx.gx ?_) | (with_reducible refine Gx.alloc ?_) | (with_reducible refine Gx.drew ?_) | (with_reducible refine Gx.drewN ?_) | (with_reducible refine Gx.setRow ?_ (by first | omega | (simp; done) | (simp <;> omega))) | (with_reducible refine Gx.setCell ?_ (by first | omega | (simp; done) | (simp <;> omega))))), by rw [hs.out]; exact HO.out.ofx (by repeat (first | (with_reducible exact Gx.refl _) | (with_reducible assumption) | (with_reducible refine Gx.gx ?_) | (with_reducible refine Gx.alloc ?_) | (with_reducible refine Gx.drew ?_) | (with_reducible refine Gx.drewN ?_) | (with_reducible refine Gx.setRow ?_ (by first | omega | (simp; done) | (simp <;> omega))) | (with_reducible refine Gx.setCell ?_ (by first | omega | (simp; done) | (simp <;> omega)))))⟩
          case measure => simp [intOf]; omega
      · have hs := Lib.hid (spkL_no (spkB_far (g := g) (most := most) (show L.length ≤ k + 2 by omega)))
        have hr := Lib.hid (fun W => neighbours_no (some ⟨gS0, k * 4, none⟩) (L.length - k) (c2 - k) W (by omega))
        clear hS hO hG'
        go_wp2_with (go_at_call 59; refine (hr.out _).mono ?_; rintro e w' ⟨rfl, y, rfl⟩)
        go_roundw
        case rel => exact ⟨k + 1, A1, c1, by omega, by go_num, by rw [hs.out], Gx.trans (by repeat (first | (with_reducible exact Gx.refl _) | (with_reducible assumption) | (with_reducible refine Gx.gx ?_) | (with_reducible refine Gx.alloc ?_) | (with_reducible refine Gx.drew ?_) | (with_reducible refine Gx.drewN ?_) | (with_reducible refine Gx.setRow ?_ (by first | omega | (simp; done) | (simp <;> omega))) | (with_reducible refine Gx.setCell ?_ (by first | omega | (simp; done) | (simp <;> omega))))) HG'.out, HS'.out.ofx (by repeat (first | (with_reducible exact Gx.refl _) | (with_reducible assumption) | (with_reducible refine Gx.gx ?_) | (with_reducible refine Gx.alloc ?_) | (with_reducible refine Gx.drew ?_) | (with_reducible refine Gx.drewN ?_) | (with_reducible refine Gx.setRow ?_ (by first | omega | (simp; done) | (simp <;> omega))) | (with_reducible refine Gx.setCell ?_ (by first | omega | (simp; done) | (simp <;> omega))))), by rw [hs.out]; exact HO.out.ofx (by repeat (first | (with_reducible exact Gx.refl _) | (with_reducible assumption) | (with_reducible refine Gx.gx ?_) | (with_reducible refine Gx.alloc ?_) | (with_reducible refine Gx.drew ?_) | (with_reducible refine Gx.drewN ?_) | (with_reducible refine Gx.setRow ?_ (by first | omega | (simp; done) | (simp <;> omega))) | (with_reducible refine Gx.setCell ?_ (by first | omega | (simp; done) | (simp <;> omega)))))⟩
        case measure => simp [intOf]; omega
    · obtain rfl : k = L.length := by omega
      go_wp2
      refine bodyPost_ret (v := .tuple #[.slice A1 (spkL g L most L.length).length c1, .int .i64 0]) (by simp [results, Tryd.results26, go_sem]) rfl ?_
      obtain ⟨x, hx⟩ := HG'.out
      exact ⟨A1, c1, x, rfl, hx, iAt_own HO.out⟩
end Go.Proofs.YtjlokobgdkkppaaDoor
