/-
  Spikes, the reference's: its loop.
-/
import Derived.Test.YtjlokobgdkkppaaDoorSSpk2
namespace Go.Proofs.YtjlokobgdkkppaaDoor
open Go.RowKit
-- AT2
-- AT3

theorem smHead {w wr : World} {g : Nat → Sm} {n : Nat} {A : Option Addr} (h : SmAt w g n A) (hG : ∃ x, wr = gx w x) {i : Nat} (hi : i < n) : ∃ b o, A = some ⟨b, o, none⟩ ∧ b < w.heap.size ∧ b < wr.heap.size ∧ wr.cell? ⟨b, o + i * 3, none⟩ = some (.int .i64 (g i).t) ∧ wr.cell? ⟨b, o + i * 3 + 1, none⟩ = some (.int .i64 (g i).n) ∧ wr.cell? ⟨b, o + i * 3 + 2, none⟩ = some (.int .i64 (g i).m) := by
  obtain ⟨b, o, e, hb, hc⟩ := h.get (by omega)
  obtain ⟨c1, c2, c3⟩ := hc.out i hi
  obtain ⟨x, rfl⟩ := hG
  exact ⟨b, o, e, hb, by rw [size_gx]; omega, cell_keep_gx c1, cell_keep_gx c2, cell_keep_gx c3⟩
theorem smCells {w wr : World} {g : Nat → Sm} {n b o : Nat} (h : SmAt w g n (some ⟨b, o, none⟩)) (hG : ∃ x, wr = gx w x) {i : Nat} (hi : i < n) : wr.cell? ⟨b, o + i * 3, none⟩ = some (.int .i64 (g i).t) ∧ wr.cell? ⟨b, o + i * 3 + 1, none⟩ = some (.int .i64 (g i).n) ∧ wr.cell? ⟨b, o + i * 3 + 2, none⟩ = some (.int .i64 (g i).m) := by
  obtain ⟨b', o', e, hb, hb', h1, h2, h3⟩ := smHead h hG hi
  simp only [Option.some.injEq, Addr.mk.injEq, and_true] at e
  obtain ⟨rfl, rfl⟩ := e
  exact ⟨h1, h2, h3⟩
theorem spkL_end {g : Nat → Sm} {L : List Nat} {most : Int} {k : Nat} (hk : k ≤ L.length) (h : L.length ≤ k + 2) : spkL g L most L.length = spkL g L most k := by
  have := spkL_far (g := g) (most := most) h (L.length - k)
  rw [show k + (L.length - k) = L.length by omega] at this
  exact this
/-- How the reference asks whether a number is a spike. -/
theorem spk_cases (a b c most : Int) (hm : 0 ≤ most) : ∃ u1 u2 d1 d2 r : Bool, decide (most < b - a) = u1 ∧ decide (most < b - c) = u2 ∧ decide (most < a - b) = d1 ∧ decide (most < c - b) = d2 ∧ decide (sz (a - c) ≤ most) = r ∧
    ((u1 = true ∧ u2 = true ∧ d1 = false ∧ decide (spkP a b c most) = r) ∨ (u1 = true ∧ u2 = false ∧ d1 = false ∧ decide (spkP a b c most) = false) ∨ (u1 = false ∧ d1 = true ∧ d2 = true ∧ decide (spkP a b c most) = r) ∨ (u1 = false ∧ d1 = true ∧ d2 = false ∧ decide (spkP a b c most) = false) ∨ (u1 = false ∧ d1 = false ∧ decide (spkP a b c most) = false)) := by
  refine ⟨_, _, _, _, _, rfl, rfl, rfl, rfl, rfl, ?_⟩
  have hs : sz (a - c) = max (a - c) (c - a) := by rcases sz_cases (a - c) with ⟨h1, h2⟩ | ⟨h1, h2⟩ <;> omega
  rw [hs]
  simp only [decide_eq_true_eq, decide_eq_false_iff_not, decide_eq_decide]
  unfold spkP
  omega
set_option maxHeartbeats 8000000 in
set_option maxRecDepth 100000 in
theorem RSpikes_go (den : Int) (g : Nat → Sm) (n c : Nat) (A : Option Addr) (most : Int) (w : World) (hL : SmAt w g n A) (h0 : serE den g n = 0) (hm0 : 0 ≤ most) (hm1 : most ≤ 1125899906842624) :
    Calls Tryd.prog 28 #[serV den A n c, .int .i64 most] w (IntPost w (spkL g (solL g n) most (solL g n).length) 0) := by
  obtain ⟨_, hn, hG⟩ := goodS_of h0
  have hLw : SmAt (w.alloc (.cells #[.int .i64 den, .slice A n c] 24)) g n A := hL.alloc
  have HC := fun W h => RCheck_any den g n c A W h
  rw [h0] at HC
  have HSo := Lib.hid (fun W (h : SmAt W g n A) => RSolids_any den g n c A W h hn)
  have hle := solL_len g n
  have hlt := Lib.hid (solL_at_lt g n)
  have hin : Hid (∀ k, k < (solL g n).length → in50 (g ((solL g n).getD k 0)).n) := Lib.hid fun k hk => ok_in50 (hG.ok _ (solL_at_lt g n k hk))
  have b1 : inB 0 1125899906842624 most = true := inB_iff.2 ⟨hm0, hm1⟩
  clear h0
  generalize solL g n = L at *
  go_enter Tryd.func28, Tryd.ntmps28
  go_wp2_with first
    | (go_at_call 13; refine (HC _ hLw).mono ?_; rintro e w' ⟨rfl, z1, rfl⟩)
    | (go_at_call 57; refine (outside_any _ _ _ _).mono ?_; rw [b1]; rintro e w' ⟨rfl, rfl⟩)
  refine (HSo.out _ hLw.gx).mono ?_
  rintro e W8 ⟨A2, c2, x2, rfl, hW8, hO⟩
  have G8 : ∃ x, W8 = gx w x := by rw [hW8]; exact (by repeat (first | (with_reducible exact Gx.refl _) | (with_reducible assumption) | (with_reducible refine Gx.gx ?_) | (with_reducible refine Gx.alloc ?_) | (with_reducible refine Gx.drew ?_) | (with_reducible refine Gx.drewN ?_) | (with_reducible refine Gx.setRow ?_ (by first | omega | (simp; done) | (simp <;> omega))) | (with_reducible refine Gx.setCell ?_ (by first | omega | (simp; done) | (simp <;> omega)))))
  have S8 : At W8 w.heap.size (.cells #[.int .i64 den, .slice A n c] 24 (0, 0)) := by rw [hW8]; (focus (repeat (first | (with_reducible assumption) | (with_reducible exact At.new _ _) | (with_reducible refine At.row ?_) | ((with_reducible refine At.row_other ?_ ?_); rotate_left; (focus (simp <;> omega))) | (with_reducible refine At.app ?_) | (with_reducible refine At.tick ?_) | (with_reducible refine At.gx ?_) | ((with_reducible refine At.new' ?_); focus (simp; done)) | (with_reducible refine At.alloc ?_) | (with_reducible refine At.drew ?_) | (with_reducible exact Is.new _ _ _) | (with_reducible refine Is.row ?_) | ((with_reducible refine Is.row_other ?_ ?_); rotate_left; (focus (simp <;> omega))) | (with_reducible refine Is.gx ?_) | ((with_reducible refine Is.new' ?_); focus (simp; done)) | (with_reducible refine Is.alloc ?_) | (with_reducible refine Is.drew ?_))))
  have HO8 : Hid (0 < L.length → ∃ gS, A2 = some ⟨gS, 0, none⟩ ∧ gS < W8.heap.size ∧ NumAt W8 L gS) := Lib.hid (fun h => by obtain ⟨gS, e, hN⟩ := num_cells hO h; exact ⟨gS, e, World.block_lt_of_cell? W8 _ (hN 0 h), hN⟩)
  clear hW8 hO
  go_wp2
  have HG8 := Lib.hid G8
  have HS8 := Lib.hid S8
  have l8 : w.heap.size < W8.heap.size := S8.lt
  clear S8 G8
  go_loopw [9, 8] (fun i s wr => ∃ (k : Nat) (A1 : Option Addr) (c1 : Nat), k ≤ L.length ∧ i = .int .i64 ((k : Int) + 1) ∧ s = .slice A1 (spkL g L most k).length c1 ∧ (∃ x, wr = gx W8 x) ∧ Own W8.heap.size wr 3 1 (.slice A1 (spkL g L most k).length c1) (spkL g L most k).length (numI (spkL g L most k))) (fun i _ _ => L.length - (intOf i).toNat)
  case atStart => exact ⟨0, none, 0, Nat.zero_le _, rfl, rfl, Gx.refl _, Own.nil _ _ _ _⟩
  case round =>
    obtain ⟨k, A1, c1, hk, rfl, rfl, hG', hO⟩ := hrel
    have hq := spkL_len g L most k
    have HG' := Lib.hid hG'
    have HO := Lib.hid hO
    have hwr : W8.heap.size ≤ wr.heap.size := by obtain ⟨x, hx⟩ := hG'; rw [hx, size_gx]; omega
    have l0 : w.heap.size < wr.heap.size := by omega
    have s1 : wr.cell? ⟨w.heap.size, 1, none⟩ = some (.slice A n c) := by obtain ⟨x, hx⟩ := hG'; rw [hx]; exact cell_keep_gx (by rw [cell_of_row _ _ _ _ _ _ HS8.out]; rfl)
    by_cases h3 : k + 2 < L.length
    · have hkz : (k : Int) + 1 + 1 < (L.length : Int) := by omega
      have hkd : decide ((k : Int) + 1 + 1 < (L.length : Int)) = true := decide_eq_true hkz
      have hkd2 : decide (k + 1 + 1 < L.length) = true := decide_eq_true (by omega)
      obtain ⟨gS, rfl, hgS, hN⟩ := HO8.out (by omega)
      have q1 : wr.cell? ⟨gS, k, none⟩ = some (.int .i64 ((L.getD k 0 : Nat) : Int)) := by obtain ⟨x, hx⟩ := hG'; rw [hx]; exact cell_keep_gx (hN k (by omega))
      have q2 : wr.cell? ⟨gS, k + 1, none⟩ = some (.int .i64 ((L.getD (k + 1) 0 : Nat) : Int)) := by obtain ⟨x, hx⟩ := hG'; rw [hx]; exact cell_keep_gx (hN (k + 1) (by omega))
      have q3 : wr.cell? ⟨gS, k + 1 + 1, none⟩ = some (.int .i64 ((L.getD (k + 2) 0 : Nat) : Int)) := by obtain ⟨x, hx⟩ := hG'; rw [hx]; exact cell_keep_gx (hN (k + 2) (by omega))
      have n1 := hlt.out k (by omega)
      have n2 := hlt.out (k + 1) (by omega)
      have n3 := hlt.out (k + 2) (by omega)
      have p1 := hin.out k (by omega)
      have p2 := hin.out (k + 1) (by omega)
      have p3 := hin.out (k + 2) (by omega)
      have hgw : ∃ x, wr = gx w x := Gx.trans hG' HG8.out
      obtain ⟨bb, o, rfl, hb1, hb1', -, v1, -⟩ := smHead hL hgw n1
      obtain ⟨-, v2, -⟩ := smCells hL hgw n2
      obtain ⟨-, v3, -⟩ := smCells hL hgw n3
      have ha := Lib.hid (numI_app (spkL g L most k) (L.getD (k + 1) 0))
      have hyes : Hid (decide (spkP (g (L.getD k 0)).n (g (L.getD (k + 1) 0)).n (g (L.getD (k + 2) 0)).n most) = true → spkL g L most (k + 1) = spkL g L most k ++ [L.getD (k + 1) 0]) := Lib.hid fun h => spkL_yes (by unfold spkB; exact decide_eq_true ⟨h3, of_decide_eq_true h⟩)
      have hno : Hid (decide (spkP (g (L.getD k 0)).n (g (L.getD (k + 1) 0)).n (g (L.getD (k + 2) 0)).n most) = false → spkL g L most (k + 1) = spkL g L most k) := Lib.hid fun h => spkL_no (by unfold spkB; exact decide_eq_false fun h' => of_decide_eq_false h h'.2)
      generalize (g (L.getD k 0)).n = a at *
      generalize (g (L.getD (k + 1) 0)).n = b at *
      generalize (g (L.getD (k + 2) 0)).n = d at *
      generalize L.getD k 0 = i1 at *
      generalize L.getD (k + 1) 0 = i2 at *
      generalize L.getD (k + 2) 0 = i3 at *
      unfold in50 at p1 p2 p3
      have z1 : (i1 : Int) < (n : Int) := by omega
      have z2 : (i2 : Int) < (n : Int) := by omega
      have z3 : (i3 : Int) < (n : Int) := by omega
      have z4 : (k : Int) < (L.length : Int) := by omega
      have z5 : (k : Int) + 1 < (L.length : Int) := by omega
      have w1 : IntKind.i64.wrap (b - a) = b - a := IntWalk.i64_in _ (by omega)
      have w2 : IntKind.i64.wrap (b - d) = b - d := IntWalk.i64_in _ (by omega)
      have w3 : IntKind.i64.wrap (a - b) = a - b := IntWalk.i64_in _ (by omega)
      have w4 : IntKind.i64.wrap (d - b) = d - b := IntWalk.i64_in _ (by omega)
      have hap := Lib.hid (fun W => apart_any a d W (by omega) (by omega))
      have hq2 : (spkL g L most k).length ≤ 20000 := by omega
      obtain ⟨u1, u2, d1, d2, r, e1, e2, e3, e4, e5, hcase⟩ := spk_cases a b d most hm0
      have ME := Lib.hid (spkL_end (g := g) (L := L) (most := most) (k := k) hk)
      clear hO hG' hN hgw p1 p2 p3 n1 n2 n3
      obtain ⟨M2, hM2⟩ : ∃ M2, M2 = spkL g L most (k + 1) := ⟨_, rfl⟩
      rw [← hM2] at hyes hno
      have HM2 := Lib.hid hM2
      clear hM2
      generalize spkL g L most k = M at *
      generalize decide (spkP a b d most) = sp at *
      generalize sz (a - d) = sad at *
      rcases hcase with ⟨rfl, rfl, rfl, h6⟩ | ⟨rfl, rfl, rfl, h6⟩ | ⟨rfl, rfl, rfl, h6⟩ | ⟨rfl, rfl, rfl, h6⟩ | ⟨rfl, rfl, h6⟩
      case inr.inl =>
          have hs := Lib.hid (hno.out h6)
          clear h6 hyes hno
          go_wp2
          go_quiet (fail)
          go_wp2_with (go_at_call 62; refine (hap.out _).mono ?_; rintro e w' ⟨rfl, rfl⟩)
          go_roundw
          case rel => exact ⟨k + 1, A1, c1, by omega, by go_num, by rw [← HM2.out, hs.out], Gx.trans (by repeat (first | (with_reducible exact Gx.refl _) | (with_reducible assumption) | (with_reducible refine Gx.gx ?_) | (with_reducible refine Gx.alloc ?_) | (with_reducible refine Gx.drew ?_) | (with_reducible refine Gx.drewN ?_) | (with_reducible refine Gx.setRow ?_ (by first | omega | (simp; done) | (simp <;> omega))) | (with_reducible refine Gx.setCell ?_ (by first | omega | (simp; done) | (simp <;> omega))))) HG'.out, by rw [← HM2.out, hs.out]; exact HO.out.ofx (by repeat (first | (with_reducible exact Gx.refl _) | (with_reducible assumption) | (with_reducible refine Gx.gx ?_) | (with_reducible refine Gx.alloc ?_) | (with_reducible refine Gx.drew ?_) | (with_reducible refine Gx.drewN ?_) | (with_reducible refine Gx.setRow ?_ (by first | omega | (simp; done) | (simp <;> omega))) | (with_reducible refine Gx.setCell ?_ (by first | omega | (simp; done) | (simp <;> omega)))))⟩
          case measure => simp [intOf]; omega
      case inr.inr.inr.inl =>
          have hs := Lib.hid (hno.out h6)
          clear h6 hyes hno
          go_wp2
          go_quiet (fail)
          go_wp2_with (go_at_call 62; refine (hap.out _).mono ?_; rintro e w' ⟨rfl, rfl⟩)
          go_roundw
          case rel => exact ⟨k + 1, A1, c1, by omega, by go_num, by rw [← HM2.out, hs.out], Gx.trans (by repeat (first | (with_reducible exact Gx.refl _) | (with_reducible assumption) | (with_reducible refine Gx.gx ?_) | (with_reducible refine Gx.alloc ?_) | (with_reducible refine Gx.drew ?_) | (with_reducible refine Gx.drewN ?_) | (with_reducible refine Gx.setRow ?_ (by first | omega | (simp; done) | (simp <;> omega))) | (with_reducible refine Gx.setCell ?_ (by first | omega | (simp; done) | (simp <;> omega))))) HG'.out, by rw [← HM2.out, hs.out]; exact HO.out.ofx (by repeat (first | (with_reducible exact Gx.refl _) | (with_reducible assumption) | (with_reducible refine Gx.gx ?_) | (with_reducible refine Gx.alloc ?_) | (with_reducible refine Gx.drew ?_) | (with_reducible refine Gx.drewN ?_) | (with_reducible refine Gx.setRow ?_ (by first | omega | (simp; done) | (simp <;> omega))) | (with_reducible refine Gx.setCell ?_ (by first | omega | (simp; done) | (simp <;> omega)))))⟩
          case measure => simp [intOf]; omega
      case inr.inr.inr.inr =>
          have hs := Lib.hid (hno.out h6)
          clear h6 hyes hno
          go_wp2
          go_quiet (fail)
          go_wp2_with (go_at_call 62; refine (hap.out _).mono ?_; rintro e w' ⟨rfl, rfl⟩)
          go_roundw
          case rel => exact ⟨k + 1, A1, c1, by omega, by go_num, by rw [← HM2.out, hs.out], Gx.trans (by repeat (first | (with_reducible exact Gx.refl _) | (with_reducible assumption) | (with_reducible refine Gx.gx ?_) | (with_reducible refine Gx.alloc ?_) | (with_reducible refine Gx.drew ?_) | (with_reducible refine Gx.drewN ?_) | (with_reducible refine Gx.setRow ?_ (by first | omega | (simp; done) | (simp <;> omega))) | (with_reducible refine Gx.setCell ?_ (by first | omega | (simp; done) | (simp <;> omega))))) HG'.out, by rw [← HM2.out, hs.out]; exact HO.out.ofx (by repeat (first | (with_reducible exact Gx.refl _) | (with_reducible assumption) | (with_reducible refine Gx.gx ?_) | (with_reducible refine Gx.alloc ?_) | (with_reducible refine Gx.drew ?_) | (with_reducible refine Gx.drewN ?_) | (with_reducible refine Gx.setRow ?_ (by first | omega | (simp; done) | (simp <;> omega))) | (with_reducible refine Gx.setCell ?_ (by first | omega | (simp; done) | (simp <;> omega)))))⟩
          case measure => simp [intOf]; omega
      all_goals
        cases r with
        | true =>
          have hs := Lib.hid (hyes.out h6)
          clear h6 hyes hno
          go_wp2
          go_quiet (fail)
          go_wp2_with first
            | (go_at_call 62; refine (hap.out _).mono ?_; rintro e w' ⟨rfl, rfl⟩)
            | (at_builtin; (with_reducible apply append_new (o := ⟨some 101, _, _, _, _, _⟩) el_int W8 W8.heap.size (v := .slice A1 M.length c1) (n := M.length) (xs := numI M) (m := 1) (news := [.int .i64 (i2 : Int)])); go_loud (exact rfl; exact rfl; exact rfl; exact rfl; (focus omega); exact HO.out.ofx (by repeat (first | (with_reducible exact Gx.refl _) | (with_reducible assumption) | (with_reducible refine Gx.gx ?_) | (with_reducible refine Gx.alloc ?_) | (with_reducible refine Gx.drew ?_) | (with_reducible refine Gx.drewN ?_) | (with_reducible refine Gx.setRow ?_ (by first | omega | (simp; done) | (simp <;> omega))) | (with_reducible refine Gx.setCell ?_ (by first | omega | (simp; done) | (simp <;> omega))))); exact (Gx.trans (by repeat (first | (with_reducible exact Gx.refl _) | (with_reducible assumption) | (with_reducible refine Gx.gx ?_) | (with_reducible refine Gx.alloc ?_) | (with_reducible refine Gx.drew ?_) | (with_reducible refine Gx.drewN ?_) | (with_reducible refine Gx.setRow ?_ (by first | omega | (simp; done) | (simp <;> omega))) | (with_reducible refine Gx.setCell ?_ (by first | omega | (simp; done) | (simp <;> omega))))) HG'.out); (focus (simp <;> omega)); exact rfl; (focus (repeat (first | (with_reducible assumption) | ((with_reducible apply Shows.whole); focus ((focus (repeat (first | (with_reducible assumption) | (with_reducible exact At.new _ _) | (with_reducible refine At.row ?_) | ((with_reducible refine At.row_other ?_ ?_); rotate_left; (focus (simp <;> omega))) | (with_reducible refine At.app ?_) | (with_reducible refine At.tick ?_) | (with_reducible refine At.gx ?_) | ((with_reducible refine At.new' ?_); focus (simp; done)) | (with_reducible refine At.alloc ?_) | (with_reducible refine At.drew ?_) | (with_reducible exact Is.new _ _ _) | (with_reducible refine Is.row ?_) | ((with_reducible refine Is.row_other ?_ ?_); rotate_left; (focus (simp <;> omega))) | (with_reducible refine Is.gx ?_) | ((with_reducible refine Is.new' ?_); focus (simp; done)) | (with_reducible refine Is.alloc ?_) | (with_reducible refine Is.drew ?_)))); done)) | (with_reducible refine Shows.app ?_) | (with_reducible refine Shows.tick ?_) | (with_reducible refine Shows.gx ?_) | (with_reducible refine Shows.alloc ?_) | (with_reducible refine Shows.drew ?_)))); (focus (simp [Value.oneCell']; done)); (focus (simp only [maxLen]; omega)); (focus omega); rintro v2 W2 hW2 hO2 hg; obtain ⟨A3, c3, rfl, -⟩ := hO2.is; have HO2 := Lib.hid hO2; clear hg hO2))
          go_roundw
          case rel => exact ⟨k + 1, A3, c3, by omega, by go_num, by rw [← HM2.out, hs.out, List.length_append]; rfl, hW2, by rw [← HM2.out, hs.out, List.length_append, ha.out]; exact HO2.out⟩
          case measure => simp [intOf]; omega
        | false => 
          have hs := Lib.hid (hno.out h6)
          clear h6 hyes hno
          go_wp2
          go_quiet (fail)
          go_wp2_with (go_at_call 62; refine (hap.out _).mono ?_; rintro e w' ⟨rfl, rfl⟩)
          go_roundw
          case rel => exact ⟨k + 1, A1, c1, by omega, by go_num, by rw [← HM2.out, hs.out], Gx.trans (by repeat (first | (with_reducible exact Gx.refl _) | (with_reducible assumption) | (with_reducible refine Gx.gx ?_) | (with_reducible refine Gx.alloc ?_) | (with_reducible refine Gx.drew ?_) | (with_reducible refine Gx.drewN ?_) | (with_reducible refine Gx.setRow ?_ (by first | omega | (simp; done) | (simp <;> omega))) | (with_reducible refine Gx.setCell ?_ (by first | omega | (simp; done) | (simp <;> omega))))) HG'.out, by rw [← HM2.out, hs.out]; exact HO.out.ofx (by repeat (first | (with_reducible exact Gx.refl _) | (with_reducible assumption) | (with_reducible refine Gx.gx ?_) | (with_reducible refine Gx.alloc ?_) | (with_reducible refine Gx.drew ?_) | (with_reducible refine Gx.drewN ?_) | (with_reducible refine Gx.setRow ?_ (by first | omega | (simp; done) | (simp <;> omega))) | (with_reducible refine Gx.setCell ?_ (by first | omega | (simp; done) | (simp <;> omega)))))⟩
          case measure => simp [intOf]; omega
    · have hkz : ¬ (k : Int) + 1 + 1 < (L.length : Int) := by omega
      have hkd : decide ((k : Int) + 1 + 1 < (L.length : Int)) = false := decide_eq_false hkz
      have hkd2 : decide (k + 1 + 1 < L.length) = false := decide_eq_false (by omega)
      have ME := Lib.hid (spkL_end (g := g) (L := L) (most := most) (k := k) hk (by omega))
      clear hO hG'
      go_wp2
      refine bodyPost_ret (v := .tuple #[.slice A1 (spkL g L most k).length c1, .int .i64 0]) (by simp [results, Tryd.results28, go_sem]) rfl ?_
      obtain ⟨x, hx⟩ := Gx.trans HG'.out HG8.out
      rw [ME.out]
      exact ⟨A1, c1, x, rfl, hx, iAt_own HO.out⟩
end Go.Proofs.YtjlokobgdkkppaaDoor
