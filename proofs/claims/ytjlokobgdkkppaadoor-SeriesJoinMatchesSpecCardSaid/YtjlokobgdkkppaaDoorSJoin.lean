/-
  Samples joined, the program's: a contract.
-/
import Derived.Test.YtjlokobgdkkppaaDoorSAgr
namespace Go.Proofs.YtjlokobgdkkppaaDoor
open Go.RowKit
-- AT2
-- AT3

theorem Own.of_gx {b : Nat} {W W' : World} {e : TypeId} {size : Nat} {v : Value} {n : Nat} {xs : List Value} (h : Own b W e size v n xs) (hW : ∃ x, W' = Go.Proofs.YtjlokobgdkkppaaDoor.gx W x) : Own b W' e size v n xs := by
  obtain ⟨x, rfl⟩ := hW; exact h.gx
def slLen : Value → Nat
  | .slice _ n _ => n
  | _ => 0
theorem smC_app {f p : Nat → Sm} {q : Nat} : ∀ r, (∀ j, j < r → f (q + j) = p j) → smC f q ++ smC p r = smC f (q + r)
  | 0, _ => by show smC f q ++ [] = _; rw [List.append_nil]; rfl
  | r + 1, h => by
    rw [smC_succ, ← List.append_assoc, smC_app r (fun j hj => h j (by omega)), ← h r (by omega)]
    exact (smC_succ f (q + r)).symm
theorem Jst.rest {g h : Nat → Sm} {n m i k q r s : Nat} (H : Jst g n h m i k q) (hr : i + r = n) (hs : k + s = m) (h0 : r = 0 ∨ s = 0) : (∀ j, j < r → lfun (jnL g n h m) (q + j) = ptF g i j) ∧ (∀ j, j < s → lfun (jnL g n h m) (q + r + j) = ptF h k j) ∧ q + r + s = (jnL g n h m).length := by
  rcases h0 with rfl | rfl
  · obtain rfl : i = n := by omega
    obtain ⟨a, b⟩ := H.restb s (by omega)
    rw [hs] at a
    exact ⟨fun j hj => by omega, fun j hj => b j hj, by rw [← a.fin]; omega⟩
  · obtain rfl : k = m := by omega
    obtain ⟨a, b⟩ := H.resta r (by omega)
    rw [hr] at a
    exact ⟨fun j hj => b j hj, fun j hj => by omega, by rw [← a.fin]; omega⟩
/-- What is left of samples from the i-th one on. -/
structure LeftAt (w : World) (g : Nat → Sm) (n i r : Nat) (A : Option Addr) (c : Nat) : Prop where
  sum : i + r = n
  sm : SmAt w (ptF g i) r A
  nilc : A = none → r = 0 ∧ c = 0
  cap : r ≤ c
theorem LeftAt.head {w wr : World} {g : Nat → Sm} {n i r : Nat} {A : Option Addr} {c : Nat} (H : LeftAt w g n i (r + 1) A c) (hG : ∃ x, wr = gx w x) : ∃ b o, A = some ⟨b, o, none⟩ ∧ b < w.heap.size ∧ b < wr.heap.size ∧ wr.cell? ⟨b, o, none⟩ = some (.int .i64 (g i).t) ∧ wr.cell? ⟨b, o + 1, none⟩ = some (.int .i64 (g i).n) ∧ wr.cell? ⟨b, o + 2, none⟩ = some (.int .i64 (g i).m) := by
  obtain ⟨b, o, e, hb, hc⟩ := H.sm.get (by omega)
  obtain ⟨c1, c2, c3⟩ := hc.out 0 (by omega)
  obtain ⟨x, rfl⟩ := hG
  rw [Nat.zero_mul, Nat.add_zero] at c1 c2 c3
  exact ⟨b, o, e, hb, by rw [size_gx]; omega, cell_keep_gx c1, cell_keep_gx c2, cell_keep_gx c3⟩
theorem LeftAt.tail {w : World} {g : Nat → Sm} {n i r : Nat} {ad : Addr} {c : Nat} (H : LeftAt w g n i (r + 1) (some ad) c) : LeftAt w g n (i + 1) r (if c = 1 then some ad else some (ad.add 3)) (c - 1) := by
  refine ⟨by have := H.sum; omega, ?_, fun h => ?_, by have := H.cap; omega⟩
  · have := smAt_sub' (i := 1) (j := r + 1) H.sm (Nat.le_refl _) H.cap
    rw [Nat.add_sub_cancel, Nat.one_mul] at this
    have e : ptF (ptF g i) 1 = ptF g (i + 1) := by funext k; show g (i + (1 + k)) = g (i + 1 + k); rw [Nat.add_assoc]
    rw [e] at this
    exact this
  · split at h <;> cases h
theorem LeftAt.tails {w : World} {g : Nat → Sm} {n i r b o c : Nat} (H : LeftAt w g n i (r + 1) (some ⟨b, o, none⟩) c) : (c = 1 → LeftAt w g n (i + 1) r (some ⟨b, o, none⟩) 0) ∧ (¬ c = 1 → LeftAt w g n (i + 1) r (some ⟨b, o + 3, none⟩) (c - 1)) := by
  have h := H.tail
  refine ⟨fun e => ?_, fun e => ?_⟩
  · rw [if_pos e, e] at h; exact h
  · rw [if_neg e] at h; exact h
set_option maxHeartbeats 4000000 in
set_option maxRecDepth 100000 in
theorem joined_any (g h : Nat → Sm) (n c m cb : Nat) (A B : Option Addr) (w : World) (hL : LeftAt w g n 0 n A c) (hM : LeftAt w h m 0 m B cb) (hn : n ≤ 20000) (hm : m ≤ 20000) (f : Nat → Sm) (hf : f = lfun (jnL g n h m)) (Q : Nat) (hQ : Q = (jnL g n h m).length) :
    Calls Tryd.prog 52 #[.slice A n c, .slice B m cb] w fun e w' => ∃ A' c' x, e = .returned (.slice A' Q c') ∧ w' = gx w x ∧ Own w.heap.size w' 61 3 (.slice A' Q c') Q (smC f Q) := by
  have HF := Lib.hid hf
  have HQ := Lib.hid hQ
  clear hf hQ
  go_enter Tryd.func52, Tryd.ntmps52
  go_wp2
  go_loopw [5, 0, 1] (fun l a b wr => ∃ (i r k s q : Nat) (A1 A2 A3 : Option Addr) (c1 c2 c3 : Nat), l = .slice A1 q c1 ∧ a = .slice A2 r c2 ∧ b = .slice A3 s c3 ∧ (∃ x, wr = gx w x) ∧ Jst g n h m i k q ∧ LeftAt w g n i r A2 c2 ∧ LeftAt w h m k s A3 c3 ∧ Own w.heap.size wr 61 3 (.slice A1 q c1) q (smC f q)) (fun _ a b _ => slLen a + slLen b)
  case atStart => exact ⟨0, n, 0, m, 0, none, A, B, 0, c, cb, rfl, rfl, rfl, (by repeat (first | (with_reducible exact Gx.refl _) | (with_reducible assumption) | (with_reducible refine Gx.gx ?_) | (with_reducible refine Gx.alloc ?_) | (with_reducible refine Gx.drew ?_) | (with_reducible refine Gx.drewN ?_) | (with_reducible refine Gx.setRow ?_ (by first | omega | (simp; done) | (simp <;> omega))) | (with_reducible refine Gx.setCell ?_ (by first | omega | (simp; done) | (simp <;> omega))))), Jst.zero, hL, hM, Own.nil _ _ _ _⟩
  case round =>
    obtain ⟨i, r, k, s, q, A1, A2, A3, c1, c2, c3, rfl, rfl, rfl, hG, hJ, hL2, hL3, hO⟩ := hrel
    have hq := hJ.le
    have HJ := Lib.hid hJ
    have HG := Lib.hid hG
    have HO := Lib.hid hO
    have HL2 := Lib.hid hL2
    have HL3 := Lib.hid hL3
    have hwr : w.heap.size ≤ wr.heap.size := by obtain ⟨x, rfl⟩ := hG; rw [size_gx]; omega
    by_cases h0 : r = 0 ∨ s = 0
    · obtain ⟨R1, R2, R3⟩ := hJ.rest hL2.sum hL3.sum h0
      have E1 : Hid (smC f q ++ smC (ptF g i) r = smC f (q + r)) := Lib.hid (smC_app r (fun j hj => by rw [HF.out]; exact R1 j hj))
      have E2 : Hid (smC f (q + r) ++ smC (ptF h k) s = smC f (q + r + s)) := Lib.hid (smC_app s (fun j hj => by rw [HF.out]; exact R2 j hj))
      have E3 : Hid (Q = q + r + s) := Lib.hid (by rw [HQ.out, R3])
      have sh2 := Lib.hid (smAt_of hL2.sm hG).shows
      have N2 := Lib.hid hL2.nilc
      have N3 := Lib.hid hL3.nilc
      have sr := hL2.sum
      have ss := hL3.sum
      have hd : (decide (0 < r) = false) ∨ (decide (0 < r) = true ∧ decide (0 < s) = false) := by
        rcases h0 with h0 | h0
        · exact .inl (decide_eq_false (by omega))
        · by_cases hr : 0 < r
          · exact .inr ⟨decide_eq_true hr, decide_eq_false (by omega)⟩
          · exact .inl (decide_eq_false hr)
      clear R1 R2 R3 hJ hO hL2 hL3 h0
      rcases hd with d1 | ⟨d1, d2⟩
      all_goals
        go_wp2_with first
          | (at_builtin; (with_reducible apply append_all (o := ⟨some 66, _, _, _, _, _⟩) el_sample w w.heap.size (v := .slice A1 q c1) (n := q) (xs := smC f q) (A := A2) (m := r) (c := c2) (news := smC (ptF g i) r)); go_loud (exact rfl; exact rfl; exact rfl; exact rfl; exact N2.out; (focus omega); exact HO.out; exact HG.out; (focus omega); exact smC_len _ _; exact sh2.out; exact smC_one _ _; (focus (simp only [maxLen]; omega)); (focus omega); rintro v2 W2 hW2 hO2 hg2; obtain ⟨A4, c4, rfl, -⟩ := hO2.is; have HO2 := Lib.hid hO2; have HW2 := Lib.hid hW2; have HG2 := Lib.hid hg2; clear hO2 hg2 hW2))
          | (at_builtin; (with_reducible apply append_all (o := ⟨some 68, _, _, _, _, _⟩) el_sample w w.heap.size (v := .slice A4 (q + r) c4) (n := q + r) (xs := smC f q ++ smC (ptF g i) r) (A := A3) (m := s) (c := c3) (news := smC (ptF h k) s)); go_loud (exact rfl; exact rfl; exact rfl; exact rfl; exact N3.out; (focus omega); exact HO2.out; exact HW2.out; (focus (obtain ⟨x, hx⟩ := HW2.out; rw [hx, size_gx]; omega)); exact smC_len _ _; exact (smAt_of HL3.out.sm HW2.out).shows; exact smC_one _ _; (focus (simp only [maxLen]; omega)); (focus omega); rintro v3 W3 hW3 hO3 hg3; obtain ⟨A5, c5, rfl, -⟩ := hO3.is; have HO3 := Lib.hid hO3; clear hO3 hg3))
        go_ret
        obtain ⟨x, hx⟩ := hW3
        refine ⟨A5, c5, x, by rw [E3.out]; rfl, hx, ?_⟩
        have := HO3.out
        rw [E1.out, E2.out] at this
        rw [E3.out]
        exact this
    · obtain ⟨r', rfl⟩ : ∃ r', r = r' + 1 := ⟨r - 1, by omega⟩
      obtain ⟨s', rfl⟩ : ∃ s', s = s' + 1 := ⟨s - 1, by omega⟩
      clear h0
      have sr := hL2.sum
      have ss := hL3.sum
      obtain ⟨b1, o1, rfl, hb1, hb1', x1, x2, x3⟩ := hL2.head hG
      obtain ⟨b2, o2, rfl, hb2, hb2', y1, y2, y3⟩ := hL3.head hG
      have HT2 := Lib.hid hL2.tails
      have HT3 := Lib.hid hL3.tails
      have k2 := hL2.cap
      have k3 := hL3.cap
      have z1 : (1 : Int) ≤ (r' : Int) + 1 := by omega
      have z2 : (r' : Int) + 1 ≤ (c2 : Int) := by omega
      have z3 : (1 : Int) ≤ (s' : Int) + 1 := by omega
      have z4 : (s' : Int) + 1 ≤ (c3 : Int) := by omega
      have z5 : (1 : Int) ≤ (c2 : Int) := by omega
      have z6 : (1 : Int) ≤ (c3 : Int) := by omega
      clear hL2 hL3 hJ hO
      rcases Int.lt_trichotomy (g i).t (h k).t with ht | ht | ht
      · have HN := Lib.hid (HJ.out.a (by omega) (.inr ht))
        have d1 : decide ((g i).t < (h k).t) = true := decide_eq_true ht
        have HFq : Hid (f q = g i) := Lib.hid (by rw [HF.out]; exact HN.out.2)
        clear ht
        generalize g i = X at *
        generalize h k = Y at *
        obtain ⟨xt, xn, xm⟩ := X
        obtain ⟨yt, yn, ym⟩ := Y
        simp only at x1 x2 x3 y1 y2 y3 d1 
        go_wp2
        go_quiet (fail)
        go_wp2
        go_region_law (apply step_append_own el_sample w w.heap.size (v := .slice A1 q c1) (n := q) (xs := smC f q) (m := 1) (news := [.int .i64 xt, .int .i64 xn, .int .i64 xm]); exact rfl; exact rfl; exact rfl; exact rfl; (focus omega); exact HO.out.of_gx (by repeat (first | (with_reducible exact Gx.refl _) | (with_reducible assumption) | (with_reducible refine Gx.gx ?_) | (with_reducible refine Gx.alloc ?_) | (with_reducible refine Gx.drew ?_) | (with_reducible refine Gx.drewN ?_) | (with_reducible refine Gx.setRow ?_ (by first | omega | (simp; done) | (simp <;> omega))) | (with_reducible refine Gx.setCell ?_ (by first | omega | (simp; done) | (simp <;> omega))))); exact (Gx.trans (by repeat (first | (with_reducible exact Gx.refl _) | (with_reducible assumption) | (with_reducible refine Gx.gx ?_) | (with_reducible refine Gx.alloc ?_) | (with_reducible refine Gx.drew ?_) | (with_reducible refine Gx.drewN ?_) | (with_reducible refine Gx.setRow ?_ (by first | omega | (simp; done) | (simp <;> omega))) | (with_reducible refine Gx.setCell ?_ (by first | omega | (simp; done) | (simp <;> omega))))) HG.out); (focus (simp <;> omega)); exact rfl; (focus (repeat (first | (with_reducible assumption) | ((with_reducible apply Shows.whole); focus ((focus (repeat (first | (with_reducible assumption) | (with_reducible exact At.new _ _) | (with_reducible refine At.row ?_) | ((with_reducible refine At.row_other ?_ ?_); rotate_left; (focus (simp <;> omega))) | (with_reducible refine At.app ?_) | (with_reducible refine At.tick ?_) | (with_reducible refine At.gx ?_) | ((with_reducible refine At.new' ?_); focus (simp; done)) | (with_reducible refine At.alloc ?_) | (with_reducible refine At.drew ?_) | (with_reducible exact Is.new _ _ _) | (with_reducible refine Is.row ?_) | ((with_reducible refine Is.row_other ?_ ?_); rotate_left; (focus (simp <;> omega))) | (with_reducible refine Is.gx ?_) | ((with_reducible refine Is.new' ?_); focus (simp; done)) | (with_reducible refine Is.alloc ?_) | (with_reducible refine Is.drew ?_)))); done)) | (with_reducible refine Shows.app ?_) | (with_reducible refine Shows.tick ?_) | (with_reducible refine Shows.gx ?_) | (with_reducible refine Shows.alloc ?_) | (with_reducible refine Shows.drew ?_)))); (focus (simp [Value.oneCell']; done)); (focus (simp only [maxLen]; omega)); (focus omega); (focus decide); rintro v2 W2 hW2 hO2 hg2; obtain ⟨A4, c4, rfl, -⟩ := hO2.is; have HO2 := Lib.hid hO2; clear hO2 hg2)
        all_goals go_wp2
        all_goals refine ⟨⟨_, _, _, ⟨i + 1, r', k, s' + 1, q + 1, A4, _, _, c4, rfl, _, rfl, _, rfl, HN.out.1, ?_, ?_, ?_⟩, rfl, rfl, rfl⟩, ?_⟩
        all_goals first
          | (focus (simp only [slLen]; omega))
          | (focus (rw [smC_succ, HFq.out]; exact HO2.out))
          | (focus (first | exact HT2.out.1 rfl | exact HT2.out.1 (by assumption) | exact HT2.out.2 (by assumption)))
          | (focus exact HL3.out)
      · have HN := Lib.hid (HJ.out.ab (by omega) (by omega) ht)
        have d1 : decide ((g i).t < (h k).t) = false := decide_eq_false (by omega)
        have d2 : decide ((h k).t < (g i).t) = false := decide_eq_false (by omega)
        clear ht
        have HAg := Lib.hid (fun W => agreed_any (g i) (h k) W)
        have HFq : Hid (f q = agr (g i) (h k)) := Lib.hid (by rw [HF.out]; exact HN.out.2)
        generalize agr (g i) (h k) = Z at *
        obtain ⟨zt, zn, zm⟩ := Z
        generalize g i = X at *
        generalize h k = Y at *
        obtain ⟨xt, xn, xm⟩ := X
        obtain ⟨yt, yn, ym⟩ := Y
        simp only at x1 x2 x3 y1 y2 y3 d1 d2 HAg HFq 
        go_wp2
        go_quiet (fail)
        go_wp2
        go_quiet (fail)
        go_wp2
        go_region_law (first | (go_simp; go_at_call 87; refine (HAg.out _).mono ?_; rintro e W1 ⟨rfl, z, rfl⟩) | (apply step_append_own el_sample w w.heap.size (v := .slice A1 q c1) (n := q) (xs := smC f q) (m := 1) (news := [.int .i64 zt, .int .i64 zn, .int .i64 zm]); exact rfl; exact rfl; exact rfl; exact rfl; (focus omega); exact HO.out.of_gx (by repeat (first | (with_reducible exact Gx.refl _) | (with_reducible assumption) | (with_reducible refine Gx.gx ?_) | (with_reducible refine Gx.alloc ?_) | (with_reducible refine Gx.drew ?_) | (with_reducible refine Gx.drewN ?_) | (with_reducible refine Gx.setRow ?_ (by first | omega | (simp; done) | (simp <;> omega))) | (with_reducible refine Gx.setCell ?_ (by first | omega | (simp; done) | (simp <;> omega))))); exact (Gx.trans (by repeat (first | (with_reducible exact Gx.refl _) | (with_reducible assumption) | (with_reducible refine Gx.gx ?_) | (with_reducible refine Gx.alloc ?_) | (with_reducible refine Gx.drew ?_) | (with_reducible refine Gx.drewN ?_) | (with_reducible refine Gx.setRow ?_ (by first | omega | (simp; done) | (simp <;> omega))) | (with_reducible refine Gx.setCell ?_ (by first | omega | (simp; done) | (simp <;> omega))))) HG.out); (focus (simp <;> omega)); exact rfl; (focus (repeat (first | (with_reducible assumption) | ((with_reducible apply Shows.whole); focus ((focus (repeat (first | (with_reducible assumption) | (with_reducible exact At.new _ _) | (with_reducible refine At.row ?_) | ((with_reducible refine At.row_other ?_ ?_); rotate_left; (focus (simp <;> omega))) | (with_reducible refine At.app ?_) | (with_reducible refine At.tick ?_) | (with_reducible refine At.gx ?_) | ((with_reducible refine At.new' ?_); focus (simp; done)) | (with_reducible refine At.alloc ?_) | (with_reducible refine At.drew ?_) | (with_reducible exact Is.new _ _ _) | (with_reducible refine Is.row ?_) | ((with_reducible refine Is.row_other ?_ ?_); rotate_left; (focus (simp <;> omega))) | (with_reducible refine Is.gx ?_) | ((with_reducible refine Is.new' ?_); focus (simp; done)) | (with_reducible refine Is.alloc ?_) | (with_reducible refine Is.drew ?_)))); done)) | (with_reducible refine Shows.app ?_) | (with_reducible refine Shows.tick ?_) | (with_reducible refine Shows.gx ?_) | (with_reducible refine Shows.alloc ?_) | (with_reducible refine Shows.drew ?_)))); (focus (simp [Value.oneCell']; done)); (focus (simp only [maxLen]; omega)); (focus omega); (focus decide); rintro v2 W2 hW2 hO2 hg2; obtain ⟨A4, c4, rfl, -⟩ := hO2.is; have HO2 := Lib.hid hO2; clear hO2 hg2))
        all_goals go_wp2
        all_goals go_region
        all_goals go_wp2
        all_goals refine ⟨⟨_, _, _, ⟨i + 1, r', k + 1, s', q + 1, A4, _, _, c4, rfl, _, rfl, _, rfl, (by repeat (first | (with_reducible exact Gx.refl _) | (with_reducible assumption) | (with_reducible refine Gx.gx ?_) | (with_reducible refine Gx.alloc ?_) | (with_reducible refine Gx.drew ?_) | (with_reducible refine Gx.drewN ?_) | (with_reducible refine Gx.setRow ?_ (by first | omega | (simp; done) | (simp <;> omega))) | (with_reducible refine Gx.setCell ?_ (by first | omega | (simp; done) | (simp <;> omega))))), HN.out.1, ?_, ?_, ?_⟩, rfl, rfl, rfl⟩, ?_⟩
        all_goals first
          | (focus (simp only [slLen]; omega))
          | (focus (rw [smC_succ, HFq.out]; exact HO2.out.drew))
          | (focus (first | exact HT2.out.1 rfl | exact HT2.out.1 (by assumption) | exact HT2.out.2 (by assumption)))
          | (focus (first | exact HT3.out.1 rfl | exact HT3.out.1 (by assumption) | exact HT3.out.2 (by assumption)))
      · have HN := Lib.hid (HJ.out.b (by omega) (.inr ht))
        have d1 : decide ((g i).t < (h k).t) = false := decide_eq_false (by omega)
        have d2 : decide ((h k).t < (g i).t) = true := decide_eq_true ht
        have HFq : Hid (f q = h k) := Lib.hid (by rw [HF.out]; exact HN.out.2)
        clear ht
        generalize g i = X at *
        generalize h k = Y at *
        obtain ⟨xt, xn, xm⟩ := X
        obtain ⟨yt, yn, ym⟩ := Y
        simp only at x1 x2 x3 y1 y2 y3 d1 d2 
        go_wp2
        go_quiet (fail)
        go_wp2
        go_quiet (fail)
        go_wp2
        go_region_law (apply step_append_own el_sample w w.heap.size (v := .slice A1 q c1) (n := q) (xs := smC f q) (m := 1) (news := [.int .i64 yt, .int .i64 yn, .int .i64 ym]); exact rfl; exact rfl; exact rfl; exact rfl; (focus omega); exact HO.out.of_gx (by repeat (first | (with_reducible exact Gx.refl _) | (with_reducible assumption) | (with_reducible refine Gx.gx ?_) | (with_reducible refine Gx.alloc ?_) | (with_reducible refine Gx.drew ?_) | (with_reducible refine Gx.drewN ?_) | (with_reducible refine Gx.setRow ?_ (by first | omega | (simp; done) | (simp <;> omega))) | (with_reducible refine Gx.setCell ?_ (by first | omega | (simp; done) | (simp <;> omega))))); exact (Gx.trans (by repeat (first | (with_reducible exact Gx.refl _) | (with_reducible assumption) | (with_reducible refine Gx.gx ?_) | (with_reducible refine Gx.alloc ?_) | (with_reducible refine Gx.drew ?_) | (with_reducible refine Gx.drewN ?_) | (with_reducible refine Gx.setRow ?_ (by first | omega | (simp; done) | (simp <;> omega))) | (with_reducible refine Gx.setCell ?_ (by first | omega | (simp; done) | (simp <;> omega))))) HG.out); (focus (simp <;> omega)); exact rfl; (focus (repeat (first | (with_reducible assumption) | ((with_reducible apply Shows.whole); focus ((focus (repeat (first | (with_reducible assumption) | (with_reducible exact At.new _ _) | (with_reducible refine At.row ?_) | ((with_reducible refine At.row_other ?_ ?_); rotate_left; (focus (simp <;> omega))) | (with_reducible refine At.app ?_) | (with_reducible refine At.tick ?_) | (with_reducible refine At.gx ?_) | ((with_reducible refine At.new' ?_); focus (simp; done)) | (with_reducible refine At.alloc ?_) | (with_reducible refine At.drew ?_) | (with_reducible exact Is.new _ _ _) | (with_reducible refine Is.row ?_) | ((with_reducible refine Is.row_other ?_ ?_); rotate_left; (focus (simp <;> omega))) | (with_reducible refine Is.gx ?_) | ((with_reducible refine Is.new' ?_); focus (simp; done)) | (with_reducible refine Is.alloc ?_) | (with_reducible refine Is.drew ?_)))); done)) | (with_reducible refine Shows.app ?_) | (with_reducible refine Shows.tick ?_) | (with_reducible refine Shows.gx ?_) | (with_reducible refine Shows.alloc ?_) | (with_reducible refine Shows.drew ?_)))); (focus (simp [Value.oneCell']; done)); (focus (simp only [maxLen]; omega)); (focus omega); (focus decide); rintro v2 W2 hW2 hO2 hg2; obtain ⟨A4, c4, rfl, -⟩ := hO2.is; have HO2 := Lib.hid hO2; clear hO2 hg2)
        all_goals go_wp2
        all_goals refine ⟨⟨_, _, _, ⟨i, r' + 1, k + 1, s', q + 1, A4, _, _, c4, rfl, _, rfl, _, rfl, HN.out.1, ?_, ?_, ?_⟩, rfl, rfl, rfl⟩, ?_⟩
        all_goals first
          | (focus (simp only [slLen]; omega))
          | (focus (rw [smC_succ, HFq.out]; exact HO2.out))
          | (focus exact HL2.out)
          | (focus (first | exact HT3.out.1 rfl | exact HT3.out.1 (by assumption) | exact HT3.out.2 (by assumption)))
end Go.Proofs.YtjlokobgdkkppaaDoor
