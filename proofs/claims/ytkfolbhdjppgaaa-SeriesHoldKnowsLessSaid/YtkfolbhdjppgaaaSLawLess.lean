/-
  The law SeriesHoldKnowsLess, walked.
-/
import Derived.Test.YtkfolbhdjppgaaaSLess
import Derived.Deep.RegionHeld3
namespace Go.Proofs.Ytkfolbhdjppgaaa
open Go.RowKit
-- AT2
-- AT3

/-- m ints that were handed in. -/
@[irreducible] def IAt (W : World) (z : Nat → Int) (m : Nat) (B : Option Addr) : Prop := 0 < m → ∃ b o, B = some ⟨b, o, none⟩ ∧ ∀ k, k < m → W.cell? ⟨b, o + k, none⟩ = some (.int .i64 (z k))
theorem SmAt.shows {W : World} {g : Nat → Sm} {n : Nat} {A : Option Addr} (h : SmAt W g n A) : Shows (smC g n) A W := by
  unfold Shows
  intro hl
  rw [smC_len] at hl
  unfold SmAt at h
  obtain ⟨b, o, rfl, hc⟩ := h (by omega)
  refine ⟨b, o, rfl, fun j u hu => ?_⟩
  have hj := (List.getElem?_eq_some_iff.1 hu).1
  rw [smC_len] at hj
  obtain ⟨i, r, hr, rfl⟩ : ∃ i r, r < 3 ∧ j = i * 3 + r := ⟨j / 3, j % 3, by omega, by omega⟩
  obtain ⟨e1, e2, e3⟩ := smC_at g n i (by omega)
  obtain ⟨c1, c2, c3⟩ := hc i (by omega)
  rw [← Nat.add_assoc]
  rcases (by omega : r = 0 ∨ r = 1 ∨ r = 2) with rfl | rfl | rfl
  · rw [Nat.add_zero] at hu ⊢; rw [e1] at hu; rw [c1, hu]
  · rw [e2] at hu; rw [c2, hu]
  · rw [e3] at hu; rw [c3, hu]
theorem smC_one (g : Nat → Sm) : ∀ n, ∀ u ∈ smC g n, u.oneCell' = true
  | 0, u, h => by cases h
  | n + 1, u, h => by
    rw [smC_succ, List.mem_append] at h
    rcases h with h | h
    · exact smC_one g n u h
    · simp only [List.mem_cons, List.not_mem_nil, or_false] at h
      rcases h with rfl | rfl | rfl <;> rfl
theorem Own.smz {b : Nat} {W : World} {A : Option Addr} {n c : Nat} {f : Nat → Sm} (h : Own b W 38 3 (.slice A (0 + n) c) (0 + n) ([] ++ smC f n)) : Own b W 38 3 (.slice A n c) n (smC f n) := by
  rw [Nat.zero_add, List.nil_append] at h; exact h
set_option maxHeartbeats 4000000 in
set_option maxRecDepth 100000 in
theorem lessLaw_core (S : Value) (den : Int) (g : Nat → Sm) (A : Option Addr) (n c : Nat) (hS : S = serV den A n c) (hA : A = none → n = 0 ∧ c = 0) (hn : n ≤ 20000) (B : Option Addr) (m cB : Nat) (z : Nat → Int) (hm : m ≤ 9223372036854775807) (a l : Int) (w : World) (hL : SmAt w g n A) (hB : IAt w z m B) (X : Sm) (b1 : Bool)
    (H1 : Hid (∀ W, (∃ x, W = gx w x) → Calls Try.prog 17 #[S, .int .i64 a, .int .i64 l] W fun e W' => e = .returned (.tuple #[smV X.t X.n X.m, .bool b1, .int .i64 0]) ∧ ∃ x, W' = gx W x))
    (H2 : Hid (∀ W A' c' h, Less g h → SmAt W h n A' → Calls Try.prog 17 #[serV den A' n c', .int .i64 a, .int .i64 l] W fun e W' => ∃ Y b2, e = .returned (.tuple #[smV Y.t Y.n Y.m, .bool b2, .int .i64 0]) ∧ (b2 = true → b1 = true ∧ Y = X) ∧ ∃ x, W' = gx W x)) :
    Calls Try.prog 6 #[S, .slice B m cB, .int .i64 a, .int .i64 l] w fun e w' => e = .returned (.bool true) ∧ ∃ x, w' = gx w x := by
  subst hS
  obtain ⟨xt, xn, xm⟩ := X
  simp only at H1
  go_enter Try.func6, Try.ntmps6
  go_wp2_with (go_at_call 17; refine (H1.out _ (by repeat (first | (with_reducible exact Gx.refl _) | (with_reducible assumption) | (with_reducible refine Gx.gx ?_) | (with_reducible refine Gx.alloc ?_) | (with_reducible refine Gx.drew ?_) | (with_reducible refine Gx.drewN ?_) | (with_reducible refine Gx.setRow ?_ (by first | omega | (simp; done) | (simp <;> omega))) | (with_reducible refine Gx.setCell ?_ (by first | omega | (simp; done) | (simp <;> omega)))))).mono ?_; rintro e w' ⟨rfl, x1, rfl⟩)
  obtain ⟨W1, hW1⟩ : ∃ W1, W1 = (gx (w.alloc (.cells #[.int .i64 den, .slice A n c] 36)) x1).alloc (.cells #[.int .i64 xt, .int .i64 xn, .int .i64 xm] 38) := ⟨_, rfl⟩
  obtain ⟨gX, hgX⟩ : ∃ gX, gX = w.heap.size + 1 + x1.n := ⟨_, rfl⟩
  rw [← hW1, ← hgX]
  have hz1 : gX < W1.heap.size := by rw [hW1, hgX]; simp
  have G1 : ∃ x, W1 = gx w x := by rw [hW1]; exact (by repeat (first | (with_reducible exact Gx.refl _) | (with_reducible assumption) | (with_reducible refine Gx.gx ?_) | (with_reducible refine Gx.alloc ?_) | (with_reducible refine Gx.drew ?_) | (with_reducible refine Gx.drewN ?_) | (with_reducible refine Gx.setRow ?_ (by first | omega | (simp; done) | (simp <;> omega))) | (with_reducible refine Gx.setCell ?_ (by first | omega | (simp; done) | (simp <;> omega)))))
  have S1 : At W1 w.heap.size (.cells #[.int .i64 den, .slice A n c] 36 (0, 0)) := by rw [hW1]; (focus (repeat (first | (with_reducible assumption) | (with_reducible exact At.new _ _) | (with_reducible refine At.row ?_) | ((with_reducible refine At.row_other ?_ ?_); rotate_left; (focus (simp <;> omega))) | (with_reducible refine At.app ?_) | (with_reducible refine At.tick ?_) | (with_reducible refine At.gx ?_) | ((with_reducible refine At.new' ?_); focus (simp; done)) | (with_reducible refine At.alloc ?_) | (with_reducible refine At.drew ?_) | (with_reducible exact Is.new _ _ _) | (with_reducible refine Is.row ?_) | ((with_reducible refine Is.row_other ?_ ?_); rotate_left; (focus (simp <;> omega))) | (with_reducible refine Is.gx ?_) | ((with_reducible refine Is.new' ?_); focus (simp; done)) | (with_reducible refine Is.alloc ?_) | (with_reducible refine Is.drew ?_))))
  have X1 : At W1 gX (.cells #[.int .i64 xt, .int .i64 xn, .int .i64 xm] 38 (0, 0)) := by rw [hW1, hgX]; exact At.new' (by simp)
  have L1 : SmAt W1 g n A := by obtain ⟨x, hx⟩ := G1; rw [hx]; exact hL.gx
  have hgX' : w.heap.size < gX := by omega
  clear hW1 hgX
  have hsh := L1.shows
  have s0 : W1.cell? ⟨w.heap.size, 0, none⟩ = some (.int .i64 den) := by rw [cell_of_row W1 _ _ _ _ _ S1]; rfl
  have s1 : W1.cell? ⟨w.heap.size, 1, none⟩ = some (.slice A n c) := by rw [cell_of_row W1 _ _ _ _ _ S1]; rfl
  go_region_held3 (fun W => (∃ x, W = gx w x) ∧ W.cell? ⟨w.heap.size, 0, none⟩ = some (.int .i64 den) ∧ W.cell? ⟨w.heap.size, 1, none⟩ = some (.slice A n c))
    (refine ⟨(by repeat (first | (with_reducible exact Gx.refl _) | (with_reducible assumption) | (with_reducible refine Gx.gx ?_) | (with_reducible refine Gx.alloc ?_) | (with_reducible refine Gx.drew ?_) | (with_reducible refine Gx.drewN ?_) | (with_reducible refine Gx.setRow ?_ (by first | omega | (simp; done) | (simp <;> omega))) | (with_reducible refine Gx.setCell ?_ (by first | omega | (simp; done) | (simp <;> omega))))), ?_, ?_⟩ <;> first | assumption | exact setc_other (setc_other (by assumption) (fun e => by injection e with e1; omega)) (fun e => by injection e with e1; omega) | exact cell_keep_gx ‹_› | go_keep | (simp [go_sem]; done))
    (first
    | (apply step_append_all el_sample w W1.heap.size (v := .slice none 0 0) (n := 0) (xs := []) (A := A) (m := n) (c := c) (news := smC g n); exact rfl; exact rfl; exact rfl; exact rfl; exact hA; (focus omega); exact Own.nil _ _ _ _; exact (by repeat (first | (with_reducible exact Gx.refl _) | (with_reducible assumption) | (with_reducible refine Gx.gx ?_) | (with_reducible refine Gx.alloc ?_) | (with_reducible refine Gx.drew ?_) | (with_reducible refine Gx.drewN ?_) | (with_reducible refine Gx.setRow ?_ (by first | omega | (simp; done) | (simp <;> omega))) | (with_reducible refine Gx.setCell ?_ (by first | omega | (simp; done) | (simp <;> omega))))); (focus (simp <;> omega)); exact smC_len g n; (focus (repeat (first | (with_reducible assumption) | ((with_reducible apply Shows.whole); focus ((focus (repeat (first | (with_reducible assumption) | (with_reducible exact At.new _ _) | (with_reducible refine At.row ?_) | ((with_reducible refine At.row_other ?_ ?_); rotate_left; (focus (simp <;> omega))) | (with_reducible refine At.app ?_) | (with_reducible refine At.tick ?_) | (with_reducible refine At.gx ?_) | ((with_reducible refine At.new' ?_); focus (simp; done)) | (with_reducible refine At.alloc ?_) | (with_reducible refine At.drew ?_) | (with_reducible exact Is.new _ _ _) | (with_reducible refine Is.row ?_) | ((with_reducible refine Is.row_other ?_ ?_); rotate_left; (focus (simp <;> omega))) | (with_reducible refine Is.gx ?_) | ((with_reducible refine Is.new' ?_); focus (simp; done)) | (with_reducible refine Is.alloc ?_) | (with_reducible refine Is.drew ?_)))); done)) | (with_reducible refine Shows.app ?_) | (with_reducible refine Shows.tick ?_) | (with_reducible refine Shows.gx ?_) | (with_reducible refine Shows.alloc ?_) | (with_reducible refine Shows.drew ?_)))); exact smC_one g n; (focus (simp only [maxLen]; omega)); (focus omega); rintro v' W3 hG3 hO3 hg3; obtain ⟨A3, c3, rfl, -⟩ := hO3.is; have hO4 := hO3.smz; have S3 := At.grown (g := w.heap.size) (o := (.cells #[.int .i64 den, .slice A n c] 36 (0, 0))) (by first | exact S1.drew | exact S1.drew.alloc) hg3 (by simp [Value.ownBlock]); have X3 := At.grown (g := gX) (o := (.cells #[.int .i64 xt, .int .i64 xn, .int .i64 xm] 38 (0, 0))) (by first | exact X1.drew | exact X1.drew.alloc) hg3 (by simp [Value.ownBlock]); have t0 : W3.cell? ⟨w.heap.size, 0, none⟩ = some (.int .i64 den) := (by rw [cell_of_row W3 _ _ _ _ _ S3]; rfl); (try (have T3 := At.grown (g := W1.heap.size) (o := (.cells #[.int .i64 0, .slice none 0 0] 36 (0, 0))) (At.new W1 _).drew hg3 (by simp [Value.ownBlock]); have u0 : W3.cell? ⟨W1.heap.size, 0, none⟩ = some (.int .i64 0) := (by rw [cell_of_row W3 _ _ _ _ _ T3]; rfl); have u1 : W3.cell? ⟨W1.heap.size, 1, none⟩ = some (.slice none 0 0) := (by rw [cell_of_row W3 _ _ _ _ _ T3]; rfl); have f0 : W3.frozen? ⟨W1.heap.size, 0, none⟩ = false := T3.frz; have f1 : W3.frozen? ⟨W1.heap.size, 1, none⟩ = false := T3.frz; have hl3 : W1.heap.size < W3.heap.size := T3.lt)); have t1 : W3.cell? ⟨w.heap.size, 1, none⟩ = some (.slice A n c) := (by rw [cell_of_row W3 _ _ _ _ _ S3]; rfl)))
  · have HST := Lib.hid (LsSt.start1 (X := ⟨xt, xn, xm⟩) hG3 S3 X3 hgX' hz1 hO4)
    clear S1 X1 L1 G1 hsh s0 s1 hz1 hO4 hO3 hg3 S3 X3 t0 t1 hG3
    generalize W3.alloc (.cells #[.int .i64 den, .slice A3 n c3] 36) = W4 at *
    generalize W3.heap.size = gT at *
    go_wp2
    go_loopw [13] (fun i wr => ∃ (j : Nat) (h : Nat → Sm), j ≤ m ∧ i = .int .i64 j ∧ Less g h ∧ LsSt w wr gX gT ⟨xt, xn, xm⟩ den A c n h A3 c3) (fun i _ => m - (intOf i).toNat)
    case atStart => exact ⟨0, g, Nat.zero_le _, rfl, Less.refl g, HST.out⟩
    case round =>
      obtain ⟨j, h, hj, rfl, hless, H⟩ := hrel
      have q0 : wr.cell? ⟨gT, 0, none⟩ = some (.int .i64 den) := by rw [cell_of_row wr _ _ _ _ _ H.tt]; rfl
      have q1 : wr.cell? ⟨gT, 1, none⟩ = some (.slice A3 n c3) := by rw [cell_of_row wr _ _ _ _ _ H.tt]; rfl
      have lT : gT < wr.heap.size := H.tt.lt
      have HL := Lib.hid hless
      by_cases hlt : j < m
      · have hjz : (j : Int) < (m : Int) := by omega
        obtain ⟨b, o, rfl, hcB⟩ : ∃ b o, B = some ⟨b, o, none⟩ ∧ ∀ k, k < m → wr.cell? ⟨b, o + k, none⟩ = some (.int .i64 (z k)) := by
          have hB' := hB
          unfold IAt at hB'
          obtain ⟨b, o, e, hc⟩ := hB' (by omega)
          obtain ⟨x, hx⟩ := H.grew
          exact ⟨b, o, e, fun k hk => by rw [hx]; exact cell_keep_gx (hc k hk)⟩
        have hzj := hcB j hlt
        clear hcB hless
        generalize z j = q at hzj
        by_cases hq : 0 ≤ q ∧ q < n
        · obtain ⟨k, rfl⟩ : ∃ k : Nat, q = (k : Int) := ⟨q.toNat, by omega⟩
          have hk : k < n := by omega
          have hkz : (k : Int) < (n : Int) := by omega
          clear hq
          obtain ⟨gM, hA3, hI, m1, m2, m3⟩ := H.row (by omega)
          have hsm := H.sm
          rw [hA3] at hsm H q1
          unfold SmAt at hsm
          obtain ⟨b', o', e2, hc⟩ := hsm (by omega)
          obtain ⟨rfl, rfl⟩ : gM = b' ∧ 0 = o' := by simpa using e2
          obtain ⟨c0, c1, c2⟩ : wr.cell? ⟨gM, k * 3, none⟩ = some (.int .i64 (h k).t) ∧ wr.cell? ⟨gM, k * 3 + 1, none⟩ = some (.int .i64 (h k).n) ∧ wr.cell? ⟨gM, k * 3 + 2, none⟩ = some (.int .i64 (h k).m) := by
            have := hc k hk
            simpa using this
          obtain ⟨fz0, fz1, fz2, lM⟩ : wr.frozen? ⟨gM, k * 3, none⟩ = false ∧ wr.frozen? ⟨gM, k * 3 + 1, none⟩ = false ∧ wr.frozen? ⟨gM, k * 3 + 2, none⟩ = false ∧ gM < wr.heap.size := by
            obtain ⟨cs, hA⟩ := hI; exact ⟨hA.frz, hA.frz, hA.frz, hA.lt⟩
          have HS := Lib.hid H
          have HA3 := Lib.hid hA3
          clear hsm hc H hI e2 hA3
          go_wp2
          go_region
          go_wp2
          go_roundw
          case rel => exact ⟨j + 1, lose h k, by omega, by go_num, HL.out.lose k, by rw [HA3.out]; exact (HS.out.put hk rfl).drew⟩
          case measure => simp [intOf]; omega
        · have HS := Lib.hid H
          have hs : decide (0 ≤ q) = false ∨ (decide (0 ≤ q) = true ∧ decide (q < (n : Int)) = false) := by
            simp only [decide_eq_true_eq, decide_eq_false_iff_not]; omega
          clear H hq
          rcases hs with d1 | ⟨d1, d2⟩
          · go_wp2
            go_roundw
            case rel => exact ⟨j + 1, h, by omega, by go_num, HL.out, HS.out⟩
            case measure => simp [intOf]; omega
          · go_wp2
            go_roundw
            case rel => exact ⟨j + 1, h, by omega, by go_num, HL.out, HS.out⟩
            case measure => simp [intOf]; omega
      · obtain rfl : j = m := by omega
        have x0 : wr.cell? ⟨gX, 0, none⟩ = some (.int .i64 xt) := by rw [cell_of_row wr _ _ _ _ _ H.x]; rfl
        have x1 : wr.cell? ⟨gX, 1, none⟩ = some (.int .i64 xn) := by rw [cell_of_row wr _ _ _ _ _ H.x]; rfl
        have x2 : wr.cell? ⟨gX, 2, none⟩ = some (.int .i64 xm) := by rw [cell_of_row wr _ _ _ _ _ H.x]; rfl
        have lX : gX < wr.heap.size := H.x.lt
        have HG := H.grew
        have HH := Lib.hid (H2.out wr A3 c3 h hless H.sm)
        clear H hless H1 H2
        go_wp2_with first
          | (go_at_call 17; refine HH.out.mono ?_; rintro e w' ⟨⟨yt, yn, ym⟩, b2, rfl, hy, y1, rfl⟩; cases b2 <;> first | (obtain ⟨rfl, e⟩ := hy rfl; simp only [Sm.mk.injEq] at e; obtain ⟨rfl, rfl, rfl⟩ := e) | clear hy)
          | (go_at_call 16; refine (holds_any _).mono ?_; rintro e w' ⟨rfl, y2, rfl⟩)
        all_goals go_ret
        all_goals exact ⟨rfl, (by repeat (first | (with_reducible exact Gx.refl _) | (with_reducible assumption) | (with_reducible refine Gx.gx ?_) | (with_reducible refine Gx.alloc ?_) | (with_reducible refine Gx.drew ?_) | (with_reducible refine Gx.drewN ?_) | (with_reducible refine Gx.setRow ?_ (by first | omega | (simp; done) | (simp <;> omega))) | (with_reducible refine Gx.setCell ?_ (by first | omega | (simp; done) | (simp <;> omega)))))⟩
  · have HST := Lib.hid (LsSt.start2 (X := ⟨xt, xn, xm⟩) hG3 S3 X3 hgX' hz1 hO4 T3 hz1)
    clear S1 X1 L1 G1 hsh s0 s1 hO4 hO3 hg3 S3 X3 t0 t1 hG3 T3 u0 u1 f0 f1 hl3
    generalize (W3.setCell ⟨W1.heap.size, 0, none⟩ (.int .i64 den)).setCell ⟨W1.heap.size, 1, none⟩ (.slice A3 n c3) = W4 at *
    generalize W1.heap.size = gT at *
    go_wp2
    go_loopw [13] (fun i wr => ∃ (j : Nat) (h : Nat → Sm), j ≤ m ∧ i = .int .i64 j ∧ Less g h ∧ LsSt w wr gX gT ⟨xt, xn, xm⟩ den A c n h A3 c3) (fun i _ => m - (intOf i).toNat)
    case atStart => exact ⟨0, g, Nat.zero_le _, rfl, Less.refl g, HST.out⟩
    case round =>
      obtain ⟨j, h, hj, rfl, hless, H⟩ := hrel
      have q0 : wr.cell? ⟨gT, 0, none⟩ = some (.int .i64 den) := by rw [cell_of_row wr _ _ _ _ _ H.tt]; rfl
      have q1 : wr.cell? ⟨gT, 1, none⟩ = some (.slice A3 n c3) := by rw [cell_of_row wr _ _ _ _ _ H.tt]; rfl
      have lT : gT < wr.heap.size := H.tt.lt
      have HL := Lib.hid hless
      by_cases hlt : j < m
      · have hjz : (j : Int) < (m : Int) := by omega
        obtain ⟨b, o, rfl, hcB⟩ : ∃ b o, B = some ⟨b, o, none⟩ ∧ ∀ k, k < m → wr.cell? ⟨b, o + k, none⟩ = some (.int .i64 (z k)) := by
          have hB' := hB
          unfold IAt at hB'
          obtain ⟨b, o, e, hc⟩ := hB' (by omega)
          obtain ⟨x, hx⟩ := H.grew
          exact ⟨b, o, e, fun k hk => by rw [hx]; exact cell_keep_gx (hc k hk)⟩
        have hzj := hcB j hlt
        clear hcB hless
        generalize z j = q at hzj
        by_cases hq : 0 ≤ q ∧ q < n
        · obtain ⟨k, rfl⟩ : ∃ k : Nat, q = (k : Int) := ⟨q.toNat, by omega⟩
          have hk : k < n := by omega
          have hkz : (k : Int) < (n : Int) := by omega
          clear hq
          obtain ⟨gM, hA3, hI, m1, m2, m3⟩ := H.row (by omega)
          have hsm := H.sm
          rw [hA3] at hsm H q1
          unfold SmAt at hsm
          obtain ⟨b', o', e2, hc⟩ := hsm (by omega)
          obtain ⟨rfl, rfl⟩ : gM = b' ∧ 0 = o' := by simpa using e2
          obtain ⟨c0, c1, c2⟩ : wr.cell? ⟨gM, k * 3, none⟩ = some (.int .i64 (h k).t) ∧ wr.cell? ⟨gM, k * 3 + 1, none⟩ = some (.int .i64 (h k).n) ∧ wr.cell? ⟨gM, k * 3 + 2, none⟩ = some (.int .i64 (h k).m) := by
            have := hc k hk
            simpa using this
          obtain ⟨fz0, fz1, fz2, lM⟩ : wr.frozen? ⟨gM, k * 3, none⟩ = false ∧ wr.frozen? ⟨gM, k * 3 + 1, none⟩ = false ∧ wr.frozen? ⟨gM, k * 3 + 2, none⟩ = false ∧ gM < wr.heap.size := by
            obtain ⟨cs, hA⟩ := hI; exact ⟨hA.frz, hA.frz, hA.frz, hA.lt⟩
          have HS := Lib.hid H
          have HA3 := Lib.hid hA3
          clear hsm hc H hI e2 hA3
          go_wp2
          go_region
          go_wp2
          go_roundw
          case rel => exact ⟨j + 1, lose h k, by omega, by go_num, HL.out.lose k, by rw [HA3.out]; exact (HS.out.put hk rfl).drew⟩
          case measure => simp [intOf]; omega
        · have HS := Lib.hid H
          have hs : decide (0 ≤ q) = false ∨ (decide (0 ≤ q) = true ∧ decide (q < (n : Int)) = false) := by
            simp only [decide_eq_true_eq, decide_eq_false_iff_not]; omega
          clear H hq
          rcases hs with d1 | ⟨d1, d2⟩
          · go_wp2
            go_roundw
            case rel => exact ⟨j + 1, h, by omega, by go_num, HL.out, HS.out⟩
            case measure => simp [intOf]; omega
          · go_wp2
            go_roundw
            case rel => exact ⟨j + 1, h, by omega, by go_num, HL.out, HS.out⟩
            case measure => simp [intOf]; omega
      · obtain rfl : j = m := by omega
        have x0 : wr.cell? ⟨gX, 0, none⟩ = some (.int .i64 xt) := by rw [cell_of_row wr _ _ _ _ _ H.x]; rfl
        have x1 : wr.cell? ⟨gX, 1, none⟩ = some (.int .i64 xn) := by rw [cell_of_row wr _ _ _ _ _ H.x]; rfl
        have x2 : wr.cell? ⟨gX, 2, none⟩ = some (.int .i64 xm) := by rw [cell_of_row wr _ _ _ _ _ H.x]; rfl
        have lX : gX < wr.heap.size := H.x.lt
        have HG := H.grew
        have HH := Lib.hid (H2.out wr A3 c3 h hless H.sm)
        clear H hless H1 H2
        go_wp2_with first
          | (go_at_call 17; refine HH.out.mono ?_; rintro e w' ⟨⟨yt, yn, ym⟩, b2, rfl, hy, y1, rfl⟩; cases b2 <;> first | (obtain ⟨rfl, e⟩ := hy rfl; simp only [Sm.mk.injEq] at e; obtain ⟨rfl, rfl, rfl⟩ := e) | clear hy)
          | (go_at_call 16; refine (holds_any _).mono ?_; rintro e w' ⟨rfl, y2, rfl⟩)
        all_goals go_ret
        all_goals exact ⟨rfl, (by repeat (first | (with_reducible exact Gx.refl _) | (with_reducible assumption) | (with_reducible refine Gx.gx ?_) | (with_reducible refine Gx.alloc ?_) | (with_reducible refine Gx.drew ?_) | (with_reducible refine Gx.drewN ?_) | (with_reducible refine Gx.setRow ?_ (by first | omega | (simp; done) | (simp <;> omega))) | (with_reducible refine Gx.setCell ?_ (by first | omega | (simp; done) | (simp <;> omega)))))⟩
/-- The law, where the first Hold returns an error. -/
theorem lessLaw_bad (S : Value) (den : Int) (A : Option Addr) (n c : Nat) (hS : S = serV den A n c) (v : Value) (a l : Int) (w : World) (X : Sm) (b1 : Bool) (er : Int) (he : er ≠ 0)
    (H1 : Hid (∀ W, (∃ x, W = gx w x) → Calls Try.prog 17 #[S, .int .i64 a, .int .i64 l] W fun e W' => e = .returned (.tuple #[smV X.t X.n X.m, .bool b1, .int .i64 er]) ∧ ∃ x, W' = gx W x)) :
    Calls Try.prog 6 #[S, v, .int .i64 a, .int .i64 l] w fun e w' => e = .returned (.bool true) ∧ ∃ x, w' = gx w x := by
  subst hS
  obtain ⟨xt, xn, xm⟩ := X
  simp only at H1
  have n1 := ne0 he
  have n2 := ne0' he
  clear he
  go_enter Try.func6, Try.ntmps6
  go_wp2_with first
    | (go_at_call 17; refine (H1.out _ (by repeat (first | (with_reducible exact Gx.refl _) | (with_reducible assumption) | (with_reducible refine Gx.gx ?_) | (with_reducible refine Gx.alloc ?_) | (with_reducible refine Gx.drew ?_) | (with_reducible refine Gx.drewN ?_) | (with_reducible refine Gx.setRow ?_ (by first | omega | (simp; done) | (simp <;> omega))) | (with_reducible refine Gx.setCell ?_ (by first | omega | (simp; done) | (simp <;> omega)))))).mono ?_; rintro e w' ⟨rfl, x1, rfl⟩)
    | (go_at_call 16; refine (holds_any _).mono ?_; rintro e w' ⟨rfl, y2, rfl⟩)
  go_ret
  exact ⟨rfl, (by repeat (first | (with_reducible exact Gx.refl _) | (with_reducible assumption) | (with_reducible refine Gx.gx ?_) | (with_reducible refine Gx.alloc ?_) | (with_reducible refine Gx.drew ?_) | (with_reducible refine Gx.drewN ?_) | (with_reducible refine Gx.setRow ?_ (by first | omega | (simp; done) | (simp <;> omega))) | (with_reducible refine Gx.setCell ?_ (by first | omega | (simp; done) | (simp <;> omega)))))⟩
theorem lessLaw (den : Int) (g : Nat → Sm) (A : Option Addr) (n c : Nat) (hA : A = none → n = 0 ∧ c = 0) (B : Option Addr) (m cB : Nat) (z : Nat → Int) (hm : m ≤ 9223372036854775807) (a l : Int) (w : World) (hL : SmAt w g n A) (hB : IAt w z m B) :
    Calls Try.prog 6 #[serV den A n c, .slice B m cB, .int .i64 a, .int .i64 l] w fun e w' => e = .returned (.bool true) ∧ ∃ x, w' = gx w x := by
  by_cases h : holdE den g n a l = 0
  · have hn := (goodS_of (holdE_0 h).1).2.1
    refine lessLaw_core _ den g A n c rfl hA hn B m cB z hm a l w hL hB (holdV den g n a l) (holdB den g n a l) ?_ ?_
    · rintro W ⟨x, rfl⟩
      have := Hold_any den g n c A a l _ (hL.gx (x := x))
      rw [h] at this
      exact this
    · rintro W A' c' g' hl hs
      obtain ⟨e1, e2⟩ := hl.held h
      have := Hold_any den g' n c' A' a l W hs
      rw [e1] at this
      exact this.mono fun e W' ⟨he, hx⟩ => ⟨_, _, he, e2, hx⟩
  · refine lessLaw_bad _ den A n c rfl _ a l w (holdV den g n a l) (holdB den g n a l) _ h ?_
    rintro W ⟨x, rfl⟩
    exact Hold_any den g n c A a l _ hL.gx
end Go.Proofs.Ytkfolbhdjppgaaa
