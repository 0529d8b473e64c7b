/-
  Tracks and flights that are handed in.
-/
import Derived.Test.YtfbhjgaiejjfaaaFLift
import Derived.Test.YtfbhjgaiejjfaaaFLaw
import Derived.ChangeMaps5
namespace Go.Proofs.Ytfbhjgaiejjfaaa
open Go.ChangeShapes Go.WideShapes Go.ChangeAt Go.RowKit Go.Deep Go.Joins

theorem open_s {H : Type} {enc : TypeId × Value → H} {W : World} {base fuel : Nat} {spare : Nat → Bool} {held : Bool} {v : Value} {y : DataW H × List MemPlace}
    (h : DataW.trod enc Try.prog W base spare held fuel 9 [v] = some y) : ∃ s : ByteArray, v = .string s ∧ s.size ≤ 9223372036854775807 := by
  obtain ⟨s, hs, _, hl⟩ := DataW.trod_string Try.underlying9 h
  simp only [List.cons.injEq, and_true] at hs
  exact ⟨s, hs, by simp only [maxLen] at hl; omega⟩
theorem trackFields : ∃ f0 f1 f2 : Field, Try.prog.underlying 62 = some (.struct #[f0, f1, f2]) ∧ Try.prog.cellsOf 62 = 4 ∧ f0.type = 9 ∧ f1.type = 60 ∧ f2.type = 3 ∧ f0.offset = 0 ∧ f1.offset = 1 ∧ f2.offset = 3 :=
  ⟨_, _, _, Try.underlying62, by kernel_rfl, rfl, rfl, rfl, rfl, rfl, rfl⟩
theorem strCells : Try.prog.cellsOf 9 = 1 := by kernel_rfl
theorem serCells : Try.prog.cellsOf 60 = 2 := by kernel_rfl
theorem intCells1 : Try.prog.cellsOf 3 = 1 := by kernel_rfl
theorem serFields2 : ∃ f0 f1 : Field, Try.prog.underlying 60 = some (.struct #[f0, f1]) ∧ f0.type = 3 ∧ f1.type = 58 ∧ f0.offset = 0 ∧ f1.offset = 1 ∧ Try.prog.cellsOf 58 = 1 :=
  ⟨_, _, Try.underlying60, rfl, rfl, rfl, rfl, by kernel_rfl⟩
/-- Four cells that are those of a track. -/
theorem track4 {H : Type} {enc : TypeId × Value → H} {W : World} {base fuel : Nat} {spare : Nat → Bool} {held : Bool} {c0 c1 c2 c3 : Value} {y : DataW H × List MemPlace}
    (hf : DataW.trod enc Try.prog W base spare held fuel 62 [c0, c1, c2, c3] = some y) : ∃ J : TkR, (c0 = .string J.s ∧ c1 = .int .i64 J.den ∧ c2 = .slice J.A J.n J.c ∧ c3 = .int .i64 J.lg) ∧ J.s.size ≤ 9223372036854775807 ∧ SmAt W J.f J.n J.A ∧ (J.A = none → J.n = 0 ∧ J.c = 0) ∧ J.n ≤ J.c := by
  obtain ⟨f0, f1, f2, hu, hC, t0, t1, t2, o0, o1, o2⟩ := trackFields
  obtain ⟨y0, y1, y2, m, _, _, h0, h1, h2⟩ := trod_struct3 hu hf
  rw [t0, o0, strCells] at h0
  rw [t1, o1, serCells] at h1
  rw [t2, o2, intCells1] at h2
  simp only [List.drop_zero, List.drop_succ_cons, List.take_succ_cons, List.take_zero] at h0 h1 h2
  obtain ⟨s, k0, hs⟩ := open_s h0
  obtain ⟨g0, g1, hu2, e0, e1, p0, p1, hc1⟩ := serFields2
  obtain ⟨z0, z1, m2, _, _, k1, k2⟩ := trod_struct2 hu2 h1
  rw [e0, p0, intCells1] at k1
  rw [e1, p1, hc1] at k2
  simp only [List.drop_zero, List.drop_succ_cons, List.take_succ_cons, List.take_zero] at k1 k2
  obtain ⟨den, q1⟩ := open_i k1
  obtain ⟨lg, q3⟩ := open_i h2
  obtain ⟨A, len, cap, g, q2, h1', h2', h3', h4'⟩ := open_samples k2
  exact ⟨⟨s, den, A, len, cap, lg, g⟩, ⟨k0, q1, q2, q3⟩, hs, h3', h4', h1'⟩
theorem four {l : List Value} (h : l.length = 4) : ∃ a b c d, l = [a, b, c, d] := by
  match l, h with
  | [a, b, c, d], _ => exact ⟨a, b, c, d, rfl⟩
set_option maxRecDepth 100000 in
/-- A list of tracks that is handed in. -/
theorem open_tracks {H : Type} {enc : TypeId × Value → H} {W : World} {base fuel : Nat} {spare : Nat → Bool} {held : Bool} {v : Value} {y : DataW H × List MemPlace}
    (h : DataW.trod enc Try.prog W base spare held fuel 22 [v] = some y) : ∃ A n c J, v = .slice A n c ∧ (n ≤ c ∧ c ≤ 9223372036854775807) ∧ TksAt W J n A ∧ ∀ k, k < n → (J k).s.size ≤ 9223372036854775807 ∧ ((J k).A = none → (J k).n = 0 ∧ (J k).c = 0) ∧ (J k).n ≤ (J k).c := by
  rcases open_slice Try.underlying22 h with h0 | ⟨a, len, cap, m, n, D, Pl, hcs, hb, hl, hm, hmm, hx, hi⟩
  · obtain rfl : v = .slice none 0 0 := by simpa using h0.1
    exact ⟨none, 0, 0, fun _ => ⟨⟨#[]⟩, 0, none, 0, 0, 0, fun _ => default⟩, rfl, ⟨Nat.le_refl _, Nat.zero_le _⟩, by unfold TksAt; intro h; omega, fun k hk => absurd hk (by omega)⟩
  · obtain rfl : v = .slice (some a) len cap := by simpa using hcs
    have key : ∀ i, ∃ J : TkR, i < len → (W.cell? (a.add (i * 4 + 0)) = some (.string J.s) ∧ W.cell? (a.add (i * 4 + 1)) = some (.int .i64 J.den) ∧ W.cell? (a.add (i * 4 + 2)) = some (.slice J.A J.n J.c) ∧ W.cell? (a.add (i * 4 + 3)) = some (.int .i64 J.lg)) ∧ J.s.size ≤ 9223372036854775807 ∧ SmAt W J.f J.n J.A ∧ (J.A = none → J.n = 0 ∧ J.c = 0) ∧ J.n ≤ J.c := by
      intro i
      by_cases him : i < len
      · obtain ⟨cs', hc, ht'⟩ := hi i (by rw [hmm]; split <;> omega)
        have hC : Try.prog.cellsOf 62 = 4 := trackFields.choose_spec.choose_spec.choose_spec.2.1
        rw [hC] at hc
        obtain ⟨_, hcl, hat⟩ := World.cells?_some hc
        obtain ⟨x0, x1, x2, x3, rfl⟩ := four hcl
        obtain ⟨J, ⟨rfl, rfl, rfl, rfl⟩, r⟩ := track4 ht'
        have e : ∀ j, j < 4 → W.cell? (a.add (i * 4 + j)) = ([.string J.s, .int .i64 J.den, .slice J.A J.n J.c, .int .i64 J.lg] : List Value)[j]? := fun j hj => by rw [← Go.Deep.add_add]; exact hat j hj
        exact ⟨J, fun _ => ⟨⟨e 0 (by omega), e 1 (by omega), e 2 (by omega), e 3 (by omega)⟩, r⟩⟩
      · exact ⟨⟨⟨#[]⟩, 0, none, 0, 0, 0, fun _ => default⟩, fun h => absurd h him⟩
    obtain ⟨J, hJ⟩ := Classical.axiomOfChoice key
    refine ⟨some a, len, cap, J, rfl, ⟨hl, by simp only [maxLen] at hm; omega⟩, ?_, fun k hk => ⟨(hJ k hk).2.1, (hJ k hk).2.2.2⟩⟩
    unfold TksAt
    intro hpos
    obtain ⟨b, o, sp⟩ := a
    have hsp : sp = none := by
      have := (hJ 0 hpos).1.1
      simpa [Addr.add] using World.cell?_spot this
    subst hsp
    refine ⟨b, o, rfl, fun k hk => ?_⟩
    obtain ⟨⟨k0, k1, k2, k3⟩, -, hs, -⟩ := hJ k hk
    simp only [Addr.add_lit, Nat.add_zero, ← Nat.add_assoc] at k0 k1 k2 k3 ⊢
    exact ⟨⟨k0, k1, k2, k3⟩, hs⟩
theorem flCells : Try.prog.cellsOf 24 = 6 := by kernel_rfl
theorem flFields : ∃ f0 f1 f2 f3 f4 f5 : Field, Try.prog.underlying 24 = some (.struct #[f0, f1, f2, f3, f4, f5]) ∧ oneCellFields Try.prog #[f0, f1, f2, f3, f4, f5] = true ∧ f0.type = 9 ∧ f1.type = 9 ∧ f2.type = 3 ∧ f3.type = 3 ∧ f4.type = 3 ∧ f5.type = 22 :=
  ⟨_, _, _, _, _, _, Try.underlying24, by kernel_rfl, rfl, rfl, rfl, rfl, rfl, rfl⟩
set_option maxRecDepth 100000 in
/-- A flight that is handed in. -/
theorem open_flight {H : Type} {enc : TypeId × Value → H} {W : World} {r : Reach} {b0 base : Nat} {spare : Nat → Bool} {held : Bool} {v : Value} {d : DataW H} {p : List MemPlace}
    (hv : Value.okWide Try.prog W r b0 24 v) (h : DataW.Trod enc Try.prog W base spare held 24 v d p) : ∃ tl rt dy fr to A n c J, v = flV tl rt dy fr to A n c ∧ FitFl tl rt J n c ∧ TksAt W J n A := by
  obtain ⟨f0, f1, f2, f3, f4, f5, hu, hone, t0, t1, t2, t3, t4, t5⟩ := flFields
  obtain ⟨cs, rfl, hsz⟩ := okWide_struct hu hv
  have hsz' : cs.size = 6 := hsz.trans flCells
  obtain ⟨l⟩ := cs
  match l, hsz' with
  | [c0, c1, c2, c3, c4, c5], _ =>
    obtain ⟨fuel, hf⟩ := h
    obtain ⟨ys, n', hn', hy, hlen, hyl, ha⟩ := DataW.trod_struct hu hf
    have key : ∀ j (f : Field), (#[f0, f1, f2, f3, f4, f5] : Array Field)[j]? = some f → ∃ y, DataW.trod enc Try.prog W base spare held n' f.type [([c0, c1, c2, c3, c4, c5] : List Value).getD j (.bool false)] = some y := by
      intro j f hj
      have h1 := ha j f hj
      obtain ⟨ho, hk⟩ := hone_of hone j f hj
      rw [ho, hk] at h1
      have hjl : j < 6 := (Array.getElem?_eq_some_iff.1 hj).1
      have hys : ys[j]? = some (ys[j]'(by simp at hyl; omega)) := List.getElem?_eq_getElem _
      have hj' : j = 0 ∨ j = 1 ∨ j = 2 ∨ j = 3 ∨ j = 4 ∨ j = 5 := by omega
      have e : List.take 1 (List.drop j (Value.agg #[c0, c1, c2, c3, c4, c5]).cells.toList) = [([c0, c1, c2, c3, c4, c5] : List Value).getD j (.bool false)] := by
        clear h1 hys hj ho hjl
        rcases hj' with rfl | rfl | rfl | rfl | rfl | rfl <;> rfl
      rw [show (Value.agg { toList := [c0, c1, c2, c3, c4, c5] }) = Value.agg #[c0, c1, c2, c3, c4, c5] from rfl, e] at h1
      exact ⟨_, h1.trans hys⟩
    obtain ⟨y0, k0⟩ := key 0 f0 rfl
    obtain ⟨y1, k1⟩ := key 1 f1 rfl
    obtain ⟨y2, k2⟩ := key 2 f2 rfl
    obtain ⟨y3, k3⟩ := key 3 f3 rfl
    obtain ⟨y4, k4⟩ := key 4 f4 rfl
    obtain ⟨y5, k5⟩ := key 5 f5 rfl
    rw [t0] at k0; rw [t1] at k1; rw [t2] at k2; rw [t3] at k3; rw [t4] at k4; rw [t5] at k5
    obtain ⟨tl, e0, s0⟩ := open_s (v := c0) k0
    obtain ⟨rt, e1, s1⟩ := open_s (v := c1) k1
    obtain ⟨dy, e2⟩ := open_i (v := c2) k2
    obtain ⟨fr, e3⟩ := open_i (v := c3) k3
    obtain ⟨to, e4⟩ := open_i (v := c4) k4
    obtain ⟨A, n, c, J, e5, hnc, hT, hfit⟩ := open_tracks (v := c5) k5
    subst e0 e1 e2 e3 e4 e5
    exact ⟨tl, rt, dy, fr, to, A, n, c, J, rfl, ⟨s0, s1, hnc, fun k hk => (hfit k hk).1, fun k hk => (hfit k hk).2⟩, hT⟩
end Go.Proofs.Ytfbhjgaiejjfaaa
