/-
  What every law's lifting needs here: calibrations, series and numbers that are handed in.
-/
import Derived.Test.YtfbhjgaiejjfaaaSRSer
import Derived.Test.YtfbhjgaiejjfaaaRows
import Derived.ProofKit
import Derived.OpenShut
import Derived.Deep.Slices
import Derived.Deep.Fields
import Derived.ChangeSame
import Derived.Lib.SmallJoins
namespace Go.Proofs.Ytfbhjgaiejjfaaa
open Go.ChangeShapes Go.WideShapes Go.ChangeAt Go.RowKit Go.Deep Go.Joins

theorem own : ownKnob Try.prog.godebug = none := by kernel_rfl
theorem laidOut : laidOutB Try.prog = true := by kernel_rfl

theorem below_trodAll {H : Type} {enc : TypeId × Value → H} {W W' : World} (hb : Below W.heap.size W W') :
    ∀ {ts : List TypeId} {vs : List Value} {ds : List (DataW H)} {ps : List MemPlace}, (∀ t ∈ ts, Try.prog.readableRec t = true ∧ t < Try.prog.types.size) → (∀ x ∈ ps, x.block < W.heap.size) →
      DataW.TrodAll enc Try.prog W 0 (fun _ => true) true ts vs ds ps → DataW.TrodAll enc Try.prog W' 0 (fun b => decide (b < W.heap.size)) true ts vs ds ps
  | [], [], [], _, _, _, h => h
  | [], [], _ :: _, _, _, _, h => h.elim
  | [], _ :: _, _, _, _, _, h => h.elim
  | _ :: _, [], _, _, _, _, h => h.elim
  | _ :: _, _ :: _, [], _, _, _, h => h.elim
  | t :: ts, v :: vs, d :: ds, ps, hT, hlt, ⟨p, q, h1, h2, e⟩ => by
    have ht := hT t (by simp)
    refine ⟨p, q, Below.trod laidOut ht.1 ht.2 h1 hb (fun x hx => hlt x (by rw [e]; exact List.mem_append_left _ hx)), ?_, e⟩
    exact below_trodAll hb (fun u hu => hT u (by simp [hu])) (fun x hx => hlt x (by rw [e]; exact List.mem_append_right _ hx)) h2

/-- A law's end: it has returned true, and of what was there nothing has turned. -/
theorem law_post {H : Type} {enc : TypeId × Value → H} {f : Func} {s : ChangeSpec} {W W' : World} {args : Array Value} {ds gs : List (DataW H)} {before : List MemPlace}
    (hrt : f.resultTypes = #[4]) (hvars : s.vars = []) (hT : ∀ t ∈ f.params.toList, Try.prog.readableRec t = true ∧ t < Try.prog.types.size)
    (hW : DataW.Whole enc Try.prog f.params.toList s.vars false W args.toList ds gs before) (hb : Below W.heap.size W W')
    (hfn : s.fn H (ds ++ gs) = { results := [.lit (.bool true)], args := ds }) : s.post enc Try.prog f false true false false W args (.bool true) W' := by
  have hW' := hW
  have hlt : ∀ x ∈ before, x.block < W.heap.size := fun x hx => by simpa using hW.lt x hx
  obtain ⟨p, q, hA, hV, rfl, _, _⟩ := hW
  rw [hvars] at hV
  obtain ⟨rfl, rfl⟩ := trodVars_none hV
  refine ⟨ds, [], p ++ [], [], p, [], hW', ?_, ?_, ?_, hb.frame _, fun h => by cases h⟩
  · rw [hfn, hrt]
    exact trodAll_cons_mk (shut_bool Try.underlying4 _) trodAll_mk0
  · rw [hfn]
    exact below_trodAll hb hT (fun x hx => hlt x (by simp [hx])) hA
  · rw [hfn, hvars]
    rfl

section
variable {H : Type} {enc : TypeId × Value → H} {P : Program} {w : World} {base : Nat} {spare : Nat → Bool} {held : Bool}
/-- A slice of structs of one-cell fields. -/
theorem open_rows {t e : TypeId} {fs : Array Field} {fuel : Nat} {cs : List Value} {x : DataW H × List MemPlace} (ht : P.underlying t = some (.slice e)) (he : P.underlying e = some (.struct fs))
    (hone : oneCellFields P fs = true) (hC : P.cellsOf e = fs.size) (h : DataW.trod enc P w base spare held fuel t cs = some x) :
    (cs = [.slice none 0 0]) ∨
    ∃ (a : Addr) (len cap : Nat), cs = [.slice (some a) len cap] ∧ len ≤ cap ∧ cap ≤ maxLen ∧
      ∀ i, i < len → ∀ (j : Nat) (f : Field), fs[j]? = some f → ∃ (n : Nat) (v : Value) (y : DataW H × List MemPlace), w.cell? (a.add (i * fs.size + j)) = some v ∧ DataW.trod enc P w base spare held n f.type [v] = some y := by
  rcases open_slice ht h with h0 | ⟨a, len, cap, m, n, D, Pl, hcs, hb, hl, hm, hmm, hx, hi⟩
  · exact .inl h0.1
  · refine .inr ⟨a, len, cap, hcs, hl, hm, fun i him j f hj => ?_⟩
    obtain ⟨cs', hc, ht'⟩ := hi i (by rw [hmm]; split <;> omega)
    rw [hC] at hc
    obtain ⟨ys, n', hn', hy, hlen, hyl, hf⟩ := DataW.trod_struct he ht'
    obtain ⟨_, hcl, hat⟩ := World.cells?_some hc
    obtain ⟨ho, hk⟩ := hone_of hone j f hj
    have hjl : j < fs.size := (Array.getElem?_eq_some_iff.1 hj).1
    have hcell := hat j hjl
    have hv : cs'[j]? = some (cs'[j]'(by omega)) := List.getElem?_eq_getElem (by omega)
    have h1 := hf j f hj
    rw [ho, hk] at h1
    have hone' : (cs'.drop j).take 1 = [cs'[j]'(by omega)] := by
      rw [List.drop_eq_getElem_cons (by omega)]
      rfl
    rw [hone'] at h1
    have hys : ys[j]? = some (ys[j]'(by omega)) := List.getElem?_eq_getElem (by omega)
    refine ⟨n', _, _, ?_, h1.trans hys⟩
    rw [← Go.Deep.add_add, hcell, hv]
end

def cellI (W : World) (p : Addr) : Int := match W.cell? p with | some v => intOf v | none => 0
theorem cellI_of {W : World} {p : Addr} {k : IntKind} {n : Int} (h : W.cell? p = some (.int k n)) : cellI W p = n := by unfold cellI; rw [h]; rfl
theorem sampleCells : Try.prog.cellsOf 69 = 3 := by kernel_rfl
theorem sampleFields : ∃ f0 f1 f2 : Field, Try.prog.underlying 69 = some (.struct #[f0, f1, f2]) ∧ oneCellFields Try.prog #[f0, f1, f2] = true ∧ f0.type = 3 ∧ f1.type = 3 ∧ f2.type = 3 :=
  ⟨_, _, _, Try.underlying69, by kernel_rfl, rfl, rfl, rfl⟩
theorem open_samples {H : Type} {enc : TypeId × Value → H} {W : World} {base fuel : Nat} {spare : Nat → Bool} {held : Bool} {v : Value} {y : DataW H × List MemPlace}
    (h : DataW.trod enc Try.prog W base spare held fuel 58 [v] = some y) : ∃ A len cap g, v = .slice A len cap ∧ len ≤ cap ∧ cap ≤ maxLen ∧ SmAt W g len A ∧ (A = none → len = 0 ∧ cap = 0) := by
  obtain ⟨f0, f1, f2, hu, hone, e0, e1, e2⟩ := sampleFields
  rcases open_rows Try.underlying58 hu hone sampleCells h with h0 | ⟨a, len, cap, h0, hl, hm, hf⟩
  · obtain rfl : v = .slice none 0 0 := by simpa using h0
    exact ⟨none, 0, 0, fun _ => default, rfl, Nat.le_refl _, Nat.zero_le _, by unfold SmAt; intro h; omega, fun _ => ⟨rfl, rfl⟩⟩
  · obtain rfl : v = .slice (some a) len cap := by simpa using h0
    refine ⟨some a, len, cap, fun i => ⟨cellI W (a.add (i * 3)), cellI W (a.add (i * 3 + 1)), cellI W (a.add (i * 3 + 2))⟩, rfl, hl, hm, ?_, fun h => by cases h⟩
    unfold SmAt
    intro hpos
    have key : ∀ i, i < len → ∀ j (f : Field), (#[f0, f1, f2] : Array Field)[j]? = some f → f.type = 3 → W.cell? (a.add (i * 3 + j)) = some (.int .i64 (cellI W (a.add (i * 3 + j)))) := by
      intro i hi j f hj hty
      obtain ⟨n, v, y, hc, ht⟩ := hf i hi j f hj
      rw [hty] at ht
      obtain ⟨z, hz, _, _⟩ := DataW.trod_int Try.underlying3 ht
      simp only [List.cons.injEq, and_true] at hz
      subst hz
      have hc' : W.cell? (a.add (i * 3 + j)) = some (.int .i64 z) := hc
      rw [cellI_of hc']; exact hc'
    obtain ⟨b, o, sp⟩ := a
    have hsp : sp = none := by
      have := key 0 hpos 0 f0 rfl e0
      simpa [Addr.add] using World.cell?_spot this
    subst hsp
    refine ⟨b, o, rfl, fun k hk => ?_⟩
    have k0 := key k hk 0 f0 rfl e0
    have k1 := key k hk 1 f1 rfl e1
    have k2 := key k hk 2 f2 rfl e2
    simp only [Addr.add_lit, Nat.add_zero, ← Nat.add_assoc] at k0 k1 k2 ⊢
    exact ⟨k0, k1, k2⟩
theorem open_i {H : Type} {enc : TypeId × Value → H} {W : World} {base fuel : Nat} {spare : Nat → Bool} {held : Bool} {v : Value} {y : DataW H × List MemPlace}
    (h : DataW.trod enc Try.prog W base spare held fuel 3 [v] = some y) : ∃ n, v = .int .i64 n := by
  obtain ⟨z, hz, _, _⟩ := DataW.trod_int Try.underlying3 h
  simp only [List.cons.injEq, and_true] at hz
  exact ⟨z, hz⟩
theorem serFields : ∃ f0 f1 : Field, Try.prog.underlying 60 = some (.struct #[f0, f1]) ∧ oneCellFields Try.prog #[f0, f1] = true ∧ Try.prog.cellsOf 60 = 2 ∧ f0.type = 3 ∧ f1.type = 58 :=
  ⟨_, _, Try.underlying60, by kernel_rfl, by kernel_rfl, rfl, rfl⟩
set_option maxRecDepth 100000 in
/-- A series that is handed in. -/
theorem open_ser {H : Type} {enc : TypeId × Value → H} {W : World} {r : Reach} {b0 base : Nat} {spare : Nat → Bool} {held : Bool} {v : Value} {d : DataW H} {p : List MemPlace}
    (hv : Value.okWide Try.prog W r b0 60 v) (h : DataW.Trod enc Try.prog W base spare held 60 v d p) : ∃ den A n c g, v = serV den A n c ∧ n ≤ c ∧ c ≤ maxLen ∧ SmAt W g n A ∧ (A = none → n = 0 ∧ c = 0) := by
  obtain ⟨f0, f1, hu, hone, hC, e0, e1⟩ := serFields
  obtain ⟨v0, v1, y0, y1, n, rfl, _, _, t0, t1⟩ := open_agg2 hu hone hC hv h
  rw [e0] at t0; rw [e1] at t1
  obtain ⟨den, rfl⟩ := open_i t0
  obtain ⟨A, len, cap, g, rfl, h1, h2, h3, h4⟩ := open_samples t1
  exact ⟨den, A, len, cap, g, rfl, h1, h2, h3, h4⟩
end Go.Proofs.Ytfbhjgaiejjfaaa
