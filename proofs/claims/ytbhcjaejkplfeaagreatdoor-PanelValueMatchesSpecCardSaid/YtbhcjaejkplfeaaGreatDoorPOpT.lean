/-
  A track that is handed in.
-/
import Derived.Test.YtbhcjaejkplfeaaGreatDoorPLift
import Derived.Test.YtbhcjaejkplfeaaGreatDoorPTr
import Derived.ChangeMaps5
namespace Go.Proofs.YtbhcjaejkplfeaaGreatDoor
open Go.ChangeShapes Go.WideShapes Go.ChangeAt Go.RowKit Go.Deep Go.Joins

theorem trackFields : ∃ f0 f1 f2 : Field, Tryz.prog.underlying 43 = some (.struct #[f0, f1, f2]) ∧ Tryz.prog.cellsOf 43 = 4 ∧ f0.type = 9 ∧ f1.type = 41 ∧ f2.type = 3 ∧ f0.offset = 0 ∧ f1.offset = 1 ∧ f2.offset = 3 :=
  ⟨_, _, _, Tryz.underlying43, by kernel_rfl, rfl, rfl, rfl, rfl, rfl, rfl⟩
theorem strCells : Tryz.prog.cellsOf 9 = 1 := by kernel_rfl
theorem serCells : Tryz.prog.cellsOf 41 = 2 := by kernel_rfl
theorem intCells1 : Tryz.prog.cellsOf 3 = 1 := by kernel_rfl
theorem serFields2 : ∃ f0 f1 : Field, Tryz.prog.underlying 41 = some (.struct #[f0, f1]) ∧ f0.type = 3 ∧ f1.type = 39 ∧ f0.offset = 0 ∧ f1.offset = 1 ∧ Tryz.prog.cellsOf 39 = 1 :=
  ⟨_, _, Tryz.underlying41, rfl, rfl, rfl, rfl, by kernel_rfl⟩
set_option maxRecDepth 100000 in
/-- A track that is handed in. -/
theorem open_track {H : Type} {enc : TypeId × Value → H} {W : World} {r : Reach} {b0 base : Nat} {spare : Nat → Bool} {held : Bool} {v : Value} {d : DataW H} {p : List MemPlace}
    (hv : Value.okWide Tryz.prog W r b0 43 v) (h : DataW.Trod enc Tryz.prog W base spare held 43 v d p) : ∃ s den A n c lg g, v = trV s den A n c lg ∧ s.size ≤ maxLen ∧ n ≤ c ∧ c ≤ maxLen ∧ SmAt W g n A ∧ (A = none → n = 0 ∧ c = 0) := by
  obtain ⟨f0, f1, f2, hu, hC, t0, t1, t2, o0, o1, o2⟩ := trackFields
  obtain ⟨cs, rfl, hsz⟩ := okWide_struct hu hv
  obtain ⟨c0, c1, c2, c3, rfl⟩ := array4 (hsz.trans hC)
  obtain ⟨fuel, hf⟩ := h
  obtain ⟨y0, y1, y2, m, _, _, h0, h1, h2⟩ := trod_struct3 hu hf
  rw [t0, o0, strCells] at h0
  rw [t1, o1, serCells] at h1
  rw [t2, o2, intCells1] at h2
  simp only [Value.cells, List.drop_zero, List.drop_succ_cons, List.take_succ_cons, List.take_zero] at h0 h1 h2
  obtain ⟨s, hs, _, hl⟩ := DataW.trod_string Tryz.underlying9 h0
  obtain ⟨g0, g1, hu2, e0, e1, p0, p1, hc1⟩ := serFields2
  obtain ⟨z0, z1, m2, _, _, k0, k1⟩ := trod_struct2 hu2 h1
  rw [e0, p0, intCells1] at k0
  rw [e1, p1, hc1] at k1
  simp only [List.drop_zero, List.drop_succ_cons, List.take_succ_cons, List.take_zero] at k0 k1
  obtain ⟨den, rfl⟩ := open_i k0
  obtain ⟨lg, rfl⟩ := open_i h2
  obtain ⟨A, len, cap, g, rfl, h1', h2', h3', h4'⟩ := open_samples k1
  simp only [List.cons.injEq, and_true] at hs
  subst hs
  exact ⟨s, den, A, len, cap, lg, g, rfl, hl, h1', h2', h3', h4'⟩
end Go.Proofs.YtbhcjaejkplfeaaGreatDoor
