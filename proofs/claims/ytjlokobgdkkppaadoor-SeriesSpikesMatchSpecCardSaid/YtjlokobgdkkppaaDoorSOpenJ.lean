/-
  Ints that are handed in.
-/
import Derived.Test.YtjlokobgdkkppaaDoorSIAt
import Derived.Test.YtjlokobgdkkppaaDoorSLift
namespace Go.Proofs.YtjlokobgdkkppaaDoor
open Go.ChangeShapes Go.WideShapes Go.ChangeAt Go.RowKit Go.Deep Go.Joins

set_option maxRecDepth 100000 in
theorem open_is {H : Type} {enc : TypeId × Value → H} {W : World} {r : Reach} {b0 base : Nat} {held : Bool} {v : Value} {d : DataW H} {ps : List MemPlace}
    (hval : Value.okWide Tryd.prog W r b0 46 v) (hd : DataW.Trod enc Tryd.prog W base (fun _ => true) held 46 v d ps) :
    ∃ (B : Option Addr) (m c : Nat) (z : Nat → Int), v = .slice B m c ∧ m ≤ 9223372036854775807 ∧ IAt W z m B := by
  obtain ⟨A, len, cap, rfl⟩ := okWide_slice Tryd.underlying46 hval
  obtain ⟨fuel, hf⟩ := hd
  rcases open_ints Tryd.underlying46 Tryd.underlying3 (by kernel_rfl) hf with ⟨h, _⟩ | ⟨a, l, c, zs, h, _, hl, hm, hz, _, hcell, hwf⟩
  · simp [Value.cells] at h
    obtain ⟨rfl, rfl, rfl⟩ := h
    exact ⟨none, 0, 0, fun _ => 0, rfl, Nat.zero_le _, by unfold IAt; intro h; omega⟩
  · simp [Value.cells] at h
    obtain ⟨rfl, rfl, rfl⟩ := h
    rw [if_pos rfl] at hz
    simp only [maxLen] at hm
    refine ⟨some a, len, cap, fun j => zs.getD j 0, rfl, by omega, ?_⟩
    unfold IAt
    intro h0
    obtain ⟨b, o, rfl, hcc⟩ := ints_at hcell (by omega)
    exact ⟨b, o, rfl, fun j hj => hcc j (by omega)⟩
end Go.Proofs.YtjlokobgdkkppaaDoor
