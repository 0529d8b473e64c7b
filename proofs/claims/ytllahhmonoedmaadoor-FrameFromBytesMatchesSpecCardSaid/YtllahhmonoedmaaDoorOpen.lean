/-
  A slice of numbers that is handed in.
-/
import Derived.Test.YtllahhmonoedmaaDoorLift
namespace Go.Proofs.YtllahhmonoedmaaDoor
open Go.ChangeShapes Go.WideShapes Go.ChangeAt Go.RowKit

theorem cellsInt : Tryd.prog.cellsOf 3 = 1 := by kernel_rfl
theorem cellsByte : Tryd.prog.cellsOf 5 = 1 := by kernel_rfl
set_option maxRecDepth 100000 in
theorem open_nums {H : Type} {enc : TypeId × Value → H} {W W0 : World} {r : Reach} {b0 base : Nat} {held : Bool} {v : Value} {d : DataW H} {ps : List MemPlace} {t e : TypeId} {k : IntKind}
    (ht : Tryd.prog.underlying t = some (.slice e)) (he : Tryd.prog.underlying e = some (.int k)) (hc : Tryd.prog.cellsOf e = 1)
    (hval : Value.okWide Tryd.prog W0 r b0 t v) (hd : DataW.Trod enc Tryd.prog W base (fun _ => true) held t v d ps) :
    ∃ (A : Option Addr) (len cap : Nat) (D : List Int), v = .slice A len cap ∧ D.length = len ∧ len ≤ cap ∧ cap ≤ maxLen ∧ (∀ n ∈ D, (Lit.int k n).wf = true) ∧
      (0 < len → ∃ b o, A = some ⟨b, o, none⟩ ∧ ∀ j, j < len → W.cell? ⟨b, o + j, none⟩ = some (.int k (gw D j))) ∧ (A = none → cap = 0) := by
  obtain ⟨A, len, cap, rfl⟩ := okWide_slice ht hval
  obtain ⟨fuel, hf⟩ := hd
  rcases open_ints ht he hc hf with ⟨h, _⟩ | ⟨a, l, c, zs, h, _, hl, hm, hz, _, hcell, hwf⟩
  · simp [Value.cells] at h
    obtain ⟨rfl, rfl, rfl⟩ := h
    exact ⟨none, 0, 0, [], rfl, rfl, Nat.le_refl _, Nat.zero_le _, (fun n hn => by cases hn), (fun h => by omega), fun _ => rfl⟩
  · simp [Value.cells] at h
    obtain ⟨rfl, rfl, rfl⟩ := h
    rw [if_pos rfl] at hz
    refine ⟨some a, len, cap, zs.take len, rfl, by rw [List.length_take]; omega, hl, hm, fun n hn => hwf n (List.mem_of_mem_take hn), fun h0 => ?_, fun h => by cases h⟩
    obtain ⟨b, o, rfl, hcc⟩ := ints_at hcell (by omega)
    refine ⟨b, o, rfl, fun j hj => ?_⟩
    rw [hcc j (by omega)]
    unfold gw
    simp [List.getD, List.getElem?_take_of_lt hj]
end Go.Proofs.YtllahhmonoedmaaDoor
