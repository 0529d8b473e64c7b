/-
  How much a slice that is handed in can hold.
-/
import Derived.Test.YtllahhmonoedmaaDoorOpen
import Derived.SizedLaws
namespace Go.Proofs.YtllahhmonoedmaaDoor
open Go.ChangeShapes Go.WideShapes Go.ChangeAt Go.RowKit

theorem bytesByte : Tryd.prog.bytesOf 5 = 1 := by kernel_rfl
set_option maxRecDepth 100000 in
theorem cap_of {H : Type} {enc : TypeId × Value → H} {W : World} {base : Nat} {held : Bool} {A : Option Addr} {len cap : Nat} {d : DataW H} {ps : List MemPlace} {t e : TypeId} {k : IntKind}
    (ht : Tryd.prog.underlying t = some (.slice e)) (he : Tryd.prog.underlying e = some (.int k)) (hc : Tryd.prog.cellsOf e = 1)
    (hd : DataW.Trod enc Tryd.prog W base (fun _ => true) held t (.slice A len cap) d ps) : cap = 0 ∨ ∃ elems spare, d = .slice elems spare ∧ elems.length + spare.length = cap := by
  obtain ⟨fuel, hf⟩ := hd
  rcases open_ints ht he hc hf with ⟨h, _⟩ | ⟨a, l, c, zs, h, _, hl, hm, hz, hx, _, _⟩
  · simp [Value.cells] at h
    exact .inl h.2.2
  · simp [Value.cells] at h
    obtain ⟨rfl, rfl, rfl⟩ := h
    rw [if_pos rfl] at hz
    simp only [Prod.mk.injEq] at hx
    refine .inr ⟨_, _, hx.1, ?_⟩
    simp [lits]
    omega
theorem byte_cap {H : Type} {enc : TypeId × Value → H} {W : World} {base : Nat} {held : Bool} {A : Option Addr} {len cap : Nat} {d : DataW H} {ps : List MemPlace} {ts : List TypeId} {ds : List (DataW H)} (j : Nat)
    (hd : DataW.Trod enc Tryd.prog W base (fun _ => true) held 61 (.slice A len cap) d ps) (hwt : (DataW.weightsEach Tryd.prog ts ds).all (· ≤ reachBytes) = true)
    (hts : ts[j]? = some 61) (hds : ds[j]? = some d) : cap ≤ 140737488351232 := by
  rcases cap_of Tryd.underlying61 Tryd.underlying5 cellsByte hd with h | ⟨es, sp, rfl, h⟩
  · omega
  · have := sized_slice hwt hts hds Tryd.underlying61
    rw [bytesByte] at this
    simp only [reachBytes] at this
    omega
end Go.Proofs.YtllahhmonoedmaaDoor
