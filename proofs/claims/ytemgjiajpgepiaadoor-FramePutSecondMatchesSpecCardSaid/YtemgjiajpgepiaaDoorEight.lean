/-
  Eight frames that are handed in: what is known of them.
-/
import Derived.Test.YtemgjiajpgepiaaDoorSized
import Derived.Test.YtemgjiajpgepiaaDoorSecond
namespace Go.Proofs.YtemgjiajpgepiaaDoor
open Go.RowKit
-- AT2

theorem underEight : Tryd.prog.underlying 76 = some (.array 8 32) := Tryd.underlying76
theorem cellsEight : Tryd.prog.cellsOf 76 = 512 := by kernel_rfl
set_option maxRecDepth 100000 in
/-- Eight frames that are handed in: 512 numbers of 16 bits. -/
theorem open_eight {H : Type} {enc : TypeId × Value → H} {W W0 : World} {r : Reach} {b0 base : Nat} {spare : Nat → Bool} {held : Bool} {v : Value} {d : DataW H} {ps : List MemPlace}
    (hval : Value.okWide Tryd.prog W0 r b0 76 v) (hd : DataW.Trod enc Tryd.prog W base spare held 76 v d ps) : ∃ L, v = .agg (fc L) ∧ Ss L := by
  simp only [Value.okWide, underEight] at hval
  obtain ⟨cs, rfl, hs, _⟩ := hval
  rw [cellsEight] at hs
  obtain ⟨fuel, hf⟩ := hd
  obtain ⟨xs, m, _, _, _, hx, he⟩ := DataW.trod_array underEight hf
  have each : ∀ k, k < 512 → ∃ n, cs.toList[k]? = some (.int .u16 n) ∧ (Lit.int .u16 n).wf = true := by
    intro k hk
    have h := he (k / 64) (by omega)
    rw [cellsFrame, List.getElem?_eq_getElem (by omega)] at h
    obtain ⟨ys, m2, _, _, _, hy, he2⟩ := DataW.trod_array underFrame h
    have h2 := he2 (k % 64) (by omega)
    rw [cells16, Nat.mul_one, List.getElem?_eq_getElem (by omega)] at h2
    obtain ⟨n, h1, _, h3⟩ := DataW.trod_int Tryd.underlying30 h2
    refine ⟨n, ?_, h3⟩
    have h4 := congrArg (fun l : List Value => l[0]?) h1
    simp only [List.getElem?_cons_zero] at h4
    rw [List.getElem?_take_of_lt (by omega), List.getElem?_drop, List.getElem?_take_of_lt (by omega), List.getElem?_drop] at h4
    rw [show k / 64 * 64 + (k % 64 + 0) = k by omega] at h4
    simpa [Value.cells] using h4
  let L : List Int := cs.toList.map intOf
  have hL : ∀ k, k < 512 → cs.toList[k]? = some (.int .u16 (gw L k)) ∧ (Lit.int .u16 (gw L k)).wf = true := by
    intro k hk
    obtain ⟨n, h1, h2⟩ := each k hk
    have : gw L k = n := by unfold gw; simp [L, List.getD, h1, intOf]
    rw [this]; exact ⟨h1, h2⟩
  have hl : L.length = 512 := by simp [L, hs]
  refine ⟨L, ?_, hl, fun k => ?_⟩
  · congr 1
    apply Array.ext_getElem?
    intro k
    rcases Nat.lt_or_ge k 512 with hk | hk
    · rw [fc_get L k (by omega), ← (hL k hk).1]; simp
    · rw [Array.getElem?_eq_none (by omega), Array.getElem?_eq_none (by rw [fc_size]; omega)]
  · rcases Nat.lt_or_ge k 512 with hk | hk
    · exact bounds_u16 (hL k hk).2
    · have : gw L k = 0 := by unfold gw; simp [List.getD, List.getElem?_eq_none (show L.length ≤ k by omega)]
      rw [this]; decide

/-- Eight frames of zeros, for the witnesses; what they read as. -/
def zfr8 : Value := .agg (List.replicate 512 (Value.int .u16 0)).toArray
def zrd8 {H : Type} : DataW H := .agg (List.replicate 8 zrd)
end Go.Proofs.YtemgjiajpgepiaaDoor
