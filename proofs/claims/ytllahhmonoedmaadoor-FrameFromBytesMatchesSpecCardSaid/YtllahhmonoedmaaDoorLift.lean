/-
  What every law's lifting needs: the table of sync words, and a world that holds it.
-/
import Derived.Test.YtllahhmonoedmaaDoorFramed
import Derived.Test.YtllahhmonoedmaaDoorCards
import Derived.Test.YtllahhmonoedmaaDoorTie
import Derived.ProofKit
import Derived.OpenShut
import Derived.Deep.DeepHandedRow
import Derived.Lib.LaidTab
namespace Go.Proofs.YtllahhmonoedmaaDoor
open Go.ChangeShapes Go.WideShapes Go.ChangeAt Go.RowKit

theorem own : ownKnob Tryd.prog.godebug = none := by kernel_rfl
theorem gTab : Tryd.prog.globalNamed "orangebox/frame.syncs" = some 0 := by kernel_rfl
theorem gTabType : (Tryd.prog.globals[0]?).map (·.type) = some 125 := by kernel_rfl
theorem cellsTab : Tryd.prog.cellsOf 125 = 4 := by kernel_rfl
theorem cells16 : Tryd.prog.cellsOf 30 = 1 := by kernel_rfl

/-- What the rows list: the table's cells hold the four sync words. -/
theorem tab_of {W : World} (h : laidMetH Tryd.prog [("orangebox/frame.syncs", Rows.laid_orangebox_frame_syncs)] W) : Tab W := by
  have t : Lib.TabIs Tryd.prog W "orangebox/frame.syncs" .u16 [583, 1464, 2631, 3512] :=
    Lib.tabIs_of_head (rest := []) gTab gTabType Tryd.underlying125 Tryd.underlying30 cells16 cellsTab h
  have c0 : W.cell? ⟨0, 0, none⟩ = some (.int .u16 583) := t.cell gTab 0 (by decide)
  have c1 : W.cell? ⟨0, 1, none⟩ = some (.int .u16 1464) := t.cell gTab 1 (by decide)
  have c2 : W.cell? ⟨0, 2, none⟩ = some (.int .u16 2631) := t.cell gTab 2 (by decide)
  have c3 : W.cell? ⟨0, 3, none⟩ = some (.int .u16 3512) := t.cell gTab 3 (by decide)
  refine ⟨World.block_lt_of_cell? W _ c0, fun k hk => ?_⟩
  have : k = 0 ∨ k = 1 ∨ k = 2 ∨ k = 3 := by omega
  rcases this with rfl | rfl | rfl | rfl
  · exact c0
  · exact c1
  · exact c2
  · exact c3

/-- A world for the witness: the settled one, the table holding what its initialiser lays. -/
noncomputable def laidWorld (os : Os) : World :=
  { World.holding Tryd.prog os ⟨#[], #[], []⟩ with heap := (World.holding Tryd.prog os ⟨#[], #[], []⟩).heap.modify 0 fun
      | .cells _ t frozen => .cells #[.int .u16 583, .int .u16 1464, .int .u16 2631, .int .u16 3512] t frozen
      | o => o }
theorem laidOut : laidOutB Tryd.prog = true := by kernel_rfl

theorem below_trodAll {H : Type} {enc : TypeId × Value → H} {W W' : World} (hb : Below W.heap.size W W') :
    ∀ {ts : List TypeId} {vs : List Value} {ds : List (DataW H)} {ps : List MemPlace}, (∀ t ∈ ts, Tryd.prog.readableRec t = true ∧ t < Tryd.prog.types.size) → (∀ x ∈ ps, x.block < W.heap.size) →
      DataW.TrodAll enc Tryd.prog W 0 (fun _ => true) true ts vs ds ps → DataW.TrodAll enc Tryd.prog W' 0 (fun b => decide (b < W.heap.size)) true ts vs ds ps
  | [], [], [], _, _, _, h => h
  | [], [], _ :: _, _, _, _, h => h.elim
  | [], _ :: _, _, _, _, _, h => h.elim
  | _ :: _, [], _, _, _, _, h => h.elim
  | _ :: _, _ :: _, [], _, _, _, h => h.elim
  | t :: ts, v :: vs, d :: ds, ps, hT, hlt, ⟨p, q, h1, h2, e⟩ => by
    have ht := hT t (by simp)
    refine ⟨p, q, Below.trod laidOut ht.1 ht.2 h1 hb (fun x hx => hlt x (by rw [e]; exact List.mem_append_left _ hx)), ?_, e⟩
    exact below_trodAll hb (fun u hu => hT u (by simp [hu])) (fun x hx => hlt x (by rw [e]; exact List.mem_append_right _ hx)) h2

/-- A law's end: it has returned true, and of what was there nothing has turned. -/
theorem law_post {H : Type} {enc : TypeId × Value → H} {f : Func} {s : ChangeSpec} {W W' : World} {args : Array Value} {ds gs : List (DataW H)} {before : List MemPlace}
    (hrt : f.resultTypes = #[4]) (hvars : s.vars = []) (hT : ∀ t ∈ f.params.toList, Tryd.prog.readableRec t = true ∧ t < Tryd.prog.types.size)
    (hW : DataW.Whole enc Tryd.prog f.params.toList s.vars false W args.toList ds gs before) (hb : Below W.heap.size W W')
    (hfn : s.fn H (ds ++ gs) = { results := [.lit (.bool true)], args := ds }) : s.post enc Tryd.prog f false true false false W args (.bool true) W' := by
  have hW' := hW
  have hlt : ∀ x ∈ before, x.block < W.heap.size := fun x hx => by simpa using hW.lt x hx
  obtain ⟨p, q, hA, hV, rfl, _, _⟩ := hW
  rw [hvars] at hV
  obtain ⟨rfl, rfl⟩ := trodVars_none hV
  refine ⟨ds, [], p ++ [], [], p, [], hW', ?_, ?_, ?_, hb.frame _, fun h => by cases h⟩
  · rw [hfn, hrt]
    exact trodAll_cons_mk (shut_bool Tryd.underlying4 _) trodAll_mk0
  · rw [hfn]
    exact below_trodAll hb hT (fun x hx => hlt x (by simp [hx])) hA
  · rw [hfn, hvars]
    rfl

theorem underFrame : Tryd.prog.underlying 32 = some (.array 64 30) := Tryd.underlying32
theorem cellsFrame : Tryd.prog.cellsOf 32 = 64 := by kernel_rfl
set_option maxRecDepth 100000 in
/-- A frame that is handed in: 64 numbers of 16 bits. -/
theorem open_frame {H : Type} {enc : TypeId × Value → H} {W W0 : World} {r : Reach} {b0 base : Nat} {spare : Nat → Bool} {held : Bool} {v : Value} {d : DataW H} {ps : List MemPlace}
    (hval : Value.okWide Tryd.prog W0 r b0 32 v) (hd : DataW.Trod enc Tryd.prog W base spare held 32 v d ps) : ∃ F, v = .agg (fc F) ∧ Fr F := by
  simp only [Value.okWide, underFrame] at hval
  obtain ⟨cs, rfl, hs, _⟩ := hval
  rw [cellsFrame] at hs
  obtain ⟨fuel, hf⟩ := hd
  obtain ⟨xs, m, _, _, _, hx, he⟩ := DataW.trod_array underFrame hf
  have each : ∀ i, i < 64 → ∃ n, cs.toList[i]? = some (.int .u16 n) ∧ (Lit.int .u16 n).wf = true := by
    intro i hi
    have h := he i hi
    rw [cells16, Nat.mul_one, List.getElem?_eq_getElem (by omega)] at h
    obtain ⟨n, h1, _, h3⟩ := DataW.trod_int Tryd.underlying30 h
    refine ⟨n, ?_, h3⟩
    have : ((((Value.agg cs).cells).toList.drop i).take 1)[0]? = some (.int .u16 n) := by rw [h1]; rfl
    rw [List.getElem?_take_of_lt (by omega), List.getElem?_drop] at this
    simpa [Value.cells] using this
  let F : List Int := cs.toList.map intOf
  have hF : ∀ k, k < 64 → cs.toList[k]? = some (.int .u16 (gw F k)) ∧ (Lit.int .u16 (gw F k)).wf = true := by
    intro k hk
    obtain ⟨n, h1, h2⟩ := each k hk
    have : gw F k = n := by unfold gw; simp [F, List.getD, h1, intOf]
    rw [this]; exact ⟨h1, h2⟩
  have hl : F.length = 64 := by simp [F, hs]
  refine ⟨F, ?_, hl, fun k => ?_⟩
  · congr 1
    apply Array.ext_getElem?
    intro k
    rcases Nat.lt_or_ge k 64 with hk | hk
    · rw [fc_get F k (by omega), ← (hF k hk).1]; simp
    · rw [Array.getElem?_eq_none (by omega), Array.getElem?_eq_none (by rw [fc_size]; omega)]
  · rcases Nat.lt_or_ge k 64 with hk | hk
    · exact bounds_u16 (hF k hk).2
    · have : gw F k = 0 := by unfold gw; simp [List.getD, List.getElem?_eq_none (show F.length ≤ k by omega)]
      rw [this]; decide

/-- A frame of zeros, for the witnesses; what it reads as. -/
def zfr : Value := .agg (List.replicate 64 (Value.int .u16 0)).toArray
def zrd {H : Type} : DataW H := .agg (List.replicate 64 (.lit (.int .u16 0)))
end Go.Proofs.YtllahhmonoedmaaDoor
