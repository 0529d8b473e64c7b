/-
  PanelCheckMatchesSpec holds: for all panels the law returns true, and its arguments read as they did. Conditions: the tables of Go's library that the row lists hold what their own texts lay (the card ties them).
-/
import Derived.Test.YtocaphcnnmcnjaaGreatDoorM12
import Derived.Test.YtocaphcnnmcnjaaGreatDoorM11
import Derived.Test.YtocaphcnnmcnjaaGreatDoorPFactEnterM
import Derived.Test.YtocaphcnnmcnjaaGreatDoorPFactLiftsM
import Derived.Test.YtocaphcnnmcnjaaGreatDoorPFactMakeM
import Derived.Test.YtocaphcnnmcnjaaGreatDoorPFactMainM
import Derived.Test.YtocaphcnnmcnjaaGreatDoorPFactPlainM
namespace Go.Proofs.YtocaphcnnmcnjaaGreatDoor.lawCk
open Go.ChangeShapes Go.WideShapes Go.ChangeAt Go.RowKit

set_option maxHeartbeats 400000 in
set_option maxRecDepth 100000 in
theorem contract (H : Type) (enc : TypeId × Value → H) (W : World) (base : Nat) (args : Array Value) (ds gs : List (DataW H)) (before : List MemPlace)
    (hval : ∀ (j : Nat) t v, Tryz.f3.params[j]? = some t → args[j]? = some v → Value.okWide Tryz.prog W .any base t v)
    (hW : DataW.Whole enc Tryz.prog Tryz.f3.params.toList Rows.panelCheckMatchesSpecSpec.vars false W args.toList ds gs before) (_hL : laidMetH Tryz.prog Rows.panelCheckMatchesSpecRow.laid W) :
    Calls Tryz.prog 3 args W fun e W' => ∃ v, e = .returned v ∧ Rows.panelCheckMatchesSpecSpec.post enc Tryz.prog Tryz.f3 false true false false W args v W' := by
  have hW' := hW
  have hlt : ∀ x ∈ before, x.block < W.heap.size := fun x hx => by simpa using hW.lt x hx
  obtain ⟨p, q, hA0, hV, rfl, hfz, hnd⟩ := hW
  obtain ⟨rfl, rfl⟩ := trodVars_none hV
  have hA : DataW.TrodAll enc Tryz.prog W 0 (fun _ => true) true Tryz.f3.params.toList args.toList ds p := hA0
  rw [Tryz.params3] at hA hval
  obtain ⟨v0, vs0, d0, ds0, p0, q0, hargs, rfl, rfl, h0, r0⟩ := trodAll_cons hA
  obtain ⟨rfl, rfl, rfl⟩ := trodAll_nil r0
  obtain rfl : args = #[v0] := by cases args; simp_all
  obtain ⟨A0, n0, c0, J0, rfl, hnc0, hL0, hfit0⟩ := open_panel (hval 0 24 v0 rfl rfl) h0
  clear hA0 hfz hnd hlt
  refine (checkLaw J0 A0 n0 c0 hnc0 hfit0 W hL0).mono fun e W' ⟨he, x, hx⟩ => ?_
  subst he
  subst hx
  exact ⟨_, rfl, law_post (by kernel_rfl) rfl (of_decide_eq_true (by kernel_rfl)) hW' (below_gx W x) rfl⟩

theorem laid_met (os : Os) : laidMet Tryz.prog Rows.panelCheckMatchesSpecRow.laid ((laidWorld os).forCall (fun _ _ => 0) ⟨#[], #[.agg #[.slice none 0 0]], []⟩).memory :=
  laidMet_of_run' 8 (by kernel_rfl) (by kernel_rfl)
theorem reads (os : Os) {H : Type} (enc : TypeId × Value → H) : ∃ places, DataW.whole enc Tryz.prog ((laidWorld os).forCall (fun _ _ => 0) ⟨#[], #[.agg #[.slice none 0 0]], []⟩).memory Tryz.f3.params.toList Rows.panelCheckMatchesSpecSpec.vars false (#[.agg #[.slice none 0 0]] : Array Value).toList 8 = some ([.agg [.nil]], [], places) :=
  ⟨[], by kernel_rfl⟩

set_option maxRecDepth 100000 in
theorem lifted (os : Os) (started : os.Started) (H : Type) (enc : TypeId × Value → H) (F : Stop.Interp) :
    ReturnsInHanded {} Tryz.checked os 3 .any ((OpenSpec.ofChange Rows.panelCheckMatchesSpecSpec).preRow enc Tryz.prog Tryz.f3 Rows.panelCheckMatchesSpecRow.domain false Rows.panelCheckMatchesSpecRow.laid) (((OpenSpec.ofChange Rows.panelCheckMatchesSpecSpec).at F).post enc Tryz.prog Tryz.f3 false true false false) := by
  obtain ⟨places, hx⟩ := reads os enc
  refine returnsInHanded_of_row (C := Tryz.checked) (s := OpenSpec.ofChange Rows.panelCheckMatchesSpecSpec) own started (by kernel_rfl) Tryz.func3
    (witness_row_at (enc := enc) (C := Tryz.checked) false (laidWorld os) #[.agg #[.slice none 0 0]] rfl (by kernel_rfl) (by kernel_rfl) (by kernel_rfl)
      (OpenSpec.preRow_of_cond 8 hx (by kernel_rfl) (fun k hk => by cases hk) (by kernel_rfl) (laid_met os))) ?_
  intro W base args ds gs before hval hW _ _ _ hL _ _
  exact contract H enc W base args ds gs before hval hW hL

theorem cf1 : Tryz.prog.inPlace 3 = Rows.panelCheckMatchesSpecRow.inPlace := by kernel_rfl
theorem cf2 : Tryz.prog.unfollowed 3 = Rows.panelCheckMatchesSpecRow.unfollowed := by kernel_rfl
theorem cf3 : Tryz.prog.recurses 3 = Rows.panelCheckMatchesSpecRow.recurses := by kernel_rfl
theorem cf4 : Tryz.prog.varsNamed 3 = Rows.panelCheckMatchesSpecRow.named := by kernel_rfl
theorem cf5 : false = Rows.panelCheckMatchesSpecRow.goesBy Tryz.prog := by kernel_rfl
theorem closed : joinedFacts Tryz.prog 3 Tryz.f3 (OpenSpec.ofChange Rows.panelCheckMatchesSpecSpec).bare Rows.panelCheckMatchesSpecRow = true := by
  unfold joinedFacts
  rw [factMayEnter, factLifts, factMake, factLaidOut, factMaps, factPlain, factHeard, cf1, cf2, cf3, cf4]
  kernel_rfl

theorem said : Rows.PanelCheckMatchesSpecSaid :=
  OpenClaim.holds_of_cond 3 Tryz.f3 rfl rfl rfl rfl rfl rfl rfl ⟨rfl, rfl, rfl, rfl, rfl⟩ rfl rfl rfl rfl rfl (by kernel_rfl) Tryz.func3 closed
    (of_decide_eq_true (by kernel_rfl)) (by unfold Func.isWrapper; rw [if_neg (of_decide_eq_false (by kernel_rfl))]; exact ⟨rfl, rfl⟩)
    (fun os started H enc _ F => by rw [OpenClaim.pre_eq_preRow]; exact lifted os started H enc F)

theorem plain (f : FuncId) (fn : Func) (hf : Tryz.pinned.checked.prog.funcNamed "orangebox/orangeboxlaw8.PanelCheckMatchesSpec" = some f) (hfn : Tryz.pinned.checked.prog.funcs[f]? = some fn) :
    false = Tryz.pinned.checked.prog.looks [] ∧ ∀ (j : Nat) t, fn.params[j]? = some t → Tryz.pinned.checked.prog.wantsStandIn t = false := by
  obtain rfl : f = 3 := Option.some.inj ((show Tryz.prog.funcNamed "orangebox/orangeboxlaw8.PanelCheckMatchesSpec" = some 3 by kernel_rfl).symm.trans hf) |>.symm
  obtain rfl : fn = Tryz.f3 := (Option.some.inj (Tryz.func3.symm.trans hfn)).symm
  refine ⟨by kernel_rfl, fun j t ht => ?_⟩
  have hall : ∀ t ∈ Tryz.f3.params.toList, Tryz.prog.wantsStandIn t = false := of_decide_eq_true (by kernel_rfl)
  exact hall t (by simpa using Array.mem_of_getElem? ht)

theorem holds : Rows.PanelCheckMatchesSpecCardSaid :=
  Claim7.holds_tied_plain_at .later [] _ _ _ _ said (fun _ h => by cases h) (by kernel_rfl) (fun _ h => by cases h) panelCheckMatchesSpec_row_tie rfl ⟨rfl, rfl⟩ factMain rfl plain cf5
end Go.Proofs.YtocaphcnnmcnjaaGreatDoor.lawCk
