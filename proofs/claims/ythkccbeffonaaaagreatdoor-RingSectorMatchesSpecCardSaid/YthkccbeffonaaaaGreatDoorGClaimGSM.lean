/-
  RingSectorMatchesSpec holds: for all bytes and numbers the law returns true, and its arguments read as they did. Conditions: the package-level table of sync words holds what the program's text lays (the card ties it).
-/
import Derived.Test.YthkccbeffonaaaaGreatDoorM10
import Derived.Test.YthkccbeffonaaaaGreatDoorM7
import Derived.Test.YthkccbeffonaaaaGreatDoorGFactEnterM
import Derived.Test.YthkccbeffonaaaaGreatDoorGFactLiftsM
import Derived.Test.YthkccbeffonaaaaGreatDoorGFactMakeM
import Derived.Test.YthkccbeffonaaaaGreatDoorGFactMainM
import Derived.Test.YthkccbeffonaaaaGreatDoorGFactPlainM
namespace Go.Proofs.YthkccbeffonaaaaGreatDoor.lawSectR
open Go.ChangeShapes Go.WideShapes Go.ChangeAt Go.RowKit

set_option maxHeartbeats 400000 in
set_option maxRecDepth 100000 in
theorem contract (H : Type) (enc : TypeId × Value → H) (W : World) (base : Nat) (args : Array Value) (ds gs : List (DataW H)) (before : List MemPlace)
    (hval : ∀ (j : Nat) t v, Tryz.f7.params[j]? = some t → args[j]? = some v → Value.okWide Tryz.prog W .any base t v)
    (hW : DataW.Whole enc Tryz.prog Tryz.f7.params.toList Rows.ringSectorMatchesSpecSpec.vars false W args.toList ds gs before) (hL : laidMetH Tryz.prog Rows.ringSectorMatchesSpecRow.laid W) (hwt : (DataW.weightsEach Tryz.prog (Tryz.f7.params.toList ++ (OpenSpec.ofChange Rows.ringSectorMatchesSpecSpec).bare.plain.varTypes Tryz.prog) (ds ++ gs)).all (· ≤ reachBytes) = true) :
    Calls Tryz.prog 7 args W fun e W' => ∃ v, e = .returned v ∧ Rows.ringSectorMatchesSpecSpec.post enc Tryz.prog Tryz.f7 false true false false W args v W' := by
  have hW' := hW
  have hlt : ∀ x ∈ before, x.block < W.heap.size := fun x hx => by simpa using hW.lt x hx
  obtain ⟨p, q, hA0, hV, rfl, hfz, hnd⟩ := hW
  obtain ⟨rfl, rfl⟩ := trodVars_none hV
  have hA : DataW.TrodAll enc Tryz.prog W 0 (fun _ => true) true Tryz.f7.params.toList args.toList ds p := hA0
  rw [Tryz.params7] at hA hval
  obtain ⟨v0, vs0, d0, ds0, p0, q0, hargs, rfl, rfl, h0, r0⟩ := trodAll_cons hA
  obtain ⟨v1, vs1, d1, ds1, p1, q1, rfl, rfl, rfl, h1, r1⟩ := trodAll_cons r0
  obtain ⟨rfl, rfl, rfl⟩ := trodAll_nil r1
  obtain rfl : args = #[v0, v1] := by cases args; simp_all
  obtain ⟨A0, l0, c0, D0, rfl, rfl, hlc0, hcm0, hw0, hc0, hn0⟩ := open_nums Tryz.underlying39 Tryz.underlying5 cellsByte (hval 0 39 v0 rfl rfl) h0
  obtain ⟨n, rfl, rfl, rfl, w1⟩ := open_int Tryz.underlying3 (hval 1 3 v1 rfl rfl) h1
  have hz0 := byte_cap 0 h0 hwt (by kernel_rfl) rfl
  clear hA0 hfz hnd hlt
  refine (sectLaw D0 (bs_of hw0) A0 c0 W (by unfold HeldB; exact hc0) hlc0 (by omega) (by omega) n (tab_of hL)).mono fun e W' ⟨he, x, hx⟩ => ?_
  subst he
  subst hx
  exact ⟨_, rfl, law_post (by kernel_rfl) rfl (of_decide_eq_true (by kernel_rfl)) hW' (below_gx W x) rfl⟩

theorem laid_met (os : Os) : laidMet Tryz.prog Rows.ringSectorMatchesSpecRow.laid ((laidWorld os).forCall (fun _ _ => 0) ⟨#[], #[.slice none 0 0, .int .i64 0], []⟩).memory :=
  laidMet_of_run' 8 (by kernel_rfl) (by kernel_rfl)
theorem reads (os : Os) {H : Type} (enc : TypeId × Value → H) : ∃ places, DataW.whole enc Tryz.prog ((laidWorld os).forCall (fun _ _ => 0) ⟨#[], #[.slice none 0 0, .int .i64 0], []⟩).memory Tryz.f7.params.toList Rows.ringSectorMatchesSpecSpec.vars false (#[.slice none 0 0, .int .i64 0] : Array Value).toList 8 = some ([.nil, .lit (.int .i64 0)], [], places) :=
  ⟨[], by kernel_rfl⟩

set_option maxRecDepth 100000 in
theorem lifted (os : Os) (started : os.Started) (H : Type) (enc : TypeId × Value → H) (F : Stop.Interp) :
    ReturnsInHanded {} Tryz.checked os 7 .any ((OpenSpec.ofChange Rows.ringSectorMatchesSpecSpec).preRow enc Tryz.prog Tryz.f7 Rows.ringSectorMatchesSpecRow.domain false Rows.ringSectorMatchesSpecRow.laid) (((OpenSpec.ofChange Rows.ringSectorMatchesSpecSpec).at F).post enc Tryz.prog Tryz.f7 false true false false) := by
  obtain ⟨places, hx⟩ := reads os enc
  refine returnsInHanded_of_row (C := Tryz.checked) (s := OpenSpec.ofChange Rows.ringSectorMatchesSpecSpec) own started (by kernel_rfl) Tryz.func7
    (witness_row_at (enc := enc) (C := Tryz.checked) false (laidWorld os) #[.slice none 0 0, .int .i64 0] rfl (by kernel_rfl) (by kernel_rfl) (by kernel_rfl)
      (OpenSpec.preRow_of_cond 8 hx (by kernel_rfl) (fun k hk => by cases hk) (by kernel_rfl) (laid_met os))) ?_
  intro W base args ds gs before hval hW _ _ hwt hL _ _
  exact contract H enc W base args ds gs before hval hW hL hwt

theorem cf1 : Tryz.prog.inPlace 7 = Rows.ringSectorMatchesSpecRow.inPlace := by kernel_rfl
theorem cf2 : Tryz.prog.unfollowed 7 = Rows.ringSectorMatchesSpecRow.unfollowed := by kernel_rfl
theorem cf3 : Tryz.prog.recurses 7 = Rows.ringSectorMatchesSpecRow.recurses := by kernel_rfl
theorem cf4 : Tryz.prog.varsNamed 7 = Rows.ringSectorMatchesSpecRow.named := by kernel_rfl
theorem cf5 : false = Rows.ringSectorMatchesSpecRow.goesBy Tryz.prog := by kernel_rfl
theorem closed : joinedFacts Tryz.prog 7 Tryz.f7 (OpenSpec.ofChange Rows.ringSectorMatchesSpecSpec).bare Rows.ringSectorMatchesSpecRow = true := by
  unfold joinedFacts
  rw [factMayEnter, factLifts, factMake, factLaidOut, factMaps, factPlain, factHeard, cf1, cf2, cf3, cf4]
  kernel_rfl

theorem said : Rows.RingSectorMatchesSpecSaid :=
  OpenClaim.holds_of_cond 7 Tryz.f7 rfl rfl rfl rfl rfl rfl rfl ⟨rfl, rfl, rfl, rfl, rfl⟩ rfl rfl rfl rfl rfl (by kernel_rfl) Tryz.func7 closed
    (of_decide_eq_true (by kernel_rfl)) (by unfold Func.isWrapper; rw [if_neg (of_decide_eq_false (by kernel_rfl))]; exact ⟨rfl, rfl⟩)
    (fun os started H enc _ F => by rw [OpenClaim.pre_eq_preRow]; exact lifted os started H enc F)

theorem plain (f : FuncId) (fn : Func) (hf : Tryz.pinned.checked.prog.funcNamed "orangebox/orangeboxlaw3.RingSectorMatchesSpec" = some f) (hfn : Tryz.pinned.checked.prog.funcs[f]? = some fn) :
    false = Tryz.pinned.checked.prog.looks [] ∧ ∀ (j : Nat) t, fn.params[j]? = some t → Tryz.pinned.checked.prog.wantsStandIn t = false := by
  obtain rfl : f = 7 := Option.some.inj ((show Tryz.prog.funcNamed "orangebox/orangeboxlaw3.RingSectorMatchesSpec" = some 7 by kernel_rfl).symm.trans hf) |>.symm
  obtain rfl : fn = Tryz.f7 := (Option.some.inj (Tryz.func7.symm.trans hfn)).symm
  refine ⟨by kernel_rfl, fun j t ht => ?_⟩
  have hall : ∀ t ∈ Tryz.f7.params.toList, Tryz.prog.wantsStandIn t = false := of_decide_eq_true (by kernel_rfl)
  exact hall t (by simpa using Array.mem_of_getElem? ht)

theorem holds : Rows.RingSectorMatchesSpecCardSaid :=
  Claim7.holds_tied_plain_at .later [] _ _ _ _ said (fun _ h => by cases h) (by kernel_rfl) (fun _ h => by cases h) ringSectorMatchesSpec_row_tie rfl ⟨rfl, rfl⟩ factMain rfl plain cf5
end Go.Proofs.YthkccbeffonaaaaGreatDoor.lawSectR
