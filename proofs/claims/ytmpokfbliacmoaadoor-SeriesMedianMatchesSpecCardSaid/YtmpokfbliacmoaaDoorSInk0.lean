/-
  strconv.AppendInt at base 10: the shelf's contract at this program.
-/
import Derived.Test.YtmpokfbliacmoaaDoorKit
import Derived.Shelf.Strconv.AppendIntPublic10
namespace Go.Proofs.YtmpokfbliacmoaaDoor
open Go.RowKit
open Go.Shelf Go.Sort
-- AT2
def appIntA_ren : Go.Shelf.Ren := ⟨fun | 176 => 37 | 249 => 53 | 288 => 63 | 283 => 65 | 284 => 66 | 285 => 67 | 286 => 68 | 129 => 52 | 317 => 69 | 318 => 70 | 319 => 71 | 320 => 72 | 337 => 73 | 338 => 74 | n => n, fun | 37 => 44 | 2 => 2 | 3 => 3 | 53 => 82 | 4 => 4 | 9 => 9 | 171 => 95 | 0 => 0 | 173 => 97 | 212 => 101 | 51 => 80 | 5 => 5 | 20 => 20 | 213 => 102 | 46 => 66 | 232 => 103 | 233 => 104 | n => n, fun | 17 => 0 | 18 => 1 | 19 => 2 | n => n⟩
theorem appIntA : Go.Proofs.LaysM.n176 Tryd.prog appIntA_ren := {
  mixed := by kernel_rfl
  f129 := Tryd.func52.trans (congrArg some (by kernel_rfl))
  f176 := Tryd.func37.trans (congrArg some (by kernel_rfl))
  f249 := Tryd.func53.trans (congrArg some (by kernel_rfl))
  f283 := Tryd.func65.trans (congrArg some (by kernel_rfl))
  f284 := Tryd.func66.trans (congrArg some (by kernel_rfl))
  f285 := Tryd.func67.trans (congrArg some (by kernel_rfl))
  f286 := Tryd.func68.trans (congrArg some (by kernel_rfl))
  f288 := Tryd.func63.trans (congrArg some (by kernel_rfl))
  f317 := Tryd.func69.trans (congrArg some (by kernel_rfl))
  f318 := Tryd.func70.trans (congrArg some (by kernel_rfl))
  f319 := Tryd.func71.trans (congrArg some (by kernel_rfl))
  f320 := Tryd.func72.trans (congrArg some (by kernel_rfl))
  f337 := Tryd.func73.trans (congrArg some (by kernel_rfl))
  f338 := Tryd.func74.trans (congrArg some (by kernel_rfl))
  t0 := Tryd.underlying0
  a0 := Tryd.isAgg0
  z0 := Tryd.sizeOf0
  v0 := Tryd.zeroValue0
  t2 := Tryd.underlying2
  a2 := Tryd.isAgg2
  z2 := Tryd.sizeOf2
  v2 := Tryd.zeroValue2
  t3 := Tryd.underlying3
  a3 := Tryd.isAgg3
  z3 := Tryd.sizeOf3
  v3 := Tryd.zeroValue3
  t4 := Tryd.underlying4
  a4 := Tryd.isAgg4
  z4 := Tryd.sizeOf4
  v4 := Tryd.zeroValue4
  t5 := Tryd.underlying5
  a5 := Tryd.isAgg5
  z5 := Tryd.sizeOf5
  v5 := Tryd.zeroValue5
  t9 := Tryd.underlying9
  a9 := Tryd.isAgg9
  z9 := Tryd.sizeOf9
  v9 := Tryd.zeroValue9
  t20 := Tryd.underlying20
  a20 := Tryd.isAgg20
  z20 := Tryd.sizeOf20
  v20 := Tryd.zeroValue20
  t37 := Tryd.underlying44
  a37 := Tryd.isAgg44
  z37 := Tryd.sizeOf44
  v37 := Tryd.zeroValue44
  t46 := Tryd.underlying66
  a46 := Tryd.isAgg66
  z46 := Tryd.sizeOf66
  v46 := Tryd.zeroValue66
  t51 := Tryd.underlying80
  a51 := Tryd.isAgg80
  z51 := Tryd.sizeOf80
  v51 := Tryd.zeroValue80
  t53 := Tryd.underlying82
  a53 := Tryd.isAgg82
  z53 := Tryd.sizeOf82
  v53 := Tryd.zeroValue82
  t171 := Tryd.underlying95
  a171 := Tryd.isAgg95
  z171 := Tryd.sizeOf95
  v171 := Tryd.zeroValue95
  t173 := Tryd.underlying97
  a173 := Tryd.isAgg97
  z173 := Tryd.sizeOf97
  v173 := Tryd.zeroValue97
  t212 := Tryd.underlying101
  a212 := Tryd.isAgg101
  z212 := Tryd.sizeOf101
  v212 := Tryd.zeroValue101
  t213 := Tryd.underlying102
  a213 := Tryd.isAgg102
  z213 := Tryd.sizeOf102
  t232 := Tryd.underlying103
  a232 := Tryd.isAgg103
  z232 := Tryd.sizeOf103
  v232 := Tryd.zeroValue103
  t233 := Tryd.underlying104
  a233 := Tryd.isAgg104
  z233 := Tryd.sizeOf104
  v233 := Tryd.zeroValue104
  g17 := by kernel_rfl
  g18 := by kernel_rfl
  g19 := by kernel_rfl
  i0 := by kernel_rfl
  i2 := by kernel_rfl
  i3 := by kernel_rfl
  i4 := by kernel_rfl
  i5 := by kernel_rfl
  i9 := by kernel_rfl
  i20 := by kernel_rfl
  i37 := by kernel_rfl
  i46 := by kernel_rfl
  i51 := by kernel_rfl
  i53 := by kernel_rfl
  i171 := by kernel_rfl
  i173 := by kernel_rfl
  i212 := by kernel_rfl
  i232 := by kernel_rfl
  i233 := by kernel_rfl
  m17 := by kernel_rfl
  m18 := by kernel_rfl
  m19 := by kernel_rfl }

/-- The table of powers of ten, as the text lays it, in a world and in all that grow out of it. -/
def Pow (w : World) : Prop := Lib.TabIs Tryd.prog w "internal/strconv.uint64pow10" .u64 Lib.pow10Tab
theorem Pow.gx {w : World} {x : Ext} (h : Pow w) : Lib.TabBelow Tryd.prog w.heap.size (Go.Proofs.YtmpokfbliacmoaaDoor.gx w x) "internal/strconv.uint64pow10" .u64 Lib.pow10Tab :=
  (Lib.tabBelow_of_tabIs h).on (below_gx w x)
theorem AppendInt_any (n : Nat) (i : Int) (h0 : -9223372036854775808 ≤ i) (h1 : i ≤ 9223372036854775807) (sv : Value) (xs : List Value) (w : World) (x : Ext) (hown : Own w.heap.size (gx w x) 5 1 sv n xs) (hlim : n + 21 ≤ 140737488355328) (hp : Pow w) :
    Calls Tryd.prog 37 #[sv, .int .i64 i, .int .i64 10] (gx w x) fun e w' => ∃ v', e = .returned v' ∧ Own w.heap.size w' 5 1 v' (n + (Lib.itoa i).length) (xs ++ Lib.byteCells (Lib.itoa i)) ∧ (∃ y, w' = gx w y) ∧ Lib.OthersKept 5 none (gx w x) w' := by
  refine (Go.Proofs.Any.strconv_AppendInt_10 appIntA w.heap.size n i h0 h1 sv xs (gx w x) hown.out (by rw [size_gx]; omega) hlim hp.gx).mono ?_
  rintro e w' ⟨v', he, ho, hb, hk⟩
  exact ⟨v', he, Own.mk' ho, gx_of_below ((below_gx w x).trans hb), hk⟩
end Go.Proofs.YtmpokfbliacmoaaDoor
