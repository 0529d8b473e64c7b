/-
  Resample, the program's: contracts.
-/
import Derived.Test.YtmpokfbliacmoaaDoorSCalb2
namespace Go.Proofs.YtmpokfbliacmoaaDoor
open Go.RowKit
-- AT2
-- AT3

/-- What is wrong with a series and times that are a step apart. -/
def rsE (den : Int) (g : Nat → Sm) (n : Nat) (fr st ct lg : Int) : Int :=
  if holdE den g n fr lg ≠ 0 then holdE den g n fr lg else if ¬ ((1 ≤ st ∧ st ≤ 1099511627776) ∧ (0 ≤ ct ∧ ct ≤ 20000)) then 9 else if 0 < ct ∧ 1099511627776 < fr + (ct - 1) * st then 9 else 0
/-- What is told at the times. -/
def rsF (g : Nat → Sm) (n : Nat) (fr st lg : Int) (k : Nat) : Sm := ⟨fr + (k : Int) * st, (heldV g (aheadN g (fr + (k : Int) * st + 1) n) (fr + (k : Int) * st) lg).n, (heldV g (aheadN g (fr + (k : Int) * st + 1) n) (fr + (k : Int) * st) lg).m⟩
theorem at_ok {fr st : Int} {cn k : Nat} (hs1 : 1 ≤ st) (hf1 : 0 ≤ fr) (_hf2 : fr ≤ 1099511627776) (hsum : 0 < cn → fr + ((cn : Int) - 1) * st ≤ 1099511627776) (hk : k < cn) :
    IntKind.i64.wrap ((k : Int) * st) = (k : Int) * st ∧ IntKind.i64.wrap (fr + (k : Int) * st) = fr + (k : Int) * st ∧ 0 ≤ fr + (k : Int) * st ∧ fr + (k : Int) * st ≤ 1099511627776 := by
  have h1 := hsum (by omega)
  have h2 : (k : Int) * st ≤ ((cn : Int) - 1) * st := Int.mul_le_mul_of_nonneg_right (by omega) (by omega)
  have h3 : 0 ≤ (k : Int) * st := Int.mul_nonneg (by omega) (by omega)
  generalize (k : Int) * st = q at *
  generalize ((cn : Int) - 1) * st = p at *
  exact ⟨IntWalk.i64_in _ (by omega), IntWalk.i64_in _ (by omega), by omega, by omega⟩
/-- What Resample has at hand in its loop. -/
structure RsSt (w wr : World) (gM g8 : Nat) (n k : Nat) (f : Nat → Sm) (sB rB tB : Array Value) : Prop where
  grew : ∃ x, wr = gx w x
  made : MadeAt wr gM n k f
  ser : At wr w.heap.size (.cells sB 24 (0, 0))
  res : At wr (w.heap.size + 1) (.cells rB 24 (0, 0))
  told : At wr g8 (.cells tB 24 (0, 0))
  far : w.heap.size + 1 < gM ∧ w.heap.size + 1 < g8 ∧ gM ≠ g8
theorem RsSt.step {w wr : World} {gM g8 n k : Nat} {f : Nat → Sm} {sB rB tB : Array Value} (h : RsSt w wr gM g8 n k f sB rB tB) (hk : k < n) {o : Obj} {x : Ext} {t' n' m' : Int} (ht : (f k).t = t') (hn : (f k).n = n') (hm : (f k).m = m') :
    RsSt w ((gx (((wr.setCell ⟨gM, k * 3, none⟩ (.int .i64 t')).setCell ⟨gM, k * 3 + 1, none⟩ (.int .i64 n')).setCell ⟨gM, k * 3 + 2, none⟩ (.int .i64 m')) x).alloc o) gM g8 n (k + 1) f sB rB tB := by
  obtain ⟨f1, f2, f3⟩ := h.far
  refine ⟨?_, (h.made.put hk ht hn hm).gx.alloc, ?_, ?_, ?_, h.far⟩
  · exact Gx.alloc (Gx.gx (Gx.setCell (Gx.setCell (Gx.setCell h.grew (by omega)) (by omega)) (by omega)))
  · exact (At.setc_other (At.setc_other (At.setc_other h.ser (by omega)) (by omega)) (by omega)).gx.alloc
  · exact (At.setc_other (At.setc_other (At.setc_other h.res (by omega)) (by omega)) (by omega)).gx.alloc
  · exact (At.setc_other (At.setc_other (At.setc_other h.told f3) f3) f3).gx.alloc
end Go.Proofs.YtmpokfbliacmoaaDoor
