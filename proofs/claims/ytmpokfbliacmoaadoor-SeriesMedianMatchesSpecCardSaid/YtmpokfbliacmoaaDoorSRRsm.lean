/-
  Resample, the reference's: contracts.
-/
import Derived.Test.YtmpokfbliacmoaaDoorSRsm2
import Derived.Test.YtmpokfbliacmoaaDoorSRHeld
import Derived.Test.YtmpokfbliacmoaaDoorSRCalb
namespace Go.Proofs.YtmpokfbliacmoaaDoor
open Go.RowKit
-- AT2
-- AT3

/-- What the reference's Resample has at hand in its loop. -/
structure RtSt (w wr : World) (gO k : Nat) (f : Nat → Sm) (den : Int) (A : Option Addr) (c : Nat) (sB rB : Array Value) : Prop where
  grew : ∃ x, wr = gx w x
  ser : At wr w.heap.size (.cells sB 24 (0, 0))
  res : At wr (w.heap.size + 1) (.cells rB 24 (0, 0))
  out : At wr gO (.cells #[.int .i64 den, .slice A k c] 24 (0, 0))
  far : w.heap.size + 1 < gO
  own : Own (w.heap.size + 1 + 1) wr 38 3 (.slice A k c) k (smC f k)
theorem RtSt.gx {w wr : World} {gO k : Nat} {f : Nat → Sm} {den : Int} {A : Option Addr} {c : Nat} {sB rB : Array Value} {x : Ext} (h : RtSt w wr gO k f den A c sB rB) : RtSt w (gx wr x) gO k f den A c sB rB :=
  ⟨Gx.gx h.grew, h.ser.gx, h.res.gx, h.out.gx, h.far, h.own.gx⟩
theorem RtSt.alloc {w wr : World} {gO k : Nat} {f : Nat → Sm} {den : Int} {A : Option Addr} {c : Nat} {sB rB : Array Value} {o : Obj} (h : RtSt w wr gO k f den A c sB rB) : RtSt w (wr.alloc o) gO k f den A c sB rB := by rw [alloc_is]; exact h.gx
/-- A sample was appended, and the slice stored. -/
theorem RtSt.step {w W W2 : World} {gO k : Nat} {f : Nat → Sm} {den : Int} {A A2 : Option Addr} {c c2 : Nat} {sB rB : Array Value} (h : RtSt w W gO k f den A c sB rB) (hW : ∃ x, W2 = Go.Proofs.YtmpokfbliacmoaaDoor.gx w x) (hg : W.grownBy W2 (Value.slice A k c).ownBlock)
    (hO : Own (w.heap.size + 1 + 1) W2 38 3 (.slice A2 (k + 1) c2) (k + 1) (smC f k ++ [.int .i64 (f k).t, .int .i64 (f k).n, .int .i64 (f k).m])) : RtSt w (W2.setCell ⟨gO, 1, none⟩ (.slice A2 (k + 1) c2)) gO (k + 1) f den A2 c2 sB rB := by
  have n0 := own_ne_at h.own h.ser (by decide)
  have n2 := own_ne_at h.own h.res (by decide)
  have n3 := own_ne_at h.own h.out (by decide)
  have a3 := h.out.grown hg n3
  have hf := h.far
  refine ⟨Gx.setCell hW (by omega), (h.ser.grown hg n0).setc_other (by omega), (h.res.grown hg n2).setc_other (by omega), a3.setc2, hf, ?_⟩
  rw [smC_succ]
  exact hO.setc (own_ne_at hO a3 (by decide))
theorem RtSt.fin {w wr : World} {gO k : Nat} {f : Nat → Sm} {den : Int} {A1 : Option Addr} {c1 : Nat} {sB rB : Array Value} {u v : Value} (h : RtSt w wr gO k f den A1 c1 sB rB) :
    SerPost w den f k 0 (.returned (.tuple #[serV den A1 k c1, .int .i64 0])) ((wr.setCell ⟨w.heap.size + 1, 0, none⟩ u).setCell ⟨w.heap.size + 1, 1, none⟩ v) := by
  have n2 := own_ne_at h.own h.res (by decide)
  exact SerPost.mk (Gx.setCell (Gx.setCell h.grew (by omega)) (by omega)) ((h.own.setc n2).setc n2).sm
end Go.Proofs.YtmpokfbliacmoaaDoor
