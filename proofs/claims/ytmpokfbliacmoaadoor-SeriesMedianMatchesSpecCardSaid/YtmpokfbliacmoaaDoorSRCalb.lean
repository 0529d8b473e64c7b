/-
  Calibrate, the reference's: contracts.
-/
import Derived.Test.YtmpokfbliacmoaaDoorSCalb2
import Derived.Test.YtmpokfbliacmoaaDoorSRSer
namespace Go.Proofs.YtmpokfbliacmoaaDoor
open Go.RowKit
-- AT2
-- AT3

theorem At.setc2 {W : World} {K : Nat} {a b u : Value} {t : TypeId} (h : At W K (.cells #[a, b] t (0, 0))) : At (W.setCell ⟨K, 1, none⟩ u) K (.cells #[a, u] t (0, 0)) := by
  unfold At at *
  simp [World.setCell, Array.getElem?_modify, h]
theorem cell_swap (W : World) (o o' : Obj) (x : Ext) (p : Addr) (h : p.block ≠ W.heap.size) : (gx (W.alloc o') x).cell? p = (gx (W.alloc o) x).cell? p := by
  have e : (gx (W.alloc o') x).heap[p.block]? = (gx (W.alloc o) x).heap[p.block]? := by
    show ((W.alloc o').heap ++ x.blocks)[p.block]? = ((W.alloc o).heap ++ x.blocks)[p.block]?
    rcases Nat.lt_or_ge p.block (W.heap.size + 1) with h1 | h1
    · rw [Array.getElem?_append_left (by simp; omega), Array.getElem?_append_left (by simp; omega)]
      simp only [World.alloc, Array.getElem?_push, if_neg h]
    · rw [Array.getElem?_append_right (by simp; omega), Array.getElem?_append_right (by simp; omega)]
      simp
  unfold World.cell?
  rw [e]
theorem smAt_swap {W : World} {d d' : Int} {A : Option Addr} {n : Nat} {t : TypeId} {x : Ext} {f : Nat → Sm} {S : Value} (h : SmAt (gx (W.alloc (.cells #[.int .i64 d, .slice none 0 0] t)) x) f n A) : SmAt (gx (W.alloc (.cells #[.int .i64 d', S] t)) x) f n A := by
  refine SmAt.mk fun h0 => ?_
  unfold SmAt at h
  obtain ⟨b, o, e, hc⟩ := h h0
  have hA : At (gx (W.alloc (.cells #[.int .i64 d, .slice none 0 0] t)) x) W.heap.size (.cells #[.int .i64 d, .slice none 0 0] t (0, 0)) := (At.new W _).gx
  have hb : b ≠ W.heap.size := by
    intro eb
    subst eb
    obtain ⟨c1, c2, _⟩ := hc 0 h0
    rw [cell_of_row _ _ _ _ _ _ hA] at c1 c2
    rcases (by omega : o = 0 ∨ o = 1 ∨ 2 ≤ o) with rfl | rfl | h2
    · simp at c2
    · simp at c1
    · rw [Array.getElem?_eq_none (by simp; omega)] at c1; cases c1
  refine ⟨b, o, e, fun k hk => ?_⟩
  obtain ⟨c1, c2, c3⟩ := hc k hk
  exact ⟨(cell_swap W _ _ x _ hb).trans c1, (cell_swap W _ _ x _ hb).trans c2, (cell_swap W _ _ x _ hb).trans c3⟩
theorem RCalibrate_end {w : World} {o1 o2 : Obj} {t : TypeId} {cden : Int} {f : Nat → Sm} {n c2 : Nat} {A2 : Option Addr} {x : Ext} (h : SmAt (gx (((w.alloc o1).alloc o2).alloc (.cells #[.int .i64 0, .slice none 0 0] t)) x) f n A2) :
    SerPost w cden f n 0 (.returned (.tuple #[serV cden A2 n c2, .int .i64 0])) (gx (((w.alloc o1).alloc o2).alloc (.cells #[.int .i64 cden, .slice A2 n c2] t)) x) := SerPost.mk (by repeat (first | (with_reducible exact Gx.refl _) | (with_reducible assumption) | (with_reducible refine Gx.gx ?_) | (with_reducible refine Gx.alloc ?_) | (with_reducible refine Gx.drew ?_) | (with_reducible refine Gx.drewN ?_) | (with_reducible refine Gx.setRow ?_ (by first | omega | (simp; done) | (simp <;> omega))) | (with_reducible refine Gx.setCell ?_ (by first | omega | (simp; done) | (simp <;> omega))))) (smAt_swap h)
end Go.Proofs.YtmpokfbliacmoaaDoor
