/-
  Frames: words of many frames; a slice of one frame.
-/
import Derived.Test.YtllahhmonoedmaaDoorRSame
import Derived.Great.BuildSlice
import Derived.Deep.DeepAppendWide
namespace Go.Proofs.YtllahhmonoedmaaDoor
open Go.RowKit
-- AT2

/-- The words of the first k frames of bytes. -/
def frI (M : List Int) : Nat → List Int
  | 0 => []
  | k + 1 => frI M k ++ rdF (M.drop (96 * k))
theorem frI_0 (M : List Int) : frI M 0 = [] := rfl
theorem frI_succ (M : List Int) (k : Nat) : frI M k ++ rdF (M.drop (96 * k)) = frI M (k + 1) := rfl
theorem frI_len (M : List Int) : ∀ k, (frI M k).length = k * 64
  | 0 => rfl
  | k + 1 => by rw [← frI_succ, List.length_append, frI_len M k, rdF_len]; omega
attribute [irreducible] frI
/-- .. as cells. -/
def frC (M : List Int) (k : Nat) : List Value := (frI M k).map (Value.int .u16)
theorem frC_0 (M : List Int) : frC M 0 = [] := by unfold frC; rw [frI_0]; rfl
theorem frC_succ (M : List Int) (k : Nat) : frC M k ++ (rdF (M.drop (96 * k))).map (Value.int .u16) = frC M (k + 1) := by
  unfold frC
  rw [← frI_succ, List.map_append]
theorem frC_len (M : List Int) (k : Nat) : (frC M k).length = k * 64 := by
  unfold frC
  rw [List.length_map, frI_len]
attribute [irreducible] frC
theorem el_frame : Elem 72 32 64 128 := elem_of Tryd.underlying72 (by decide) (z := .agg (fc (List.replicate 64 0))) (by kernel_rfl) (by simp [Value.cells, fc_size])
/-- .. elements that the call has just made: with the wider bound on bytes. -/
theorem append_newW {t e : TypeId} {size bytes : Nat} (hE : Elem t e size bytes) {ops : Array Oper} {rest : List Oper} {o : Oper} {a : Act} {Q : Exit → Act → World → Prop} {W : World} (w : World) (b : Nat) {s x : Operand} {v : Value} {n : Nat} {xs : List Value} {g m : Nat} {news : List Value}
    (ho : o.op = .call { callee := .builtin .append, args := #[s, x], argTypes := #[t, t] }) (hgd : o.guard = none) (hs : a.eval s = v) (hx : a.eval x = .slice (some ⟨g, 0, none⟩) m m)
    (hb : w.heap.size ≤ b) (hown : Own b W e size v n xs) (hW : ∃ x, W = gx w x) (hbW : b ≤ W.heap.size) (hl : news.length = m * size) (hnews : Shows news (some ⟨g, 0, none⟩) W) (h1 : ∀ u ∈ news, u.oneCell' = true) (h63 : n + m ≤ maxLen) (hbytes : ((n + m) + (n + m) / 4 + 192) * bytes ≤ 281474976710656)
    (h : ∀ v' W', (∃ x, W' = gx w x) → Own b W' e size v' (n + m) (xs ++ news) → W.grownBy W' v.ownBlock → wpList Tryd.prog ops Q rest (a.put o.dst v') W') : wpList Tryd.prog ops Q (o :: rest) a W := by
  obtain ⟨ht, hp, i, z, hi, hz, hsize, hby, hzs⟩ := hE
  have own := hown.out
  have gxw : ∀ W' , W.grownBy W' v.ownBlock → ∃ x, W' = gx w x := fun W' hg => gx_of_grown hW hg fun k hk => by have := hown.lt k hk; omega
  refine wpList_append_own_wide W hgd s x t ho b e i z size bytes ht hi hz hsize hby hzs hp v n xs hs own ⟨g, 0, none⟩ m m news hx hl ?_ h1 h63 hbytes hbW fun v' W' h2 h3 _ => h v' W' (gxw W' h3) (Own.mk' h2) h3
  intro j u hu
  unfold Shows at hnews
  obtain ⟨g', o', e1, hc⟩ := hnews (by have := (List.getElem?_eq_some_iff.1 hu).1; omega)
  simp only [Option.some.injEq, Addr.mk.injEq, and_true] at e1
  obtain ⟨rfl, rfl⟩ := e1
  rw [Addr.add_lit]
  exact hc j u hu
/-- A slice of one frame. -/
theorem build_frame {ops : Array Oper} {rest : List Oper} {o : Oper} {a : Act} {w : World} {Q : Exit → Act → World → Prop} (hg : o.guard = none) (x : Operand) (ho : o.op = .buildSlice 72 1 #[(0, x)]) (B : List Int) (hx : a.eval x = .agg (fc B)) (hl : B.length = 64)
    (h : wpList Tryd.prog ops Q rest (a.put o.dst (.slice (some ⟨w.heap.size, 0, none⟩) 1 1)) (w.alloc (.cells (fc B) 32))) : wpList Tryd.prog ops Q (o :: rest) a w := by
  obtain ⟨ht, hp, i, z, hi, hz, hsize, hby, hzs⟩ := el_frame
  refine wpList_buildSlice hg 72 32 1 _ ho (fc B) i z ht hi hz (by rw [hsize]; omega) (by rw [hsize]; omega) ?_ h
  obtain ⟨r, hr, hs, hk⟩ := Great.fill_dense (s := 64) (by decide) [Value.agg (fc B)] 0 ((Array.range (1 * i.size)).map (z.cells[· % z.cells.size]!)) (by intro v hv; obtain rfl := List.mem_singleton.1 hv; simp [Value.cells, fc_size, hl]) (by simp [hsize])
  have e : (#[(0, x)].map fun (i, x) => (i, a.eval x)).toList = ([Value.agg (fc B)].zipIdx 0).map fun x => (x.2, x.1) := by simp [hx]
  rw [e, hsize] at *
  rw [hr]
  refine congrArg some ?_
  apply Array.ext_getElem?
  intro k
  have hk' := hk k
  rw [hk']
  by_cases hlt : k < 64
  · rw [if_pos (by simp; omega), Nat.div_eq_of_lt hlt, Nat.mod_eq_of_lt hlt]
    simp [Value.cells]
  · rw [if_neg (by simp; omega), Array.getElem?_eq_none (by simp; omega), Array.getElem?_eq_none (by rw [fc_size]; omega)]
/-- b[96:] -/
theorem slice96 (g o n c : Nat) (hn : 96 ≤ n) (hc : n ≤ c) : ∃ A, (∀ W, (Instr.slice 61 (.slice (some ⟨g, o, none⟩) n c) (some (.int .i64 96)) none none).run Tryd.prog W = .ok (.slice A (n - 96) (c - 96)) W) ∧ (96 < n → A = some ⟨g, o + 96, none⟩) := by
  by_cases hlt : 96 < c
  · exact ⟨_, fun W => slice_tail g o n c 96 hn hlt W, fun _ => rfl⟩
  · obtain rfl : c = 96 := by omega
    obtain rfl : n = 96 := by omega
    refine ⟨some ⟨g, o, none⟩, fun W => ?_, fun h => absurd h (by omega)⟩
    have ht' : Tryd.prog.underlying 61 = some (.slice (Tryd.prog.elem 61)) := by simp [Program.elem, Tryd.underlying61]
    have he : Tryd.prog.elem 61 = 5 := by simp [Program.elem, Tryd.underlying61]
    rw [run_slice_l W 61 _ _ _ ht' .i64 _ (by omega) (by omega), he, sizeByte]
    simp [Result.andThen, sliced]

end Go.Proofs.YtllahhmonoedmaaDoor
