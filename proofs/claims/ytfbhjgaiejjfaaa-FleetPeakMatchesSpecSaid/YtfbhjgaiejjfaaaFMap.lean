/-
  A map from texts to truths: how it is asked and written.
-/
import Derived.Test.YtfbhjgaiejjfaaaKit
import Derived.Maps.OwnSet
import Derived.StringKeys
namespace Go.Proofs.Ytfbhjgaiejjfaaa
open Go.RowKit
-- AT2

/-- A map of the call's: f says what it holds. -/
@[irreducible] def KB (w : World) (b n : Nat) (f : ByteArray → Bool) : Prop := ∃ D : DataW Unit, w.ownsMap Try.prog 9 (plainElem Try.prog 4) b n D ∧ Maps.IsMap D ∧ ∀ s : ByteArray, s.size ≤ maxLen → D.atKey (.string s.data.toList) (.lit (.bool false)) = .lit (.bool (f s))
theorem KB.out {w : World} {b n : Nat} {f : ByteArray → Bool} (h : KB w b n f) : ∃ D : DataW Unit, w.ownsMap Try.prog 9 (plainElem Try.prog 4) b n D ∧ Maps.IsMap D ∧ ∀ s : ByteArray, s.size ≤ maxLen → D.atKey (.string s.data.toList) (.lit (.bool false)) = .lit (.bool (f s)) := by unfold KB at h; exact h
theorem KB.lt {w : World} {b n : Nat} {f : ByteArray → Bool} (h : KB w b n f) : b < w.heap.size := by
  obtain ⟨D, h1, -⟩ := h.out; exact h1.lt
theorem KB.gx {w : World} {b n : Nat} {f : ByteArray → Bool} {x : Ext} (h : KB w b n f) : KB (Go.Proofs.Ytfbhjgaiejjfaaa.gx w x) b n f := by
  obtain ⟨D, h1, hm, h2⟩ := h.out
  unfold KB
  exact ⟨D, h1.kept (grown_gx w x) (by have := h1.lt; simp; omega), hm, h2⟩
theorem KB.alloc {w : World} {b n : Nat} {f : ByteArray → Bool} {o : Obj} (h : KB w b n f) : KB (w.alloc o) b n f := by rw [alloc_is]; exact h.gx
theorem KB.of_gx {w W : World} {b n : Nat} {f : ByteArray → Bool} (h : KB w b n f) (hW : ∃ x, W = Go.Proofs.Ytfbhjgaiejjfaaa.gx w x) : KB W b n f := by
  obtain ⟨x, rfl⟩ := hW
  exact h.gx
theorem KB.made (w : World) : KB (w.alloc (.map #[] 0)) w.heap.size 0 fun _ => false := by
  unfold KB
  exact ⟨_, World.ownsMap_made w _ _ _, ⟨_, rfl⟩, fun s _ => rfl⟩
theorem zero_bool (w : World) : (zeroValue 4).run Try.prog w = .ok (.bool false) w := by kernel_rfl
section
variable {ops : Array Oper} {rest : List Oper} {o : Oper} {a : Act} {w : World} {Q : Exit → Act → World → Prop}
theorem look_kb (hg : o.guard = none) (m x : Operand) (hop : o.op = .lookup 88 m x false) (b n : Nat) (f : ByteArray → Bool) (hm : a.eval m = .map (some b)) (hown : KB w b n f) (s : ByteArray) (hx : a.eval x = .string s) (hs : s.size ≤ maxLen)
    (hK : wpList Try.prog ops Q rest (a.put o.dst (.bool (f s))) w) : wpList Try.prog ops Q (o :: rest) a w := by
  refine wpList_plain hg fun K' hK' => ?_
  obtain ⟨D, h1, -, h2⟩ := hown.out
  obtain ⟨v, ps, hrun, hv⟩ := h1.lookup (Maps.string_keyed Try.underlying9) Try.underlying88 (z := .bool false) (zero_bool w) (plainElem_bool Try.underlying4 false) (Go.WideMaps.keyOf_string_mk Try.underlying9 hs)
  rw [h2 s hs] at hv
  have e : v = .bool (f s) := by
    unfold plainElem at hv
    cases v <;> simp_all
  subst e
  unfold Oper.wp
  simp [execOp, hop, hm, hx, hrun, Result.andThen]
  exact hK' _ _ hK
theorem look_kbr (hg : o.guard = none) (m x : Operand) (hop : o.op = .lookup 88 m x false) (b n : Nat) (f : ByteArray → Bool) (hm : a.eval m = .map (some b)) (hown : KB w b n f) (s : ByteArray) (hx : a.eval x = .string s) (hs : s.size ≤ maxLen) (r : Bool) (hr : f s = r)
    (hK : wpList Try.prog ops Q rest (a.put o.dst (.bool r)) w) : wpList Try.prog ops Q (o :: rest) a w := by
  subst hr
  exact look_kb hg m x hop b n f hm hown s hx hs hK
theorem put_kb (hg : o.guard = none) (m x v : Operand) (hop : o.op = .mapUpdate 88 m x v) (b n : Nat) (f : ByteArray → Bool) (hm : a.eval m = .map (some b)) (hown : KB w b n f) (hn : n < maxLen) (s : ByteArray) (hx : a.eval x = .string s) (hs : s.size ≤ maxLen) (u : Bool) (hv : a.eval v = .bool u)
    (hK : ∀ w', KB w' b (n + 1) (fun t => if t = s then u else f t) → w.grownBy w' (some b) → wpList Try.prog ops Q rest (a.put o.dst undef) w') : wpList Try.prog ops Q (o :: rest) a w := by
  obtain ⟨D, h1, hm', h2⟩ := hown.out
  refine wpList_mapUpdate_own w hg m x v _ hop _ _ (Maps.string_keyed Try.underlying9) Try.underlying88 (plainElem Try.prog 4) b n D hm h1 hn _ (.bool u) (.string s.data.toList) hx hv (Go.WideMaps.keyOf_string_mk Try.underlying9 hs) (.lit (.bool u)) [] (plainElem_bool Try.underlying4 u) (fun w' h1' h2' => hK w' ?_ h2')
  unfold KB
  refine ⟨_, h1', h1'.isMap, fun t ht => ?_⟩
  by_cases e : t = s
  · subst e
    dsimp only
    rw [if_pos rfl]
    exact Maps.atKey_put_same hm' (by simp [WideAt.IsKeyLit]) _ _
  · dsimp only
    rw [if_neg e, Maps.atKey_put_other (by intro q; apply e; injection q with q; exact ByteArray.ext (Array.ext' q))]
    exact h2 t ht
end
end Go.Proofs.Ytfbhjgaiejjfaaa
