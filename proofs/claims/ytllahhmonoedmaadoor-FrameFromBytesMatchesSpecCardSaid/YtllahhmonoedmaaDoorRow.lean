/-
  Slices of the call's own memory, of elements of any type: what is appended to them, and what they hold where they are read.
-/
import Derived.Test.YtllahhmonoedmaaDoorToBytes
import Derived.Laws.OwnMore
namespace Go.Proofs.YtllahhmonoedmaaDoor
open Go.RowKit
-- AT2

/-- A slice of the call's own memory (blocks from b on), with n elements of the type e, whose cells are xs. -/
@[irreducible] def Own (b : Nat) (W : World) (e : TypeId) (size : Nat) (v : Value) (n : Nat) (xs : List Value) : Prop := W.ownsRow b e size v n xs

section
variable {b : Nat} {W : World} {e : TypeId} {size : Nat} {v : Value} {n : Nat} {xs : List Value}
theorem Own.out (h : Own b W e size v n xs) : W.ownsRow b e size v n xs := by unfold Own at h; exact h
theorem Own.mk' (h : W.ownsRow b e size v n xs) : Own b W e size v n xs := by unfold Own; exact h
theorem Own.len (h : Own b W e size v n xs) : xs.length = n * size := h.out.1
theorem Own.nil (b : Nat) (W : World) (e : TypeId) (size : Nat) : Own b W e size (.slice none 0 0) 0 [] := Own.mk' (World.ownsRow_nil W b e size)
theorem Own.kept {W' : World} {row : Option Nat} (h : Own b W e size v n xs) (hg : W.grownBy W' row) (hne : v.ownBlock = none ∨ v.ownBlock ≠ row) : Own b W' e size v n xs := Own.mk' (h.out.kept hg hne)
theorem grown_gx (W : World) (x : Ext) : W.grownBy (gx W x) (some W.heap.size) := ⟨rfl, rfl, rfl, by rw [size_gx]; omega, fun k hk _ => heap_gx W x k hk⟩
theorem Own.lt (h : Own b W e size v n xs) : ∀ k, v.ownBlock = some k → b ≤ k ∧ k < W.heap.size := h.out.lt
theorem Own.gx {x : Ext} (h : Own b W e size v n xs) : Own b (gx W x) e size v n xs :=
  h.kept (grown_gx W x) (.inr fun e => by have := h.lt _ e; omega)
theorem Own.alloc {o : Obj} (h : Own b W e size v n xs) : Own b (W.alloc o) e size v n xs := by rw [alloc_is]; exact h.gx
theorem Own.drew (h : Own b W e size v n xs) : Own b W.drew e size v n xs := by rw [drew_is]; exact h.gx
theorem Own.drewN {k : Nat} (h : Own b W e size v n xs) : Own b (W.drewN k) e size v n xs := by rw [drewN_is]; exact h.gx
theorem Own.app {x y : Ext} (h : Own b (Go.Proofs.YtllahhmonoedmaaDoor.gx W x) e size v n xs) : Own b (Go.Proofs.YtllahhmonoedmaaDoor.gx W (x.app y)) e size v n xs := by rw [← gx_gx]; exact h.gx
theorem Own.tick {x : Ext} {k : Nat} (h : Own b (Go.Proofs.YtllahhmonoedmaaDoor.gx W x) e size v n xs) : Own b (Go.Proofs.YtllahhmonoedmaaDoor.gx W (x.tick k)) e size v n xs := by rw [← drewN_gx]; exact h.drewN
theorem Own.row {g : Nat} {cs : Array Value} (h : Own b W e size v n xs) (hg : g < b) : Own b (W.setRow g cs) e size v n xs := by
  refine h.kept (row := some g) ⟨rfl, rfl, rfl, by simp, fun k _ hk => setRow_other W g k _ (fun e => hk (by rw [e]))⟩ (.inr fun e => ?_)
  have := h.lt _ e; omega
theorem Own.base {b' : Nat} (h : Own b W e size v n xs) (hb : b' ≤ b) : Own b' W e size v n xs := by
  have h' := h.out
  refine Own.mk' ⟨h'.1, h'.2.imp id ?_⟩
  rintro ⟨g, cap, cur, e1, e2, r⟩
  exact ⟨g, cap, cur, e1, by omega, r⟩
/-- The cells that a slice shows. -/
@[irreducible] def Shows (xs : List Value) (A : Option Addr) (w : World) : Prop := 0 < xs.length → ∃ g o, A = some ⟨g, o, none⟩ ∧ ∀ j u, xs[j]? = some u → w.cell? ⟨g, o + j, none⟩ = some u
/-- What an own slice is. -/
theorem Own.is (h : Own b W e size v n xs) : ∃ A c, v = .slice A n c ∧ n ≤ c ∧ c ≤ maxLen ∧ (A = none → n = 0) ∧ Shows xs A W := by
  have h' := h.out
  rcases h'.2 with ⟨rfl, rfl⟩ | ⟨g, cap, cur, rfl, hb, hg, hnc, hcm, hcs, htake⟩
  · exact ⟨none, 0, rfl, Nat.le_refl _, Nat.zero_le _, fun _ => rfl, by unfold Shows; intro h0; have := h'.1; omega⟩
  · refine ⟨_, cap, rfl, hnc, hcm, (fun h => by cases h), ?_⟩
    unfold Shows
    intro _
    refine ⟨g, 0, rfl, fun j u hu => ?_⟩
    have hj : j < n * size := by rw [← h'.1]; exact (List.getElem?_eq_some_iff.1 hu).1
    rw [Nat.zero_add, h'.cellAt j hj, hu]
theorem Shows.gx {A : Option Addr} {w : World} {x : Ext} (h : Shows xs A w) : Shows xs A (Go.Proofs.YtllahhmonoedmaaDoor.gx w x) := by
  unfold Shows at *
  intro h0
  obtain ⟨g, o, e1, hc⟩ := h h0
  exact ⟨g, o, e1, fun j u hu => cell_keep_gx (hc j u hu)⟩
theorem Shows.alloc {A : Option Addr} {w : World} {o : Obj} (h : Shows xs A w) : Shows xs A (w.alloc o) := by rw [alloc_is]; exact h.gx
theorem Shows.drew {A : Option Addr} {w : World} (h : Shows xs A w) : Shows xs A w.drew := by rw [drew_is]; exact h.gx
theorem Shows.app {A : Option Addr} {w : World} {x y : Ext} (h : Shows xs A (Go.Proofs.YtllahhmonoedmaaDoor.gx w x)) : Shows xs A (Go.Proofs.YtllahhmonoedmaaDoor.gx w (x.app y)) := by rw [← gx_gx]; exact h.gx
theorem Shows.tick {A : Option Addr} {w : World} {x : Ext} {k : Nat} (h : Shows xs A (Go.Proofs.YtllahhmonoedmaaDoor.gx w x)) : Shows xs A (Go.Proofs.YtllahhmonoedmaaDoor.gx w (x.tick k)) := by
  rw [← drewN_gx, drewN_is]; exact h.gx
/-- .. of a whole block. -/
theorem Shows.of_at {w : World} {g : Nat} {C : Array Value} {t : TypeId} {fr : Nat × Nat} (hA : w.heap[g]? = some (.cells C t fr)) {o : Nat} (h : ∀ j u, xs[j]? = some u → C[o + j]? = some u) : Shows xs (some ⟨g, o, none⟩) w := by
  unfold Shows
  intro _
  refine ⟨g, o, rfl, fun j u hu => ?_⟩
  rw [cell_of_row w g _ _ _ _ hA, h j u hu]
end

theorem Shows.whole {w : World} {g : Nat} {xs : List Value} {t : TypeId} (hA : At w g (.cells xs.toArray t (0, 0))) : Shows xs (some ⟨g, 0, none⟩) w :=
  Shows.of_at hA fun j u hu => by simpa using hu

theorem gx_of_grown {w W W' : World} {row : Option Nat} (hW : ∃ x, W = gx w x) (hg : W.grownBy W' row) (hrow : ∀ k, row = some k → w.heap.size ≤ k) : ∃ x, W' = gx w x := by
  obtain ⟨x, rfl⟩ := hW
  refine gx_of_below ⟨hg.os, hg.tape, hg.output, by have := hg.size; simp at this; omega, fun k hk => ?_⟩
  rw [hg.block k (by simp; omega) (fun e => by have := hrow k e.symm; omega)]
  exact heap_gx w x k hk

theorem HeldB.drew {B : List Int} {A : Option Addr} {n : Nat} {w : World} (h : HeldB B A n w) : HeldB B A n w.drew := by rw [drew_is]; exact h.gx

theorem Gx.trans {w w1 w2 : World} (h : ∃ x, w2 = Go.Proofs.YtllahhmonoedmaaDoor.gx w1 x) (h' : ∃ x, w1 = Go.Proofs.YtllahhmonoedmaaDoor.gx w x) : ∃ x, w2 = Go.Proofs.YtllahhmonoedmaaDoor.gx w x := by
  obtain ⟨x, rfl⟩ := h'
  obtain ⟨y, rfl⟩ := h
  exact ⟨_, gx_gx _ _ _⟩
theorem Gx.one {w : World} {o : Obj} : ∃ x, w.alloc o = Go.Proofs.YtllahhmonoedmaaDoor.gx w x := ⟨_, alloc_is _ _⟩

/-- A type of elements, as append wants it: its slice type, how many cells an element has, and how many bytes. -/
structure Elem (t e : TypeId) (size bytes : Nat) : Prop where
  under : Tryd.prog.underlying t = some (.slice e)
  pos : 0 < size
  info : ∃ (i : TypeInfo) (z : Value), Tryd.prog.info? e = some i ∧ i.zero = some z ∧ i.size = size ∧ i.bytes = bytes ∧ z.cells.size = size
theorem elem_of {t e : TypeId} {size bytes : Nat} {z : Value} (ht : Tryd.prog.underlying t = some (.slice e)) (hp : 0 < size) (h : (Tryd.prog.info? e).map (fun i => (i.zero, i.size, i.bytes)) = some (some z, size, bytes)) (hz : z.cells.size = size) : Elem t e size bytes := by
  obtain ⟨i, h1, h2⟩ := Option.map_eq_some_iff.1 h
  simp only [Prod.mk.injEq] at h2
  exact ⟨ht, hp, i, z, h1, h2.1, h2.2.1, h2.2.2, hz⟩

/-- Elements appended to an own slice. -/
theorem append_el {t e : TypeId} {size bytes : Nat} (hE : Elem t e size bytes) {ops : Array Oper} {rest : List Oper} {o : Oper} {a : Act} {Q : Exit → Act → World → Prop} {W : World} (w : World) (b : Nat) (hgd : o.guard = none) (s x : Operand)
    (ho : o.op = .call { callee := .builtin .append, args := #[s, x], argTypes := #[t, t] }) (v : Value) (n : Nat) (xs : List Value) (hs : a.eval s = v) (A : Option Addr) (m c : Nat) (news : List Value) (hx : a.eval x = .slice A m c)
    (hb : w.heap.size ≤ b) (hown : Own b W e size v n xs) (hW : ∃ x, W = gx w x) (hbW : b ≤ W.heap.size) (hl : news.length = m * size) (hN : A = none → m = 0 ∧ c = 0) (hnews : Shows news A W) (h1 : ∀ u ∈ news, u.oneCell' = true) (h63 : n + m ≤ maxLen) (hbytes : (n + m) * bytes ≤ 140737488355328)
    (h : ∀ v' W', (∃ x, W' = gx w x) → Own b W' e size v' (n + m) (xs ++ news) → W.grownBy W' v.ownBlock → wpList Tryd.prog ops Q rest (a.put o.dst v') W') : wpList Tryd.prog ops Q (o :: rest) a W := by
  obtain ⟨ht, hp, i, z, hi, hz, hsize, hby, hzs⟩ := hE
  have own := hown.out
  have gxw : ∀ W' , W.grownBy W' v.ownBlock → ∃ x, W' = gx w x := fun W' hg => gx_of_grown hW hg fun k hk => by have := hown.lt k hk; omega
  cases A with
  | none =>
    obtain ⟨rfl, rfl⟩ := hN rfl
    have hn : news = [] := List.eq_nil_of_length_eq_zero (by simpa using hl)
    subst hn
    refine wpList_plain hgd fun K hK => ?_
    have hr := run_append_owned_none (P := Tryd.prog) W b t o.type e i size ht hi v n xs own
    unfold Oper.wp execOp
    simp only [ho, resolve, invoke, builtin, Sem.run_bind, Sem.run_pure, Result.andThen_ok, List.map_toArray, List.map_cons, List.map_nil, hs, hx, hr]
    exact hK _ _ (h v W hW (by simpa using hown) ⟨rfl, rfl, rfl, Nat.le_refl _, fun _ _ _ => rfl⟩)
  | some ad =>
    refine wpList_append_own W hgd s x t ho b e i z size bytes ht hi hz hsize hby hzs hp v n xs hs own ad m c news hx hl ?_ h1 h63 hbytes hbW fun v' W' h2 h3 _ => h v' W' (gxw W' h3) (Own.mk' h2) h3
    intro j u hu
    unfold Shows at hnews
    obtain ⟨g, o', e1, hc⟩ := hnews (by have := (List.getElem?_eq_some_iff.1 hu).1; omega)
    obtain rfl := Option.some.inj e1
    rw [Addr.add_lit]
    exact hc j u hu
/-- .. elements that the call has just made. -/
theorem append_new {t e : TypeId} {size bytes : Nat} (hE : Elem t e size bytes) {ops : Array Oper} {rest : List Oper} {o : Oper} {a : Act} {Q : Exit → Act → World → Prop} {W : World} (w : World) (b : Nat) {s x : Operand} {v : Value} {n : Nat} {xs : List Value} {g m : Nat} {news : List Value}
    (ho : o.op = .call { callee := .builtin .append, args := #[s, x], argTypes := #[t, t] }) (hgd : o.guard = none) (hs : a.eval s = v) (hx : a.eval x = .slice (some ⟨g, 0, none⟩) m m)
    (hb : w.heap.size ≤ b) (hown : Own b W e size v n xs) (hW : ∃ x, W = gx w x) (hbW : b ≤ W.heap.size) (hl : news.length = m * size) (hnews : Shows news (some ⟨g, 0, none⟩) W) (h1 : ∀ u ∈ news, u.oneCell' = true) (h63 : n + m ≤ maxLen) (hbytes : (n + m) * bytes ≤ 140737488355328)
    (h : ∀ v' W', (∃ x, W' = gx w x) → Own b W' e size v' (n + m) (xs ++ news) → W.grownBy W' v.ownBlock → wpList Tryd.prog ops Q rest (a.put o.dst v') W') : wpList Tryd.prog ops Q (o :: rest) a W :=
  append_el hE w b hgd s x ho v n xs hs (some ⟨g, 0, none⟩) m m news hx hb hown hW hbW hl (fun h => by cases h) hnews h1 h63 hbytes h
/-- .. the elements of a slice that is shown. -/
theorem append_all {t e : TypeId} {size bytes : Nat} (hE : Elem t e size bytes) {ops : Array Oper} {rest : List Oper} {o : Oper} {a : Act} {Q : Exit → Act → World → Prop} {W : World} (w : World) (b : Nat) {s x : Operand} {v : Value} {n : Nat} {xs : List Value} {A : Option Addr} {m c : Nat} {news : List Value}
    (ho : o.op = .call { callee := .builtin .append, args := #[s, x], argTypes := #[t, t] }) (hgd : o.guard = none) (hs : a.eval s = v) (hx : a.eval x = .slice A m c) (hN : A = none → m = 0 ∧ c = 0)
    (hb : w.heap.size ≤ b) (hown : Own b W e size v n xs) (hW : ∃ x, W = gx w x) (hbW : b ≤ W.heap.size) (hl : news.length = m * size) (hnews : Shows news A W) (h1 : ∀ u ∈ news, u.oneCell' = true) (h63 : n + m ≤ maxLen) (hbytes : (n + m) * bytes ≤ 140737488355328)
    (h : ∀ v' W', (∃ x, W' = gx w x) → Own b W' e size v' (n + m) (xs ++ news) → W.grownBy W' v.ownBlock → wpList Tryd.prog ops Q rest (a.put o.dst v') W') : wpList Tryd.prog ops Q (o :: rest) a W :=
  append_el hE w b hgd s x ho v n xs hs A m c news hx hb hown hW hbW hl hN hnews h1 h63 hbytes h
theorem own_ret {w W : World} {e : TypeId} {size : Nat} {v : Value} {n : Nat} {xs : List Value} {b : Nat} (hW : ∃ x, W = gx w x) (hb : w.heap.size ≤ b) (h : Own b W e size v n xs) : ∃ v' x, Ending.returned v = .returned v' ∧ W = gx w x ∧ Own w.heap.size (gx w x) e size v' n xs := by
  obtain ⟨x, rfl⟩ := hW
  exact ⟨v, x, rfl, rfl, h.base hb⟩
theorem Own.nilc {b : Nat} {W : World} {e : TypeId} {size : Nat} {A : Option Addr} {n c : Nat} {xs : List Value} (h : Own b W e size (.slice A n c) n xs) : A = none → n = 0 ∧ c = 0 := by
  rintro rfl
  rcases h.out.2 with ⟨e, rfl⟩ | ⟨g, cap, cur, e, _⟩
  · simp at e; exact ⟨rfl, e⟩
  · simp at e
end Go.Proofs.YtllahhmonoedmaaDoor
