/-
  Bytes appended to a slice of the call's own memory: in place where there is room, in a new block where there is none.
-/
import Derived.Test.YtllahhmonoedmaaDoorLawBytes
namespace Go.Proofs.YtllahhmonoedmaaDoor
open Go.RowKit
-- AT2

theorem gx_row {w : World} {x : Ext} {g : Nat} {cs : Array Value} (h : w.heap.size ≤ g) : ∃ y, (gx w x).setRow g cs = gx w y := by
  refine gx_of_below ⟨rfl, rfl, rfl, by simp [gx], fun k hk => ?_⟩
  rw [setRow_other _ _ _ _ (by omega)]
  exact heap_gx w x k hk
/-- The numbers M laid over C from o on. -/
def putAt : List Int → Nat → List Int → List Int
  | C, _, [] => C
  | C, o, v :: r => putAt (C.set o v) (o + 1) r
theorem putAt_len : ∀ (M C : List Int) (o : Nat), (putAt C o M).length = C.length
  | [], _, _ => rfl
  | v :: r, C, o => by unfold putAt; rw [putAt_len r, List.length_set]
theorem gw_cons (v : Int) (r : List Int) (j : Nat) : gw (v :: r) j = if j = 0 then v else gw r (j - 1) := by
  unfold gw
  cases j <;> simp [List.getD]
theorem gw_putAt : ∀ (M C : List Int) (o j : Nat), o + M.length ≤ C.length → gw (putAt C o M) j = if o ≤ j ∧ j < o + M.length then gw M (j - o) else gw C j
  | [], C, o, j, _ => by rw [if_neg (by simp only [List.length_nil]; omega)]; rfl
  | v :: r, C, o, j, h => by
    simp only [List.length_cons] at h
    unfold putAt
    rw [gw_putAt r (C.set o v) (o + 1) j (by rw [List.length_set]; omega), gw_set _ _ _ _ (by omega), gw_cons]
    simp only [List.length_cons]
    by_cases e : j = o
    · subst e
      rw [if_neg (by omega), if_pos rfl, if_pos (by omega), if_pos (by omega)]
    · by_cases h1 : o + 1 ≤ j ∧ j < o + 1 + r.length
      · rw [if_pos h1, if_pos (by omega), if_neg (by omega)]; congr 1 <;> omega
      · rw [if_neg h1, if_neg e, if_neg (by omega)]
theorem setCells_row (g : Nat) : ∀ (M C : List Int) (o : Nat) (w : World), At w g (.cells (bc C) 5 (0, 0)) → w.setCells g o (M.map (Value.int .u8)) = w.setRow g (bc (putAt C o M))
  | [], C, o, w, h => by
    show w = w.setRow g (bc C)
    exact h.self.symm
  | v :: r, C, o, w, h => by
    have hI : Is w g 5 := ⟨_, h⟩
    show (w.setCell ⟨g, o, none⟩ (.int .u8 v)).setCells g (o + 1) (r.map (Value.int .u8)) = _
    rw [setCell_eq_setRow _ g o _ _ _ _ h, bc_set, setCells_row g r (C.set o v) (o + 1) _ (At.row hI), setRow_setRow]
    rfl

theorem infoByte0 : ∃ i, Tryd.prog.info? 5 = some i ∧ i.size = 1 ∧ i.bytes = 1 ∧ i.zero = some (.int .u8 0) := by
  have h : (Tryd.prog.info? 5).map (fun i => (i.size, i.bytes, i.zero)) = some (1, 1, some (.int .u8 0)) := by kernel_rfl
  obtain ⟨i, h1, h2⟩ := Option.map_eq_some_iff.1 h
  simp only [Prod.mk.injEq] at h2
  exact ⟨i, h1, h2.1, h2.2.1, h2.2.2⟩
theorem zeros_bc (k : Nat) : Builtin.zeroCells (Value.int .u8 0).cells k = bc (List.replicate k 0) := by
  simp only [Builtin.zeroCells, Value.cells, bc]
  apply Array.ext (by simp)
  intro i h1 h2
  simp [Nat.mod_one]
theorem gw_append (C D : List Int) (j : Nat) : gw (C ++ D) j = if j < C.length then gw C j else gw D (j - C.length) := by
  unfold gw
  by_cases h : j < C.length
  · rw [if_pos h]; simp [List.getD, List.getElem?_append_left h]
  · rw [if_neg h]; simp [List.getD, List.getElem?_append_right (by omega : C.length ≤ j)]
theorem gw_take (C : List Int) (n j : Nat) (h : j < n) : gw (C.take n) j = gw C j := by
  unfold gw; simp [List.getD, List.getElem?_take_of_lt h]
theorem gw_zeros (k j : Nat) : gw (List.replicate k 0) j = 0 := by unfold gw; exact getD_zeros k j
theorem bc_append (C D : List Int) : bc C ++ bc D = bc (C ++ D) := by simp [bc]

set_option maxRecDepth 100000 in
theorem append_own {ops : Array Oper} {rest : List Oper} {o : Oper} {a : Act} {Q : Exit → Act → World → Prop} {W : World} (w : World) (C M : List Int) (g n : Nat) (A : Option Addr) (c' : Nat) (hg : o.guard = none) (s x : Operand)
    (hop : o.op = Op.call { callee := Callee.builtin Builtin.append, args := #[s, x], argTypes := #[61, 61] }) (hty : o.type = 61) (hs : a.eval s = .slice (some ⟨g, 0, none⟩) n C.length) (hx : a.eval x = .slice A M.length c')
    (hA : At W g (.cells (bc C) 5 (0, 0))) (hW : ∃ x, W = gx w x) (hgw : w.heap.size ≤ g) (hn : n ≤ C.length) (hcm : C.length ≤ maxLen) (hbC : Bs C) (hbM : Bs M) (hH : HeldB M A M.length W) (hm : n + M.length ≤ 140737488355328)
    (h : ∀ g' C' W', (∃ x, W' = gx w x) → w.heap.size ≤ g' → At W' g' (.cells (bc C') 5 (0, 0)) → n + M.length ≤ C'.length → C'.length ≤ maxLen → Bs C' → (∀ j, j < n → gw C' j = gw C j) → (∀ j, j < M.length → gw C' (n + j) = gw M j) →
      wpList Tryd.prog ops Q rest (a.put o.dst (.slice (some ⟨g', 0, none⟩) (n + M.length) C'.length)) W') :
    wpList Tryd.prog ops Q (o :: rest) a W := by
  refine wpList_plain hg fun K hK => ?_
  by_cases h0 : M.length = 0
  · have hrun := append_zero g A n C.length c' hn W
    unfold Oper.wp
    have h' := h g C W hW hgw hA (by omega) hcm hbC (fun j _ => rfl) (fun j hj => by omega)
    rw [h0] at hx h'
    simp [execOp, hop, resolve, invoke, builtin, hs, hx, hty, hrun, Result.andThen]
    exact hK _ _ h'
  · unfold HeldB at hH
    obtain ⟨b, off, rfl, hc⟩ := hH (by omega)
    obtain ⟨i, h1, h2, h3, h4⟩ := infoByte0
    have hnews : ∀ j v, (M.map (Value.int .u8))[j]? = some v → W.cell? ((⟨b, off, none⟩ : Addr).add j) = some v := fun j v hj => by
      rw [List.getElem?_map] at hj
      obtain ⟨y, hy1, rfl⟩ := Option.map_eq_some_iff.1 hj
      obtain ⟨hj', e⟩ := List.getElem?_eq_some_iff.1 hy1
      rw [Addr.add_lit, hc j hj', ← e]
      simp [gw, List.getD, hj']
    by_cases hr : n + M.length ≤ C.length
    · have hrun := run_append_room_cells (P := Tryd.prog) W 61 61 5 i Tryd.underlying61 h1 g 0 n C.length ⟨b, off, none⟩ M.length c' (M.map (Value.int .u8)) (by simp [h2]) hnews (fun u hu => by
          obtain ⟨y, _, rfl⟩ := List.mem_map.1 hu
          rfl) hr (fun j hj => by
          rw [List.length_map] at hj
          rw [h2, cell_of_row W g _ _ _ _ hA, bc_get C _ (by omega)]; rfl) (fun j hj => frozen_of_row _ g _ _ _ hA)
      unfold Oper.wp
      simp [execOp, hop, resolve, invoke, builtin, hs, hx, hty, hrun, Result.andThen]
      rw [h2, Nat.mul_one, setCells_row g M C n W hA]
      obtain ⟨y, rfl⟩ := hW
      have hl := putAt_len M C n
      have := h g (putAt C n M) _ (gx_row hgw) hgw (At.row ⟨_, hA⟩) (by omega) (by omega) (fun k => by
        rw [gw_putAt M C n k hr]; split
        · exact hbM _
        · exact hbC _) (fun j hj => by rw [gw_putAt M C n j hr, if_neg (by omega)]) (fun j hj => by rw [gw_putAt M C n _ hr, if_pos (by omega)]; congr 1 <;> omega)
      rw [hl] at this
      exact hK _ _ this
    · have hrun := run_append_grow (P := Tryd.prog) W 61 61 5 i (.int .u8 0) Tryd.underlying61 h1 h4 ⟨g, 0, none⟩ n C.length ((C.take n).map (Value.int .u8)) (by simp [h2]; omega) (fun j v hj => by
        rw [List.getElem?_map] at hj
        obtain ⟨y, hy1, rfl⟩ := Option.map_eq_some_iff.1 hj
        obtain ⟨hj', e⟩ := List.getElem?_eq_some_iff.1 hy1
        rw [List.length_take] at hj'
        rw [Addr.add_lit, Nat.zero_add, cell_of_row W g j _ _ _ hA, bc_get C j (by omega), ← e]
        simp [gw, List.getD, show j < C.length by omega]) ⟨b, off, none⟩ M.length c' (M.map (Value.int .u8)) (by simp [h2]) hnews (by omega) (by omega) (growslice_fits (by omega) (by rw [h3]; omega))
      have hge := grownCap_ge W (n + M.length) C.length 5
      have hle : grownCap W (n + M.length) C.length 5 ≤ maxLen := grownCap_le_maxLen W _ _ _ (by simp only [maxLen]; omega)
      generalize grownCap W (n + M.length) C.length 5 = cap at *
      have e : ((C.take n).map (Value.int .u8)).toArray ++ (M.map (Value.int .u8)).toArray ++ Builtin.zeroCells (Value.int .u8 0).cells (cap - (n + M.length)) = bc (C.take n ++ M ++ List.replicate (cap - (n + M.length)) 0) := by
        rw [zeros_bc, ← bc_append, ← bc_append]; rfl
      rw [e] at hrun
      have ll : (C.take n ++ M ++ List.replicate (cap - (n + M.length)) 0).length = cap := by simp; omega
      have l1 : (C.take n).length = n := by simp; omega
      unfold Oper.wp
      simp [execOp, hop, resolve, invoke, builtin, hs, hx, hty, hrun, Result.andThen]
      obtain ⟨y, rfl⟩ := hW
      have := h (gx w y).heap.size (C.take n ++ M ++ List.replicate (cap - (n + M.length)) 0) _ (Gx.alloc (Gx.drew ⟨y, rfl⟩)) (by rw [size_gx]; omega) (At.new (gx w y).drew _) (by omega) (by omega) (fun k => by
        rw [gw_append, gw_append, l1]; split
        · split
          · rw [gw_take _ _ _ (by omega)]; exact hbC _
          · exact hbM _
        · rw [gw_zeros]; decide) (fun j hj => by rw [gw_append, if_pos (by simp; omega), gw_append, l1, if_pos hj, gw_take _ _ _ hj]) (fun j hj => by rw [gw_append, if_pos (by simp; omega), gw_append, l1, if_neg (by omega)]; congr 1 <;> omega)
      rw [ll] at this
      simp only [List.append_assoc] at this ⊢
      exact hK _ _ this
end Go.Proofs.YtllahhmonoedmaaDoor
