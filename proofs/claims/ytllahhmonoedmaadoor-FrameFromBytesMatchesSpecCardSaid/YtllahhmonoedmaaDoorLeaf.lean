/-
  The small functions of package frame and of the reference: contracts.
-/
import Derived.Test.YtllahhmonoedmaaDoorBase
import Derived.Deep.WholeRow
namespace Go.Proofs.YtllahhmonoedmaaDoor
open Go.RowKit

/-- The zero frame. -/
@[irreducible] def zeroF : List Int := List.replicate 64 0
theorem zeroF_len : zeroF.length = 64 := by unfold zeroF; simp
theorem getD_zeros (n k : Nat) : (List.replicate n (0 : Int)).getD k 0 = 0 := by
  rcases Nat.lt_or_ge k n with h | h
  · simp [List.getD, h]
  · simp [List.getD, h]
theorem zeroF_get (k : Nat) : gw zeroF k = 0 := by
  unfold zeroF gw
  exact getD_zeros 64 k
theorem info_frame : (Tryd.prog.info? 32).map (fun i => (i.zero, i.size)) = some (some (.agg (fc (List.replicate 64 0))), 64) := by kernel_rfl
@[go_sem high] theorem zero_frame (w : World) : (zeroValue 32).run Tryd.prog w = .ok (.agg (fc zeroF)) w := by
  unfold zeroF
  exact (zero_of_info info_frame).1 w
@[go_sem high] theorem fold_zero : (#[Value.int .u16 0, Value.int .u16 0, Value.int .u16 0, Value.int .u16 0, Value.int .u16 0, Value.int .u16 0, Value.int .u16 0, Value.int .u16 0, Value.int .u16 0, Value.int .u16 0, Value.int .u16 0, Value.int .u16 0, Value.int .u16 0, Value.int .u16 0, Value.int .u16 0, Value.int .u16 0, Value.int .u16 0, Value.int .u16 0, Value.int .u16 0, Value.int .u16 0, Value.int .u16 0, Value.int .u16 0, Value.int .u16 0, Value.int .u16 0, Value.int .u16 0, Value.int .u16 0, Value.int .u16 0, Value.int .u16 0, Value.int .u16 0, Value.int .u16 0, Value.int .u16 0, Value.int .u16 0, Value.int .u16 0, Value.int .u16 0, Value.int .u16 0, Value.int .u16 0, Value.int .u16 0, Value.int .u16 0, Value.int .u16 0, Value.int .u16 0, Value.int .u16 0, Value.int .u16 0, Value.int .u16 0, Value.int .u16 0, Value.int .u16 0, Value.int .u16 0, Value.int .u16 0, Value.int .u16 0, Value.int .u16 0, Value.int .u16 0, Value.int .u16 0, Value.int .u16 0, Value.int .u16 0, Value.int .u16 0, Value.int .u16 0, Value.int .u16 0, Value.int .u16 0, Value.int .u16 0, Value.int .u16 0, Value.int .u16 0, Value.int .u16 0, Value.int .u16 0, Value.int .u16 0, Value.int .u16 0] : Array Value) = fc zeroF := by
  unfold zeroF
  rfl
/-- What lies in a block. -/
def At (w : World) (g : Nat) (o : Obj) : Prop := w.heap[g]? = some o
theorem At.lt {w : World} {g : Nat} {o : Obj} (h : At w g o) : g < w.heap.size := by
  rcases Nat.lt_or_ge g w.heap.size with hlt | hge
  · exact hlt
  · unfold At at h; rw [Array.getElem?_eq_none hge] at h; cases h
theorem At.gx {w : World} {g : Nat} {o : Obj} {x : Ext} (h : At w g o) : At (gx w x) g o := (heap_gx w x g h.lt).trans h
theorem At.drew {w : World} {g : Nat} {o : Obj} (h : At w g o) : At w.drew g o := h
theorem At.new (w : World) (o : Obj) : At (w.alloc o) w.heap.size o := heap_alloc_new w o
theorem At.new' {w : World} {g : Nat} {o : Obj} (e : g = w.heap.size) : At (w.alloc o) g o := by subst e; exact At.new w o
theorem At.alloc {w : World} {g : Nat} {o o' : Obj} (h : At w g o) : At (w.alloc o') g o := (Below.heap_alloc w o' g h.lt).trans h
/-- Cells of a type lie in a block. -/
def Is (w : World) (g : Nat) (t : TypeId) : Prop := ∃ cs, At w g (.cells cs t (0, 0))
theorem Is.gx {w : World} {g : Nat} {t : TypeId} {x : Ext} (h : Is w g t) : Is (Go.Proofs.YtllahhmonoedmaaDoor.gx w x) g t := ⟨_, h.choose_spec.gx⟩
theorem Is.drew {w : World} {g : Nat} {t : TypeId} (h : Is w g t) : Is w.drew g t := h
theorem Is.new (w : World) (cs : Array Value) (t : TypeId) : Is (w.alloc (.cells cs t)) w.heap.size t := ⟨_, At.new _ _⟩
theorem Is.new' {w : World} {g : Nat} {cs : Array Value} {t : TypeId} (e : g = w.heap.size) : Is (w.alloc (.cells cs t)) g t := ⟨_, At.new' e⟩
theorem Is.alloc {w : World} {g : Nat} {t : TypeId} {o : Obj} (h : Is w g t) : Is (w.alloc o) g t := ⟨_, h.choose_spec.alloc⟩
theorem At.row {w : World} {g : Nat} {cs' : Array Value} {t : TypeId} (h : Is w g t) : At (w.setRow g cs') g (.cells cs' t (0, 0)) := setRow_heap w g _ cs' t _ h.choose_spec
theorem Is.row {w : World} {g : Nat} {cs' : Array Value} {t : TypeId} (h : Is w g t) : Is (w.setRow g cs') g t := ⟨_, At.row h⟩
theorem At.row_other {w : World} {g g' : Nat} {o : Obj} {cs' : Array Value} (h : At w g o) (hne : g ≠ g') : At (w.setRow g' cs') g o := (setRow_other w g' g cs' hne).trans h

@[go_sem] theorem setRow_gx (w : World) (x : Ext) (g : Nat) (cs : Array Value) (h : g < w.heap.size) : (gx w x).setRow g cs = gx (w.setRow g cs) x := by
  simp only [Go.Proofs.YtllahhmonoedmaaDoor.gx, World.setRow]
  congr 1
  apply Array.ext_getElem?
  intro i
  rw [Array.getElem?_modify]
  by_cases hi : g = i
  · subst hi
    rw [if_pos rfl, Array.getElem?_append_left h, Array.getElem?_append_left (by simpa using h), Array.getElem?_modify, if_pos rfl]
  · rw [if_neg hi]
    simp [Array.getElem?_append, Array.getElem?_modify, hi]
@[go_sem] theorem setRow_alloc_at (w : World) (c c' : Array Value) (t : TypeId) (f : Nat × Nat) (g : Nat) (h : g = w.heap.size) : (w.alloc (.cells c t f)).setRow g c' = w.alloc (.cells c' t f) := by
  subst h
  simp only [World.setRow, World.alloc]
  congr 1
  apply Array.ext_getElem?
  intro i
  rw [Array.getElem?_modify]
  by_cases h : w.heap.size = i
  · subst h
    simp
  · have h' : ¬ i = w.heap.size := fun e => h e.symm
    simp [h, h', Array.getElem?_push]
@[go_sem] theorem setRow_alloc_past (w : World) (o : Obj) (g : Nat) (c' : Array Value) (h : g < w.heap.size) : (w.alloc o).setRow g c' = (w.setRow g c').alloc o := by
  rw [alloc_is, alloc_is, setRow_gx w _ g c' h]; rfl

theorem modify_append_right {α : Type} (a b : Array α) (g : Nat) (f : α → α) (h : a.size ≤ g) : (a ++ b).modify g f = a ++ b.modify (g - a.size) f := by
  apply Array.ext_getElem?
  intro i
  rw [Array.getElem?_modify]
  by_cases hi : i < a.size
  · rw [if_neg (by omega), Array.getElem?_append_left hi, Array.getElem?_append_left hi]
  · rw [Array.getElem?_append_right (by omega), Array.getElem?_append_right (by omega), Array.getElem?_modify]
    by_cases e : g = i
    · subst e; rw [if_pos rfl, if_pos rfl]
    · rw [if_neg e, if_neg (by omega)]
theorem Gx.setRow {w w' : World} {g : Nat} {c : Array Value} (h : ∃ x, w' = Go.Proofs.YtllahhmonoedmaaDoor.gx w x) (hg : w.heap.size ≤ g) : ∃ x, w'.setRow g c = Go.Proofs.YtllahhmonoedmaaDoor.gx w x := by
  obtain ⟨x, rfl⟩ := h
  refine ⟨⟨x.blocks.modify (g - w.heap.size) (fun | .cells _ elem frozen => .cells c elem frozen | o => o), x.drawn⟩, ?_⟩
  simp only [Go.Proofs.YtllahhmonoedmaaDoor.gx, World.setRow]
  rw [modify_append_right _ _ _ _ hg]
  rfl
theorem Gx.setCell {w w' : World} {g o : Nat} {s : Option Nat} {v : Value} (h : ∃ x, w' = Go.Proofs.YtllahhmonoedmaaDoor.gx w x) (hg : w.heap.size ≤ g) : ∃ x, w'.setCell ⟨g, o, s⟩ v = Go.Proofs.YtllahhmonoedmaaDoor.gx w x := by
  obtain ⟨x, rfl⟩ := h
  simp only [Go.Proofs.YtllahhmonoedmaaDoor.gx, World.setCell]
  rw [modify_append_right _ _ _ _ hg]
  exact ⟨⟨_, x.drawn⟩, rfl⟩
theorem cell_keep_gx {w : World} {b o : Nat} {s : Option Nat} {v : Value} {x : Ext} (h : w.cell? ⟨b, o, s⟩ = some v) : (gx w x).cell? ⟨b, o, s⟩ = some v :=
  (cell_gx w x b o s (World.block_lt_of_cell? w _ h)).trans h
theorem cell_keep_alloc {w : World} {b o : Nat} {s : Option Nat} {v : Value} {ob : Obj} (h : w.cell? ⟨b, o, s⟩ = some v) : (w.alloc ob).cell? ⟨b, o, s⟩ = some v := by
  rw [alloc_is]; exact cell_keep_gx h
/-- A whole frame read out of a variable, and written into one. -/
theorem load_fr {ops : Array Oper} {rest : List Oper} {o : Oper} {a : Act} {w : World} {Q : Exit → Act → World → Prop} (hw : Region.wanted o (yielded ops a.tmps) = true) (x : Operand) (ho : o.op = .load 32 x)
    (g : Nat) (hx : a.eval x = .pointer (some ⟨g, 0, none⟩)) (F : List Int) (hg : At w g (.cells (fc F) 32 (0, 0))) (hl : F.length = 64)
    (h : wpList Tryd.prog ops Q rest (a.put o.dst (.agg (fc F))) w) : wpList Tryd.prog ops Q (o :: rest) a w :=
  BigFrame.wpList_want hw fun _ hK => wp_load_row _ x ho g hx _ _ _ _ hg Tryd.underlying32 rfl (by rw [fc_size, hl]; kernel_rfl) (hK _ _ h)
theorem store_fr {ops : Array Oper} {rest : List Oper} {o : Oper} {a : Act} {w : World} {Q : Exit → Act → World → Prop} (hgd : o.guard = none) (x y : Operand) (ho : o.op = .store 32 x y)
    (g : Nat) (hx : a.eval x = .pointer (some ⟨g, 0, none⟩)) (F : List Int) (hy : a.eval y = .agg (fc F)) (G : List Int) (hg : At w g (.cells (fc G) 32 (0, 0))) (hl : F.length = 64) (hl' : G.length = 64)
    (h : wpList Tryd.prog ops Q rest (a.put o.dst undef) (w.setRow g (fc F))) : wpList Tryd.prog ops Q (o :: rest) a w :=
  wpList_store_row hgd _ x y ho g _ hx hy _ _ hg (by rw [fc_size, hl]; kernel_rfl) (by rw [fc_size, fc_size, hl, hl']) (by simp [fc, Value.oneCell']) h
/-- What a function hands back that has a frame among its results. -/
theorem load_at {w : World} {g : Nat} {G : List Int} (hg : At w g (.cells (fc G) 32 (0, 0))) (hl : G.length = 64) :
    (loadVar 32 ⟨g, 0, none⟩).run Tryd.prog w = .ok (.agg (fc G)) w :=
  run_loadVar_row w g _ _ _ _ _ hg Tryd.underlying32 rfl (by rw [fc_size, hl]; kernel_rfl)
theorem ret_fr {fn : Func} {p : Tmp} (h : fn.results = #[.cell p 32]) (a : Act) (w : World) (g : Nat) (G : List Int) (hp : a.tmps.getD p undef = .pointer (some ⟨g, 0, none⟩))
    (hd : a.defers = []) {R : Ending → World → Prop} (hg : At w g (.cells (fc G) 32 (0, 0))) (hl : G.length = 64) (hR : R (.returned (.agg (fc G))) w) : bodyPost Tryd.prog fn R .ret a w :=
  bodyPost_ret (by
    have hp' : a.tmps[p]?.getD undef = .pointer (some ⟨g, 0, none⟩) := by simpa using hp
    simp [results, h, hp', asAddr, load_at hg hl]) hd hR
theorem ret_fr_tmp {fn : Func} {p q : Tmp} (h : fn.results = #[.cell p 32, .tmp q]) (a : Act) (w : World) (g : Nat) (G : List Int) (hp : a.tmps.getD p undef = .pointer (some ⟨g, 0, none⟩))
    (hd : a.defers = []) {R : Ending → World → Prop} (hg : At w g (.cells (fc G) 32 (0, 0))) (hl : G.length = 64) (hR : R (.returned (.tuple #[.agg (fc G), a.tmps.getD q undef])) w) : bodyPost Tryd.prog fn R .ret a w :=
  bodyPost_ret (v := .tuple #[.agg (fc G), a.tmps.getD q undef]) (by
    have hp' : a.tmps[p]?.getD undef = .pointer (some ⟨g, 0, none⟩) := by simpa using hp
    simp [results, h, hp', asAddr, load_at hg hl]) hd hR
theorem ret_fr_tmp2 {fn : Func} {p q r : Tmp} (h : fn.results = #[.cell p 32, .tmp q, .tmp r]) (a : Act) (w : World) (g : Nat) (G : List Int) (hp : a.tmps.getD p undef = .pointer (some ⟨g, 0, none⟩))
    (hd : a.defers = []) {R : Ending → World → Prop} (hg : At w g (.cells (fc G) 32 (0, 0))) (hl : G.length = 64) (hR : R (.returned (.tuple #[.agg (fc G), a.tmps.getD q undef, a.tmps.getD r undef])) w) : bodyPost Tryd.prog fn R .ret a w :=
  bodyPost_ret (v := .tuple #[.agg (fc G), a.tmps.getD q undef, a.tmps.getD r undef]) (by
    have hp' : a.tmps[p]?.getD undef = .pointer (some ⟨g, 0, none⟩) := by simpa using hp
    simp [results, h, hp', asAddr, load_at hg hl]) hd hR
@[go_sem high] theorem build_zero (w : World) : (Instr.build 32 #[]).run Tryd.prog w = .ok (.agg (fc zeroF)) w := by
  refine run_build w _ _ _ ?_
  unfold zeroF
  kernel_rfl
def Tab (w : World) : Prop := 0 < w.heap.size ∧ ∀ k, k < 4 → w.cell? ⟨0, k, none⟩ = some (.int .u16 (syncT k))
theorem Tab.gx {w : World} (h : Tab w) (x : Ext) : Tab (gx w x) :=
  ⟨by rw [size_gx]; have := h.1; omega, fun k hk => by rw [cell_gx _ _ _ _ _ h.1]; exact h.2 k hk⟩
theorem Tab.alloc {w : World} (h : Tab w) (o : Obj) : Tab (w.alloc o) := by rw [alloc_is]; exact h.gx _

set_option maxHeartbeats 400000 in
set_option maxRecDepth 100000 in
theorem ones_any (a : Int) (h0 : 0 ≤ a) (h1 : a ≤ 65535) (w : World) :
    Calls Tryd.prog 102 #[.int .u16 a] w fun e w' => e = .returned (.int .i64 (onesI a)) ∧ ∃ x, w' = gx w x := by
  have hq : (Lib.pop8 (a / 256) + Lib.pop8 (a % 256)) % 256 = onesI a := pop8_sum a h0 h1
  have q0 : 0 ≤ a / 256 := by omega
  have q1 : a / 256 ≤ 255 := by omega
  have q3 : 0 ≤ a % 256 := by omega
  have q4 : a % 256 ≤ 255 := by omega
  have qa := u16_and255 a h0 h1
  go_enter Tryd.func102, Tryd.ntmps102
  go_wp2
  go_quiet (fail)
  go_wp2
  go_ret
  exact ⟨rfl, _, drewN_is _ _⟩

theorem dataOf_any (a : Int) (h0 : 0 ≤ a) (h1 : a ≤ 65535) (w : World) :
    Calls Tryd.prog 75 #[.int .u16 a] w fun e w' => e = .returned (.int .u16 (a % 2048)) ∧ w = w' := by
  go_enter Tryd.func75, Tryd.ntmps75
  go_wp2
  go_ret
  exact ⟨rfl, rfl⟩

theorem isOdd_any (a : Int) (h0 : 0 ≤ a) (h1 : a ≤ 65535) (w : World) :
    Calls Tryd.prog 76 #[.int .u16 a] w fun e w' => e = .returned (.bool (oddI a)) ∧ ∃ x, w' = gx w x := by
  have hb := onesI_bd a
  have b0 := hb.1
  have b1 := hb.2
  clear hb
  go_enter Tryd.func76, Tryd.ntmps76
  go_wp2_with (go_at_call 102; refine (ones_any _ h0 h1 _).mono ?_; rintro e w' ⟨rfl, x, rfl⟩)
  go_ret
  exact ⟨by unfold oddI; rfl, _, rfl⟩

theorem isEven_any (a : Int) (h0 : 0 ≤ a) (h1 : a ≤ 65535) (w : World) :
    Calls Tryd.prog 89 #[.int .u16 a] w fun e w' => e = .returned (.bool (!oddI a)) ∧ ∃ x, w' = gx w x := by
  go_enter Tryd.func89, Tryd.ntmps89
  go_wp2_with (go_at_call 76; refine (isOdd_any _ h0 h1 _).mono ?_; rintro e w' ⟨rfl, x, rfl⟩)
  go_ret
  exact ⟨rfl, _, rfl⟩

theorem isTooWide_any (a : Int) (w : World) :
    Calls Tryd.prog 87 #[.int .u16 a] w fun e w' => e = .returned (.bool (decide (4096 ≤ a))) ∧ w = w' := by
  by_cases h : 4096 ≤ a
  all_goals
    go_enter Tryd.func87, Tryd.ntmps87
    go_wp2
    go_ret
    exact ⟨by simp [h], rfl⟩

set_option maxHeartbeats 400000 in
theorem isTold_any (a : Int) (h0 : 0 ≤ a) (h1 : a ≤ 65535) (w : World) :
    Calls Tryd.prog 82 #[.int .u16 a] w fun e w' => e = .returned (.bool (decide (a < 4096) && oddI a)) ∧ ∃ x, w' = gx w x := by
  by_cases h : a < 4096
  · go_enter Tryd.func82, Tryd.ntmps82
    go_wp2_with (go_at_call 76; refine (isOdd_any _ h0 h1 _).mono ?_; rintro e w' ⟨rfl, x, rfl⟩)
    go_ret
    exact ⟨by simp [h], _, rfl⟩
  · go_enter Tryd.func82, Tryd.ntmps82
    go_wp2_with (go_at_call 76; refine (isOdd_any _ h0 h1 _).mono ?_; rintro e w' ⟨rfl, x, rfl⟩)
    go_ret
    exact ⟨by rw [decide_eq_false (show ¬ a < 4096 by omega)]; rfl, _, (gx_none _).symm⟩

set_option maxHeartbeats 400000 in
theorem withParity_any (a : Int) (h0 : 0 ≤ a) (h1 : a ≤ 65535) (w : World) :
    Calls Tryd.prog 73 #[.int .u16 a] w fun e w' => e = .returned (.int .u16 (wordI a)) ∧ ∃ x, w' = gx w x := by
  have b0 : 0 ≤ a % 2048 := by omega
  have b1 : a % 2048 ≤ 2047 := by omega
  have qo := u16_or2048 (a % 2048) b0 b1
  cases h : oddI (a % 2048)
  all_goals
    go_enter Tryd.func73, Tryd.ntmps73
    go_wp2_with (first | (go_at_call 75; refine (dataOf_any _ h0 h1 _).mono ?_; rintro e w' ⟨rfl, rfl⟩) | (go_at_call 76; refine (isOdd_any _ b0 (by omega) _).mono ?_; rintro e w' ⟨rfl, x, rfl⟩))
    go_ret
    refine ⟨?_, _, rfl⟩
    unfold wordI
    rw [h]
    rfl

set_option maxHeartbeats 400000 in
theorem syncFor_any (n : Int) (h0 : 0 ≤ n) (w : World) (hw : Tab w) :
    Calls Tryd.prog 78 #[.int .i64 n] w fun e w' => e = .returned (.int .u16 (syncI n)) ∧ w = w' := by
  have b0 : 0 ≤ n % 4 := by omega
  have b1 : n % 4 < 4 := by omega
  have hc := hw.2 (n % 4).toNat (by omega)
  have e : syncT (n % 4).toNat = syncI n := by unfold syncI; rfl
  rw [e] at hc
  clear e
  go_enter Tryd.func78, Tryd.ntmps78
  go_wp2
  go_ret
  exact ⟨rfl, rfl⟩

set_option maxHeartbeats 400000 in
theorem syncOf_any (n : Int) (h0 : 0 ≤ n) (w : World) :
    Calls Tryd.prog 79 #[.int .i64 n] w fun e w' => e = .returned (.int .i64 (syncI n)) ∧ w = w' := by
  have i0 : ∀ w, (Instr.index 126 (.agg #[.int .i64 583, .int .i64 1464, .int .i64 2631, .int .i64 3512]) (.int .i64 0)).run Tryd.prog w = .ok (.int .i64 583) w := fun _ => by kernel_rfl
  have i1 : ∀ w, (Instr.index 126 (.agg #[.int .i64 583, .int .i64 1464, .int .i64 2631, .int .i64 3512]) (.int .i64 1)).run Tryd.prog w = .ok (.int .i64 1464) w := fun _ => by kernel_rfl
  have i2 : ∀ w, (Instr.index 126 (.agg #[.int .i64 583, .int .i64 1464, .int .i64 2631, .int .i64 3512]) (.int .i64 2)).run Tryd.prog w = .ok (.int .i64 2631) w := fun _ => by kernel_rfl
  have i3 : ∀ w, (Instr.index 126 (.agg #[.int .i64 583, .int .i64 1464, .int .i64 2631, .int .i64 3512]) (.int .i64 3)).run Tryd.prog w = .ok (.int .i64 3512) w := fun _ => by kernel_rfl
  have hh : n % 4 = 0 ∨ n % 4 = 1 ∨ n % 4 = 2 ∨ n % 4 = 3 := by omega
  rcases hh with h | h | h | h
  all_goals
    go_enter Tryd.func79, Tryd.ntmps79
    go_wp2
    go_ret
    exact ⟨by unfold syncI; rw [h]; rfl, rfl⟩

set_option maxHeartbeats 1000000 in
theorem odd_any (n : Int) (h0 : 0 ≤ n) (h1 : n ≤ 65535) (w : World) :
    Calls Tryd.prog 77 #[.int .i64 n] w fun e w' => e = .returned (.bool (oddI n)) ∧ w = w' := by
  have hbn := onesI_bd n
  go_enter Tryd.func77, Tryd.ntmps77
  go_wp2
  go_loop [0, 3] (fun m o => ∃ k q : Int, 0 ≤ k ∧ k ≤ n ∧ m = .int .i64 k ∧ o = .int .i64 q ∧ 0 ≤ q ∧ q + onesI k = onesI n) (fun m _ => (intOf m).toNat)
  case atStart => exact ⟨n, 0, h0, Int.le_refl _, rfl, rfl, Int.le_refl _, by omega⟩
  case round =>
    obtain ⟨k, q, hk0, hk1, rfl, rfl, hq0, hq⟩ := hrel
    have hbk := onesI_bd k
    by_cases hk : 0 < k
    · have hs := onesI_step k hk0 (by omega)
      have HS : Hid (q + k % 2 + onesI (k / 2) = onesI n) := by show _ = _; omega
      have hq1 : q ≤ 16 := by omega
      clear hq hs
      go_wp2
      go_round
      case rel => exact ⟨k / 2, q + k % 2, by omega, by omega, rfl, rfl, by omega, HS.out⟩
      case measure => simp [intOf]; omega
    · obtain rfl : k = 0 := by omega
      have e : q = onesI n := by rw [onesI_zero] at hq; omega
      clear hq
      subst e
      go_wp2
      go_ret
      exact ⟨by unfold oddI; rfl, rfl⟩
end Go.Proofs.YtllahhmonoedmaaDoor
