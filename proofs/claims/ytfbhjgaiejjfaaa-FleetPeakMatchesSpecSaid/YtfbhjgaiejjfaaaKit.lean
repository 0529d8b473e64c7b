/-
  The walks' own words, of no project: worlds that only grew; what lies in a block; slices of the call's own memory and what is appended to them; regions that draw their order.
-/
import Derived.Test.YtfbhjgaiejjfaaaProg
import Derived.WalkKit
import Derived.WalkSpells
import Derived.WalkLawsBesides
import Derived.BigQuiet
import Derived.Deep.QuietTactic
import Derived.Deep.MidRow
import Derived.Deep.WholeRow
import Derived.Outline
import Derived.Lib.BitFns
import Derived.Lib.Hide
import Derived.StillTail
import Derived.Deep.Quiet
import Derived.Laws.OwnMore
import Derived.OwnWalk
namespace Go.Proofs.Ytfbhjgaiejjfaaa
open Go.RowKit
-- AT2

def xorI (a b : Int) : Int := ((a.toNat ^^^ b.toNat : Nat) : Int)
/-- The word k of a frame. -/
@[irreducible] def gw (F : List Int) (k : Nat) : Int := F.getD k 0
theorem gw_set (F : List Int) (i k : Nat) (v : Int) (h : i < F.length) : gw (F.set i v) k = if k = i then v else gw F k := by
  unfold gw
  by_cases e : k = i
  · subst e; simp [List.getD, h]
  · rw [if_neg e]; simp [List.getD, Ne.symm e]
theorem ext_gw {F G : List Int} (hl : F.length = G.length) (h : ∀ k, k < F.length → gw F k = gw G k) : F = G := by
  apply List.ext_getElem hl
  intro k h1 h2
  have := h k h1
  unfold gw at this
  simpa [List.getD, List.getElem?_eq_getElem h1, List.getElem?_eq_getElem h2] using this
structure Ext where
  blocks : Array Obj
  drawn : Nat

instance : Inhabited Ext := ⟨⟨#[], 0⟩⟩
def Ext.app (x y : Ext) : Ext := ⟨x.blocks ++ y.blocks, y.drawn⟩
def Ext.tick (x : Ext) (n : Nat) : Ext := ⟨x.blocks, x.drawn + n⟩
def Ext.n (x : Ext) : Nat := x.blocks.size

/-- The world with new blocks, and with as many draws as may be. -/
def gx (w : World) (x : Ext) : World := { w with heap := w.heap ++ x.blocks, drawn := x.drawn }

section
variable (w : World) (x y : Ext)
@[go_sem] theorem gx_gx : gx (gx w x) y = gx w (x.app y) := by
  simp [gx, Ext.app, Array.append_assoc]
@[go_sem] theorem drew_gx : (gx w x).drew = gx w (x.tick 1) := by
  simp [-World.drew_eq, gx, World.drew, Ext.tick]
@[go_sem] theorem drewN_gx (n : Nat) : (gx w x).drewN n = gx w (x.tick n) := by
  simp [gx, World.drewN, Ext.tick]
@[go_sem] theorem gx_drew : gx w.drew x = gx w x := by
  simp [-World.drew_eq, gx, World.drew]
@[go_sem] theorem gx_drewN (n : Nat) : gx (w.drewN n) x = gx w x := by
  simp [gx, World.drewN]
@[simp, go_sem] theorem size_gx : (gx w x).heap.size = w.heap.size + x.n := by
  simp [gx, Ext.n]
theorem heap_gx (b : Nat) (h : b < w.heap.size) : (gx w x).heap[b]? = w.heap[b]? := by
  simp [gx, Array.getElem?_append_left h]
@[go_sem] theorem cell_gx (b o : Nat) (s : Option Nat) (h : b < w.heap.size) : (gx w x).cell? ⟨b, o, s⟩ = w.cell? ⟨b, o, s⟩ := by
  simp [World.cell?, heap_gx w x b h]
@[go_sem] theorem frozen_gx (b o : Nat) (s : Option Nat) (h : b < w.heap.size) : (gx w x).frozen? ⟨b, o, s⟩ = w.frozen? ⟨b, o, s⟩ := by
  simp [World.frozen?, heap_gx w x b h]
@[go_sem] theorem tape_gx : (gx w x).tape = w.tape := rfl
@[go_sem] theorem setCell_gx (b o : Nat) (s : Option Nat) (v : Value) (h : b < w.heap.size) : (gx w x).setCell ⟨b, o, s⟩ v = gx (w.setCell ⟨b, o, s⟩ v) x := by
  simp only [gx, World.setCell]
  congr 1
  apply Array.ext_getElem?
  intro i
  rw [Array.getElem?_modify]
  by_cases hi : b = i
  · subst hi
    rw [if_pos rfl, Array.getElem?_append_left h, Array.getElem?_append_left (by simpa using h), Array.getElem?_modify, if_pos rfl]
  · rw [if_neg hi]
    simp [Array.getElem?_append, Array.getElem?_modify, hi]
theorem alloc_is (o : Obj) : w.alloc o = gx w ⟨#[o], w.drawn⟩ := by
  simp [-World.alloc_eq, gx, World.alloc]
theorem drew_is : w.drew = gx w ⟨#[], w.drawn + 1⟩ := by simp [-World.drew_eq, gx, World.drew]
theorem drewN_is (n : Nat) : w.drewN n = gx w ⟨#[], w.drawn + n⟩ := by simp [gx, World.drewN]
theorem gx_none : gx w ⟨#[], w.drawn⟩ = w := by simp [gx]
theorem size_alloc' (o : Obj) : (w.alloc o).heap.size = w.heap.size + 1 := by simp
end

theorem gx_of_below {w w' : World} (h : Below w.heap.size w w') : ∃ x, w' = gx w x := by
  refine ⟨⟨w'.heap.extract w.heap.size w'.heap.size, w'.drawn⟩, ?_⟩
  have hh : w'.heap = w.heap ++ w'.heap.extract w.heap.size w'.heap.size := by
    apply Array.ext_getElem?
    intro i
    by_cases hi : i < w.heap.size
    · rw [Array.getElem?_append_left hi, h.block i hi]
    · rw [Array.getElem?_append_right (by omega), Array.getElem?_extract]
      have := h.size
      split
      · congr 1; omega
      · exact Array.getElem?_eq_none (by omega)
  obtain ⟨hp, tp, dr, os, out⟩ := w'
  have e1 : os = w.os := h.os
  have e2 : tp = w.tape := h.tape
  have e3 : out = w.output := h.output
  subst e1 e2 e3
  simp only [gx]
  congr 1
theorem below_gx (w : World) (x : Ext) : Below w.heap.size w (gx w x) :=
  ⟨rfl, rfl, rfl, by rw [size_gx]; omega, fun k hk => heap_gx w x k hk⟩
theorem Gx.refl (w : World) : ∃ x, w = gx w x := ⟨⟨#[], w.drawn⟩, (gx_none w).symm⟩
theorem Gx.gx {w w' : World} {y : Ext} (h : ∃ x, w' = gx w x) : ∃ x, gx w' y = gx w x := by
  obtain ⟨x, rfl⟩ := h; exact ⟨_, gx_gx _ _ _⟩
theorem Gx.alloc {w w' : World} {o : Obj} (h : ∃ x, w' = Go.Proofs.Ytfbhjgaiejjfaaa.gx w x) : ∃ x, w'.alloc o = Go.Proofs.Ytfbhjgaiejjfaaa.gx w x := by
  rw [alloc_is]; exact Gx.gx h
theorem Gx.drew {w w' : World} (h : ∃ x, w' = Go.Proofs.Ytfbhjgaiejjfaaa.gx w x) : ∃ x, w'.drew = Go.Proofs.Ytfbhjgaiejjfaaa.gx w x := by
  rw [drew_is]; exact Gx.gx h
theorem Gx.drewN {w w' : World} {n : Nat} (h : ∃ x, w' = Go.Proofs.Ytfbhjgaiejjfaaa.gx w x) : ∃ x, w'.drewN n = Go.Proofs.Ytfbhjgaiejjfaaa.gx w x := by
  rw [drewN_is]; exact Gx.gx h

/-- A region that draws its order, whose operations read and whose callees only make memory: one walk in the order of the text. -/
theorem region_gx {P : Program} {id : Nat} {Q : Exit → Act → World → Prop} {a : Act} {w : World} {l : List Oper} (hm : P.follows .mixedOrders = true) (hB : Region.lexB .any l.toArray = true)
    (h : wpQuiet P l.toArray (fun w' => ∃ x, w' = gx w x) (fun a' => ∀ w', (∃ x, w' = gx w x) → Q .normal a' w') l a) : (Code.region id l.toArray true).wp P Q a w :=
  wp_region_quiet (C := fun w' => ∃ x, w' = gx w x) hm hB ⟨_, drew_is w⟩ (by simpa using h)

/-- The same where the world has grown already. -/
theorem region_gxx {P : Program} {id : Nat} {Q : Exit → Act → World → Prop} {a : Act} {w : World} {y : Ext} {l : List Oper} (hm : P.follows .mixedOrders = true) (hB : Region.lexB .any l.toArray = true)
    (h : wpQuiet P l.toArray (fun w' => ∃ x, w' = gx w x) (fun a' => ∀ w', (∃ x, w' = gx w x) → Q .normal a' w') l a) : (Code.region id l.toArray true).wp P Q a (gx w y) :=
  wp_region_quiet (C := fun w' => ∃ x, w' = gx w x) hm hB ⟨_, drew_gx w y⟩ (by simpa using h)

theorem calls_gx {P : Program} {f : FuncId} {args : Array Value} {w : World} {x : Ext} {v : Value}
    (h : Calls P f args (gx w x) fun e w' => e = .returned v ∧ ∃ y, w' = gx (gx w x) y) : Calls P f args (gx w x) fun e w'' => e = .returned v ∧ ∃ y, w'' = gx w y :=
  h.mono fun _ _ ⟨he, y, hy⟩ => ⟨he, x.app y, by rw [hy, gx_gx]⟩
theorem calls_gx_same {P : Program} {f : FuncId} {args : Array Value} {w : World} {x : Ext} {v : Value}
    (h : Calls P f args (gx w x) fun e w' => e = .returned v ∧ gx w x = w') : Calls P f args (gx w x) fun e w'' => e = .returned v ∧ ∃ y, w'' = gx w y :=
  h.mono fun _ _ ⟨he, hy⟩ => ⟨he, x, hy.symm⟩

/-! Bits. -/
theorem wraps_u16 (n : Int) (h0 : 0 ≤ n) (h1 : n < 2 ^ 16) : IntKind.u16.wrap n = n := IntWalk.u16_in n (by omega)
theorem wraps_u32 (n : Int) (h0 : 0 ≤ n) (h1 : n < 2 ^ 32) : IntKind.u32.wrap n = n := IntWalk.u32_in n (by omega)
theorem wraps_i64 (n : Int) (h0 : 0 ≤ n) (h1 : n < 2 ^ 63) : IntKind.i64.wrap n = n := IntWalk.i64_in n (by omega)
theorem wraps_u64 (n : Int) (h0 : 0 ≤ n) (h1 : n < 2 ^ 64) : IntKind.u64.wrap n = n := IntWalk.u64_in n (by omega)
theorem bits_xor (k : IntKind) (j : Nat) (hj : j ≤ k.bits) (hk : ∀ n : Int, 0 ≤ n → n < 2 ^ j → k.wrap n = n) (a b : Int) (ha0 : 0 ≤ a) (ha : a < 2 ^ j) (hb0 : 0 ≤ b) (hb : b < 2 ^ j) :
    bits .xor k a b = xorI a b := by
  obtain ⟨a, rfl⟩ := Int.eq_ofNat_of_zero_le ha0
  obtain ⟨b, rfl⟩ := Int.eq_ofNat_of_zero_le hb0
  have ha : a < 2 ^ j := by exact_mod_cast ha
  have hb : b < 2 ^ j := by exact_mod_cast hb
  have hp : 2 ^ j ≤ 2 ^ k.bits := Nat.pow_le_pow_right (by decide) hj
  have ha' : a % 2 ^ k.bits = a := Nat.mod_eq_of_lt (Nat.lt_of_lt_of_le ha hp)
  have hb' : b % 2 ^ k.bits = b := Nat.mod_eq_of_lt (Nat.lt_of_lt_of_le hb hp)
  have cast : ∀ n : Nat, n < 2 ^ j → ((n : Nat) : Int) < 2 ^ j := fun n h => by exact_mod_cast h
  simp only [bits, BitVec.ofInt_natCast, BitVec.toNat_xor, BitVec.toNat_ofNat, ha', hb', xorI, Int.toNat_natCast]
  exact hk _ (Int.natCast_nonneg _) (cast _ (Nat.xor_lt_two_pow ha hb))
theorem u16_and255 (a : Int) (h0 : 0 ≤ a) (h1 : a ≤ 65535) : bits .and .u16 a 255 = a % 256 := bits_mask .u16 16 (by decide) wraps_u16 8 (by decide) a h0 (by omega)
theorem u16_and15 (a : Int) (h0 : 0 ≤ a) (h1 : a ≤ 65535) : bits .and .u16 a 15 = a % 16 := bits_mask .u16 16 (by decide) wraps_u16 4 (by decide) a h0 (by omega)
theorem u16_or2048 (a : Int) (h0 : 0 ≤ a) (h1 : a ≤ 2047) : bits .or .u16 a 2048 = a + 2048 := by
  have e := bits_join .u16 16 (by decide) wraps_u16 11 2048 a (by decide) (by decide) (by decide) h0 (by omega) (by omega)
  have c : bits .or .u16 a 2048 = bits .or .u16 2048 a := by simp only [bits]; rw [BitVec.or_comm]
  rw [c, e]; omega

/-- What lies in a block. -/
def At (w : World) (g : Nat) (o : Obj) : Prop := w.heap[g]? = some o
theorem At.lt {w : World} {g : Nat} {o : Obj} (h : At w g o) : g < w.heap.size := by
  rcases Nat.lt_or_ge g w.heap.size with hlt | hge
  · exact hlt
  · unfold At at h; rw [Array.getElem?_eq_none hge] at h; cases h
theorem At.gx {w : World} {g : Nat} {o : Obj} {x : Ext} (h : At w g o) : At (gx w x) g o := (heap_gx w x g h.lt).trans h
theorem At.drew {w : World} {g : Nat} {o : Obj} (h : At w g o) : At w.drew g o := h
theorem At.new (w : World) (o : Obj) : At (w.alloc o) w.heap.size o := heap_alloc_new w o
theorem At.new' {w : World} {g : Nat} {o : Obj} (e : g = w.heap.size) : At (w.alloc o) g o := by subst e; exact At.new w o
theorem At.alloc {w : World} {g : Nat} {o o' : Obj} (h : At w g o) : At (w.alloc o') g o := (Below.heap_alloc w o' g h.lt).trans h
/-- Cells of a type lie in a block. -/
def Is (w : World) (g : Nat) (t : TypeId) : Prop := ∃ cs, At w g (.cells cs t (0, 0))
theorem Is.gx {w : World} {g : Nat} {t : TypeId} {x : Ext} (h : Is w g t) : Is (Go.Proofs.Ytfbhjgaiejjfaaa.gx w x) g t := ⟨_, h.choose_spec.gx⟩
theorem Is.drew {w : World} {g : Nat} {t : TypeId} (h : Is w g t) : Is w.drew g t := h
theorem Is.new (w : World) (cs : Array Value) (t : TypeId) : Is (w.alloc (.cells cs t)) w.heap.size t := ⟨_, At.new _ _⟩
theorem Is.new' {w : World} {g : Nat} {cs : Array Value} {t : TypeId} (e : g = w.heap.size) : Is (w.alloc (.cells cs t)) g t := ⟨_, At.new' e⟩
theorem Is.alloc {w : World} {g : Nat} {t : TypeId} {o : Obj} (h : Is w g t) : Is (w.alloc o) g t := ⟨_, h.choose_spec.alloc⟩
theorem At.row {w : World} {g : Nat} {cs' : Array Value} {t : TypeId} (h : Is w g t) : At (w.setRow g cs') g (.cells cs' t (0, 0)) := setRow_heap w g _ cs' t _ h.choose_spec
theorem Is.row {w : World} {g : Nat} {cs' : Array Value} {t : TypeId} (h : Is w g t) : Is (w.setRow g cs') g t := ⟨_, At.row h⟩
theorem At.row_other {w : World} {g g' : Nat} {o : Obj} {cs' : Array Value} (h : At w g o) (hne : g ≠ g') : At (w.setRow g' cs') g o := (setRow_other w g' g cs' hne).trans h

@[go_sem] theorem setRow_gx (w : World) (x : Ext) (g : Nat) (cs : Array Value) (h : g < w.heap.size) : (gx w x).setRow g cs = gx (w.setRow g cs) x := by
  simp only [Go.Proofs.Ytfbhjgaiejjfaaa.gx, World.setRow]
  congr 1
  apply Array.ext_getElem?
  intro i
  rw [Array.getElem?_modify]
  by_cases hi : g = i
  · subst hi
    rw [if_pos rfl, Array.getElem?_append_left h, Array.getElem?_append_left (by simpa using h), Array.getElem?_modify, if_pos rfl]
  · rw [if_neg hi]
    simp [Array.getElem?_append, Array.getElem?_modify, hi]
@[go_sem] theorem setRow_alloc_at (w : World) (c c' : Array Value) (t : TypeId) (f : Nat × Nat) (g : Nat) (h : g = w.heap.size) : (w.alloc (.cells c t f)).setRow g c' = w.alloc (.cells c' t f) := by
  subst h
  simp only [World.setRow, World.alloc]
  congr 1
  apply Array.ext_getElem?
  intro i
  rw [Array.getElem?_modify]
  by_cases h : w.heap.size = i
  · subst h
    simp
  · have h' : ¬ i = w.heap.size := fun e => h e.symm
    simp [h, h', Array.getElem?_push]
@[go_sem] theorem setRow_alloc_past (w : World) (o : Obj) (g : Nat) (c' : Array Value) (h : g < w.heap.size) : (w.alloc o).setRow g c' = (w.setRow g c').alloc o := by
  rw [alloc_is, alloc_is, setRow_gx w _ g c' h]; rfl

theorem modify_append_right {α : Type} (a b : Array α) (g : Nat) (f : α → α) (h : a.size ≤ g) : (a ++ b).modify g f = a ++ b.modify (g - a.size) f := by
  apply Array.ext_getElem?
  intro i
  rw [Array.getElem?_modify]
  by_cases hi : i < a.size
  · rw [if_neg (by omega), Array.getElem?_append_left hi, Array.getElem?_append_left hi]
  · rw [Array.getElem?_append_right (by omega), Array.getElem?_append_right (by omega), Array.getElem?_modify]
    by_cases e : g = i
    · subst e; rw [if_pos rfl, if_pos rfl]
    · rw [if_neg e, if_neg (by omega)]
theorem Gx.setRow {w w' : World} {g : Nat} {c : Array Value} (h : ∃ x, w' = Go.Proofs.Ytfbhjgaiejjfaaa.gx w x) (hg : w.heap.size ≤ g) : ∃ x, w'.setRow g c = Go.Proofs.Ytfbhjgaiejjfaaa.gx w x := by
  obtain ⟨x, rfl⟩ := h
  refine ⟨⟨x.blocks.modify (g - w.heap.size) (fun | .cells _ elem frozen => .cells c elem frozen | o => o), x.drawn⟩, ?_⟩
  simp only [Go.Proofs.Ytfbhjgaiejjfaaa.gx, World.setRow]
  rw [modify_append_right _ _ _ _ hg]
  rfl
theorem Gx.setCell {w w' : World} {g o : Nat} {s : Option Nat} {v : Value} (h : ∃ x, w' = Go.Proofs.Ytfbhjgaiejjfaaa.gx w x) (hg : w.heap.size ≤ g) : ∃ x, w'.setCell ⟨g, o, s⟩ v = Go.Proofs.Ytfbhjgaiejjfaaa.gx w x := by
  obtain ⟨x, rfl⟩ := h
  simp only [Go.Proofs.Ytfbhjgaiejjfaaa.gx, World.setCell]
  rw [modify_append_right _ _ _ _ hg]
  exact ⟨⟨_, x.drawn⟩, rfl⟩
theorem cell_keep_gx {w : World} {b o : Nat} {s : Option Nat} {v : Value} {x : Ext} (h : w.cell? ⟨b, o, s⟩ = some v) : (gx w x).cell? ⟨b, o, s⟩ = some v :=
  (cell_gx w x b o s (World.block_lt_of_cell? w _ h)).trans h
theorem cell_keep_alloc {w : World} {b o : Nat} {s : Option Nat} {v : Value} {ob : Obj} (h : w.cell? ⟨b, o, s⟩ = some v) : (w.alloc ob).cell? ⟨b, o, s⟩ = some v := by
  rw [alloc_is]; exact cell_keep_gx h

section
open Go
variable {P : Program} {ops : Array Oper} {md : Region.Mode} {C : World → Prop}

/-- Whatever order is picked of the first n operations, L holds where they end. -/
def Heads (P : Program) (md : Region.Mode) (ops : Array Oper) (C : World → Prop) (n : Nat) (L : Array Bool → Act → Prop) : Nat → Array Bool → Act → Prop
  | 0, listed, a => L listed a
  | f + 1, listed, a => Region.ready md ops listed ≠ [] ∧ ∀ i ∈ Region.ready md ops listed, i < n ∧ qOp P ops C i (Heads P md ops C n L f (listed.setIfInBounds i true)) a

theorem Heads.any {n g : Nat} {L : Array Bool → Act → Prop} {Q : Exit → Act → World → Prop} (hL : ∀ listed a w, C w → L listed a → wpAny P md ops Q g listed a w) :
    ∀ (f : Nat) (listed : Array Bool) (a : Act) (w : World), C w → Heads P md ops C n L f listed a → wpAny P md ops Q (f + g) listed a w
  | 0, _, _, _, hw, h => by rw [Nat.zero_add]; exact hL _ _ _ hw h
  | f + 1, _, _, _, hw, h => by
    rw [Nat.add_right_comm]
    exact ⟨fun e => absurd e h.1, fun i hi => wpOp_of_qOp hw (fun a' w' hw' h' => Heads.any hL f _ a' w' hw' h') (h.2 i hi).2⟩

theorem Heads.first {n i : Nat} {oi : Oper} {v : Value} {L : Array Bool → Act → Prop} (hi : ops[i]? = some oi) (hsel : ∀ (j : Nat) (o : Oper) cs b, ops[j]? = some o → o.op ≠ .select cs b)
    (hs : Region.sinkB md ops n = true) (hc : Region.chainB md ops n = true) (hn : n < ops.size) (hin : i < n) (hdone : ∀ listed a, L listed a → ∀ j ∈ Region.ready md ops listed, n ≤ j) (f : Nat) :
    ∀ (listed : Array Bool) (a : Act), HeadInv md ops n listed →
      (∀ j oj, ops[j]? = some oj → j ≠ i → listed.getD j true = false → (∀ e ∈ oj.after, Region.binds md e = true → e.on ≠ i) → oi.apart ops oj = true) →
      i ∈ Region.ready md ops listed → YieldsIn P ops C oi v a → Heads P md ops C n L f (listed.setIfInBounds i true) (a.put oi.dst v) → Heads P md ops C n L (f + 1) listed a := by
  have low : ∀ listed, HeadInv md ops n listed → listed.getD i true = false → ∀ j ∈ Region.ready md ops listed, j < n := fun listed inv hun j hj =>
    (Nat.lt_or_ge j n).elim id fun h => absurd hj (tail_waits hs hc hn inv _ i rfl hin hun j h)
  induction f with
  | zero =>
    intro listed a inv _ hr hy H
    refine ⟨List.ne_nil_of_mem hr, fun j hj => ⟨low listed inv (mem_ready.1 hr).1 j hj, ?_⟩⟩
    by_cases e : j = i
    · subst e; exact hy.qOp hi H
    · exact absurd (hdone _ _ H j (ready_mono hj e)) (by have := low listed inv (mem_ready.1 hr).1 j hj; omega)
  | succ f ih =>
    intro listed a inv free hr hy H
    have hun := (mem_ready.1 hr).1
    refine ⟨List.ne_nil_of_mem hr, fun j hj => ⟨low listed inv hun j hj, ?_⟩⟩
    by_cases e : j = i
    · subst e; exact hy.qOp hi H
    · obtain ⟨jun, oj, hoj, all⟩ := mem_ready.1 hj
      have nowait : ∀ e ∈ oj.after, Region.binds md e = true → e.on ≠ i := fun e he hb eq => by
        have h1 := all e he hb
        rw [eq, getD_both hun] at h1
        cases h1
      have free' : ∀ k ok, ops[k]? = some ok → k ≠ i → (listed.setIfInBounds j true).getD k true = false → (∀ e ∈ ok.after, Region.binds md e = true → e.on ≠ i) → oi.apart ops ok = true := fun k ok hk hki kun hno => by
        by_cases ejk : j = k
        · subst ejk; exact free j ok hk hki jun hno
        · rw [getD_set_ne true ejk] at kun; exact free k ok hk hki kun hno
      have step := qOp_put hoj (free j oj hoj e jun nowait) (fun cs b => hsel i oi cs b hi) (fun cs b => hsel j oj cs b hoj) hy (H.2 j (ready_mono hj e)).2
      refine qOp_mono (fun a' h3 => ih _ a' (inv.set hj (low listed inv hun j hj)) free' (ready_mono hr (Ne.symm e)) h3.1 ?_) step
      rw [Array.setIfInBounds_comm _ _ e]
      exact h3.2

theorem Heads.lex {n g : Nat} {Lq : Act → Prop} (hsel : Region.noSelect ops = true) (hs : Region.sinkB md ops n = true) (hc : Region.chainB md ops n = true) (hn : n < ops.size) :
    ∀ (l : List Oper) (k : Nat) (listed : Array Bool) (a : Act), (∀ j, j < l.length → l[j]? = ops[k + j]?) → k + l.length = n → HeadInv md ops n listed →
    Region.lexHead md ops g l.length k listed = true → wpQuiet P ops C Lq l a → Heads P md ops C n (fun listed' a' => Region.seqB md ops g n listed' = true ∧ Lq a') l.length listed a
  | [], k, listed, a, _, hk, _, hB, h => by
    obtain rfl : k = n := by simpa using hk
    exact ⟨by simpa [Region.lexHead] using hB, h⟩
  | o :: l, k, listed, a, hl, hk, inv, hB, h => by
    have h0 : ops[k]? = some o := by simpa using (hl 0 (by simp)).symm
    simp only [List.length_cons, Region.lexHead, Bool.and_eq_true] at hB
    obtain ⟨⟨hr, hf⟩, hB'⟩ := hB
    have hkn : k < n := by simp only [List.length_cons] at hk; omega
    have hr' : k ∈ Region.ready md ops listed := by simpa using hr
    have hq : qOp P ops C k (wpQuiet P ops C Lq l) a := by unfold qOp; simp only [h0]; exact h
    obtain ⟨v, hy, hK⟩ := yieldsIn_of_qOp h0 hq
    refine Heads.first h0 (Region.noSelect_spec hsel) hs hc hn hkn (fun _ _ hL => seqB_ready hL.1) l.length listed a inv (Region.free_spec h0 hf) hr' hy ?_
    exact Heads.lex hsel hs hc hn l (k + 1) _ _ (fun j hj => by have := hl (j + 1) (by simp; omega); simpa [Nat.add_assoc, Nat.add_comm 1 j] using this) (by simp only [List.length_cons] at hk; omega) (inv.set hr' hkn) hB' hK

theorem region_quiet_tail {id : Nat} {Q : Exit → Act → World → Prop} {a : Act} {w : World} {l : List Oper} (n : Nat) (hm : P.follows .mixedOrders = true) (hB : Region.lexTailB .any l.toArray n = true) (hC : C w.drew)
    (h : wpQuiet P l.toArray C (fun a' => ∀ w', C w' → wpList P l.toArray Q (l.drop n) a' w') (l.take n) a) : (Code.region id l.toArray true).wp P Q a w := by
  simp only [Region.lexTailB, Bool.and_eq_true, decide_eq_true_eq] at hB
  obtain ⟨⟨⟨⟨hsel, hn⟩, hs⟩, hc⟩, hlex⟩ := hB
  have hn' : n < l.length := by simpa using hn
  have tk : (l.take n).length = n := by simp; omega
  have dk : (l.drop n).length = l.toArray.size - n := by simp
  have inv0 : HeadInv .any l.toArray n (Array.replicate l.toArray.size false) :=
    ⟨by simp, fun j oj _ hl => (by rw [getD_replicate_false] at hl; cases hl), fun t _ ht => getD_in (by simpa using ht) (getD_replicate_false _ _)⟩
  have H := Heads.lex (md := .any) (g := l.toArray.size - n) hsel hs hc hn (l.take n) 0 _ a (fun j hj => by
    have hj' : j < n := by rw [tk] at hj; exact hj
    simp [hj']) (by simpa using tk) inv0 (by rw [tk]; exact hlex) h
  refine wp_region_any hm ?_
  have G := Heads.any (Q := Q) (g := l.toArray.size - n) (fun listed a' w' hw' hL => by
    have := wpAny_of_seq (md := .any) (Q' := Q) (l.drop n) n listed a' w' (fun j => by simp [List.getElem?_drop]) (by rw [dk]; exact hL.1) (hL.2 w' hw')
    rwa [dk] at this) _ _ _ w.drew hC H
  rw [tk, show n + (l.toArray.size - n) = l.toArray.size by omega] at G
  exact G
/-- .. over the class of the worlds with more blocks. -/
theorem region_gx_tail {id : Nat} {Q : Exit → Act → World → Prop} {a : Act} {w : World} {y : Ext} {l : List Oper} (n : Nat) (hm : P.follows .mixedOrders = true) (hB : Region.lexTailB .any l.toArray n = true)
    (h : wpQuiet P l.toArray (fun w' => ∃ x, w' = gx w x) (fun a' => ∀ w', (∃ x, w' = gx w x) → wpList P l.toArray Q (l.drop n) a' w') (l.take n) a) : (Code.region id l.toArray true).wp P Q a (gx w y) :=
  region_quiet_tail n hm hB (Gx.drew ⟨y, rfl⟩) h
end
theorem At.self {w : World} {g : Nat} {cs : Array Value} {t : TypeId} (h : At w g (.cells cs t (0, 0))) : w.setRow g cs = w := by
  have hh : (w.setRow g cs).heap = w.heap := by
    simp only [World.setRow]
    apply Array.ext_getElem?
    intro i
    rw [Array.getElem?_modify]
    by_cases hi : g = i
    · subst hi
      unfold At at h
      rw [if_pos rfl, h]; rfl
    · rw [if_neg hi]
  obtain ⟨hp, tp, dr, os, out⟩ := w
  simp only [World.setRow] at hh ⊢
  rw [hh]

theorem At.app {w : World} {g : Nat} {o : Obj} {x y : Ext} (h : At (Go.Proofs.Ytfbhjgaiejjfaaa.gx w x) g o) : At (Go.Proofs.Ytfbhjgaiejjfaaa.gx w (x.app y)) g o := by rw [← gx_gx]; exact h.gx
theorem At.tick {w : World} {g : Nat} {o : Obj} {x : Ext} {n : Nat} (h : At (Go.Proofs.Ytfbhjgaiejjfaaa.gx w x) g o) : At (Go.Proofs.Ytfbhjgaiejjfaaa.gx w (x.tick n)) g o := by rw [← drewN_gx]; exact h
theorem region_w_tail {P : Program} {id : Nat} {Q : Exit → Act → World → Prop} {a : Act} {w : World} {l : List Oper} (n : Nat) (hm : P.follows .mixedOrders = true) (hB : Region.lexTailB .any l.toArray n = true)
    (h : wpQuiet P l.toArray (fun w' => ∃ x, w' = gx w x) (fun a' => ∀ w', (∃ x, w' = gx w x) → wpList P l.toArray Q (l.drop n) a' w') (l.take n) a) : (Code.region id l.toArray true).wp P Q a w :=
  region_quiet_tail n hm hB (Gx.drew (Gx.refl w)) h

/-- A slice of the call's own memory (blocks from b on), with n elements of the type e, whose cells are xs. -/
@[irreducible] def Own (b : Nat) (W : World) (e : TypeId) (size : Nat) (v : Value) (n : Nat) (xs : List Value) : Prop := W.ownsRow b e size v n xs

section
variable {b : Nat} {W : World} {e : TypeId} {size : Nat} {v : Value} {n : Nat} {xs : List Value}
theorem Own.out (h : Own b W e size v n xs) : W.ownsRow b e size v n xs := by unfold Own at h; exact h
theorem Own.mk' (h : W.ownsRow b e size v n xs) : Own b W e size v n xs := by unfold Own; exact h
theorem Own.len (h : Own b W e size v n xs) : xs.length = n * size := h.out.1
theorem Own.nil (b : Nat) (W : World) (e : TypeId) (size : Nat) : Own b W e size (.slice none 0 0) 0 [] := Own.mk' (World.ownsRow_nil W b e size)
theorem Own.kept {W' : World} {row : Option Nat} (h : Own b W e size v n xs) (hg : W.grownBy W' row) (hne : v.ownBlock = none ∨ v.ownBlock ≠ row) : Own b W' e size v n xs := Own.mk' (h.out.kept hg hne)
theorem grown_gx (W : World) (x : Ext) : W.grownBy (gx W x) (some W.heap.size) := ⟨rfl, rfl, rfl, by rw [size_gx]; omega, fun k hk _ => heap_gx W x k hk⟩
theorem Own.lt (h : Own b W e size v n xs) : ∀ k, v.ownBlock = some k → b ≤ k ∧ k < W.heap.size := h.out.lt
theorem Own.gx {x : Ext} (h : Own b W e size v n xs) : Own b (gx W x) e size v n xs :=
  h.kept (grown_gx W x) (.inr fun e => by have := h.lt _ e; omega)
theorem Own.alloc {o : Obj} (h : Own b W e size v n xs) : Own b (W.alloc o) e size v n xs := by rw [alloc_is]; exact h.gx
theorem Own.drew (h : Own b W e size v n xs) : Own b W.drew e size v n xs := by rw [drew_is]; exact h.gx
theorem Own.drewN {k : Nat} (h : Own b W e size v n xs) : Own b (W.drewN k) e size v n xs := by rw [drewN_is]; exact h.gx
theorem Own.app {x y : Ext} (h : Own b (Go.Proofs.Ytfbhjgaiejjfaaa.gx W x) e size v n xs) : Own b (Go.Proofs.Ytfbhjgaiejjfaaa.gx W (x.app y)) e size v n xs := by rw [← gx_gx]; exact h.gx
theorem Own.tick {x : Ext} {k : Nat} (h : Own b (Go.Proofs.Ytfbhjgaiejjfaaa.gx W x) e size v n xs) : Own b (Go.Proofs.Ytfbhjgaiejjfaaa.gx W (x.tick k)) e size v n xs := by rw [← drewN_gx]; exact h.drewN
theorem Own.row {g : Nat} {cs : Array Value} (h : Own b W e size v n xs) (hg : g < b) : Own b (W.setRow g cs) e size v n xs := by
  refine h.kept (row := some g) ⟨rfl, rfl, rfl, by simp, fun k _ hk => setRow_other W g k _ (fun e => hk (by rw [e]))⟩ (.inr fun e => ?_)
  have := h.lt _ e; omega
theorem Own.base {b' : Nat} (h : Own b W e size v n xs) (hb : b' ≤ b) : Own b' W e size v n xs := by
  have h' := h.out
  refine Own.mk' ⟨h'.1, h'.2.imp id ?_⟩
  rintro ⟨g, cap, cur, e1, e2, r⟩
  exact ⟨g, cap, cur, e1, by omega, r⟩
/-- The cells that a slice shows. -/
@[irreducible] def Shows (xs : List Value) (A : Option Addr) (w : World) : Prop := 0 < xs.length → ∃ g o, A = some ⟨g, o, none⟩ ∧ ∀ j u, xs[j]? = some u → w.cell? ⟨g, o + j, none⟩ = some u
/-- What an own slice is. -/
theorem Own.is (h : Own b W e size v n xs) : ∃ A c, v = .slice A n c ∧ n ≤ c ∧ c ≤ maxLen ∧ (A = none → n = 0) ∧ Shows xs A W := by
  have h' := h.out
  rcases h'.2 with ⟨rfl, rfl⟩ | ⟨g, cap, cur, rfl, hb, hg, hnc, hcm, hcs, htake⟩
  · exact ⟨none, 0, rfl, Nat.le_refl _, Nat.zero_le _, fun _ => rfl, by unfold Shows; intro h0; have := h'.1; omega⟩
  · refine ⟨_, cap, rfl, hnc, hcm, (fun h => by cases h), ?_⟩
    unfold Shows
    intro _
    refine ⟨g, 0, rfl, fun j u hu => ?_⟩
    have hj : j < n * size := by rw [← h'.1]; exact (List.getElem?_eq_some_iff.1 hu).1
    rw [Nat.zero_add, h'.cellAt j hj, hu]
theorem Shows.gx {A : Option Addr} {w : World} {x : Ext} (h : Shows xs A w) : Shows xs A (Go.Proofs.Ytfbhjgaiejjfaaa.gx w x) := by
  unfold Shows at *
  intro h0
  obtain ⟨g, o, e1, hc⟩ := h h0
  exact ⟨g, o, e1, fun j u hu => cell_keep_gx (hc j u hu)⟩
theorem Shows.alloc {A : Option Addr} {w : World} {o : Obj} (h : Shows xs A w) : Shows xs A (w.alloc o) := by rw [alloc_is]; exact h.gx
theorem Shows.drew {A : Option Addr} {w : World} (h : Shows xs A w) : Shows xs A w.drew := by rw [drew_is]; exact h.gx
theorem Shows.app {A : Option Addr} {w : World} {x y : Ext} (h : Shows xs A (Go.Proofs.Ytfbhjgaiejjfaaa.gx w x)) : Shows xs A (Go.Proofs.Ytfbhjgaiejjfaaa.gx w (x.app y)) := by rw [← gx_gx]; exact h.gx
theorem Shows.tick {A : Option Addr} {w : World} {x : Ext} {k : Nat} (h : Shows xs A (Go.Proofs.Ytfbhjgaiejjfaaa.gx w x)) : Shows xs A (Go.Proofs.Ytfbhjgaiejjfaaa.gx w (x.tick k)) := by
  rw [← drewN_gx, drewN_is]; exact h.gx
/-- .. of a whole block. -/
theorem Shows.of_at {w : World} {g : Nat} {C : Array Value} {t : TypeId} {fr : Nat × Nat} (hA : w.heap[g]? = some (.cells C t fr)) {o : Nat} (h : ∀ j u, xs[j]? = some u → C[o + j]? = some u) : Shows xs (some ⟨g, o, none⟩) w := by
  unfold Shows
  intro _
  refine ⟨g, o, rfl, fun j u hu => ?_⟩
  rw [cell_of_row w g _ _ _ _ hA, h j u hu]
end

theorem Shows.whole {w : World} {g : Nat} {xs : List Value} {t : TypeId} (hA : At w g (.cells xs.toArray t (0, 0))) : Shows xs (some ⟨g, 0, none⟩) w :=
  Shows.of_at hA fun j u hu => by simpa using hu

theorem gx_of_grown {w W W' : World} {row : Option Nat} (hW : ∃ x, W = gx w x) (hg : W.grownBy W' row) (hrow : ∀ k, row = some k → w.heap.size ≤ k) : ∃ x, W' = gx w x := by
  obtain ⟨x, rfl⟩ := hW
  refine gx_of_below ⟨hg.os, hg.tape, hg.output, by have := hg.size; simp at this; omega, fun k hk => ?_⟩
  rw [hg.block k (by simp; omega) (fun e => by have := hrow k e.symm; omega)]
  exact heap_gx w x k hk


theorem Gx.trans {w w1 w2 : World} (h : ∃ x, w2 = Go.Proofs.Ytfbhjgaiejjfaaa.gx w1 x) (h' : ∃ x, w1 = Go.Proofs.Ytfbhjgaiejjfaaa.gx w x) : ∃ x, w2 = Go.Proofs.Ytfbhjgaiejjfaaa.gx w x := by
  obtain ⟨x, rfl⟩ := h'
  obtain ⟨y, rfl⟩ := h
  exact ⟨_, gx_gx _ _ _⟩
theorem Gx.one {w : World} {o : Obj} : ∃ x, w.alloc o = Go.Proofs.Ytfbhjgaiejjfaaa.gx w x := ⟨_, alloc_is _ _⟩

/-- A type of elements, as append wants it: its slice type, how many cells an element has, and how many bytes. -/
structure Elem (t e : TypeId) (size bytes : Nat) : Prop where
  under : Try.prog.underlying t = some (.slice e)
  pos : 0 < size
  info : ∃ (i : TypeInfo) (z : Value), Try.prog.info? e = some i ∧ i.zero = some z ∧ i.size = size ∧ i.bytes = bytes ∧ z.cells.size = size
theorem elem_of {t e : TypeId} {size bytes : Nat} {z : Value} (ht : Try.prog.underlying t = some (.slice e)) (hp : 0 < size) (h : (Try.prog.info? e).map (fun i => (i.zero, i.size, i.bytes)) = some (some z, size, bytes)) (hz : z.cells.size = size) : Elem t e size bytes := by
  obtain ⟨i, h1, h2⟩ := Option.map_eq_some_iff.1 h
  simp only [Prod.mk.injEq] at h2
  exact ⟨ht, hp, i, z, h1, h2.1, h2.2.1, h2.2.2, hz⟩

/-- Elements appended to an own slice. -/
theorem append_el {t e : TypeId} {size bytes : Nat} (hE : Elem t e size bytes) {ops : Array Oper} {rest : List Oper} {o : Oper} {a : Act} {Q : Exit → Act → World → Prop} {W : World} (w : World) (b : Nat) (hgd : o.guard = none) (s x : Operand)
    (ho : o.op = .call { callee := .builtin .append, args := #[s, x], argTypes := #[t, t] }) (v : Value) (n : Nat) (xs : List Value) (hs : a.eval s = v) (A : Option Addr) (m c : Nat) (news : List Value) (hx : a.eval x = .slice A m c)
    (hb : w.heap.size ≤ b) (hown : Own b W e size v n xs) (hW : ∃ x, W = gx w x) (hbW : b ≤ W.heap.size) (hl : news.length = m * size) (hN : A = none → m = 0 ∧ c = 0) (hnews : Shows news A W) (h1 : ∀ u ∈ news, u.oneCell' = true) (h63 : n + m ≤ maxLen) (hbytes : (n + m) * bytes ≤ 140737488355328)
    (h : ∀ v' W', (∃ x, W' = gx w x) → Own b W' e size v' (n + m) (xs ++ news) → W.grownBy W' v.ownBlock → wpList Try.prog ops Q rest (a.put o.dst v') W') : wpList Try.prog ops Q (o :: rest) a W := by
  obtain ⟨ht, hp, i, z, hi, hz, hsize, hby, hzs⟩ := hE
  have own := hown.out
  have gxw : ∀ W' , W.grownBy W' v.ownBlock → ∃ x, W' = gx w x := fun W' hg => gx_of_grown hW hg fun k hk => by have := hown.lt k hk; omega
  cases A with
  | none =>
    obtain ⟨rfl, rfl⟩ := hN rfl
    have hn : news = [] := List.eq_nil_of_length_eq_zero (by simpa using hl)
    subst hn
    refine wpList_plain hgd fun K hK => ?_
    have hr := run_append_owned_none (P := Try.prog) W b t o.type e i size ht hi v n xs own
    unfold Oper.wp execOp
    simp only [ho, resolve, invoke, builtin, Sem.run_bind, Sem.run_pure, Result.andThen_ok, List.map_toArray, List.map_cons, List.map_nil, hs, hx, hr]
    exact hK _ _ (h v W hW (by simpa using hown) ⟨rfl, rfl, rfl, Nat.le_refl _, fun _ _ _ => rfl⟩)
  | some ad =>
    refine wpList_append_own W hgd s x t ho b e i z size bytes ht hi hz hsize hby hzs hp v n xs hs own ad m c news hx hl ?_ h1 h63 hbytes hbW fun v' W' h2 h3 _ => h v' W' (gxw W' h3) (Own.mk' h2) h3
    intro j u hu
    unfold Shows at hnews
    obtain ⟨g, o', e1, hc⟩ := hnews (by have := (List.getElem?_eq_some_iff.1 hu).1; omega)
    obtain rfl := Option.some.inj e1
    rw [Addr.add_lit]
    exact hc j u hu
/-- .. elements that the call has just made. -/
theorem append_new {t e : TypeId} {size bytes : Nat} (hE : Elem t e size bytes) {ops : Array Oper} {rest : List Oper} {o : Oper} {a : Act} {Q : Exit → Act → World → Prop} {W : World} (w : World) (b : Nat) {s x : Operand} {v : Value} {n : Nat} {xs : List Value} {g m : Nat} {news : List Value}
    (ho : o.op = .call { callee := .builtin .append, args := #[s, x], argTypes := #[t, t] }) (hgd : o.guard = none) (hs : a.eval s = v) (hx : a.eval x = .slice (some ⟨g, 0, none⟩) m m)
    (hb : w.heap.size ≤ b) (hown : Own b W e size v n xs) (hW : ∃ x, W = gx w x) (hbW : b ≤ W.heap.size) (hl : news.length = m * size) (hnews : Shows news (some ⟨g, 0, none⟩) W) (h1 : ∀ u ∈ news, u.oneCell' = true) (h63 : n + m ≤ maxLen) (hbytes : (n + m) * bytes ≤ 140737488355328)
    (h : ∀ v' W', (∃ x, W' = gx w x) → Own b W' e size v' (n + m) (xs ++ news) → W.grownBy W' v.ownBlock → wpList Try.prog ops Q rest (a.put o.dst v') W') : wpList Try.prog ops Q (o :: rest) a W :=
  append_el hE w b hgd s x ho v n xs hs (some ⟨g, 0, none⟩) m m news hx hb hown hW hbW hl (fun h => by cases h) hnews h1 h63 hbytes h
/-- .. the elements of a slice that is shown. -/
theorem append_all {t e : TypeId} {size bytes : Nat} (hE : Elem t e size bytes) {ops : Array Oper} {rest : List Oper} {o : Oper} {a : Act} {Q : Exit → Act → World → Prop} {W : World} (w : World) (b : Nat) {s x : Operand} {v : Value} {n : Nat} {xs : List Value} {A : Option Addr} {m c : Nat} {news : List Value}
    (ho : o.op = .call { callee := .builtin .append, args := #[s, x], argTypes := #[t, t] }) (hgd : o.guard = none) (hs : a.eval s = v) (hx : a.eval x = .slice A m c) (hN : A = none → m = 0 ∧ c = 0)
    (hb : w.heap.size ≤ b) (hown : Own b W e size v n xs) (hW : ∃ x, W = gx w x) (hbW : b ≤ W.heap.size) (hl : news.length = m * size) (hnews : Shows news A W) (h1 : ∀ u ∈ news, u.oneCell' = true) (h63 : n + m ≤ maxLen) (hbytes : (n + m) * bytes ≤ 140737488355328)
    (h : ∀ v' W', (∃ x, W' = gx w x) → Own b W' e size v' (n + m) (xs ++ news) → W.grownBy W' v.ownBlock → wpList Try.prog ops Q rest (a.put o.dst v') W') : wpList Try.prog ops Q (o :: rest) a W :=
  append_el hE w b hgd s x ho v n xs hs A m c news hx hb hown hW hbW hl hN hnews h1 h63 hbytes h
theorem own_ret {w W : World} {e : TypeId} {size : Nat} {v : Value} {n : Nat} {xs : List Value} {b : Nat} (hW : ∃ x, W = gx w x) (hb : w.heap.size ≤ b) (h : Own b W e size v n xs) : ∃ v' x, Ending.returned v = .returned v' ∧ W = gx w x ∧ Own w.heap.size (gx w x) e size v' n xs := by
  obtain ⟨x, rfl⟩ := hW
  exact ⟨v, x, rfl, rfl, h.base hb⟩
theorem Own.nilc {b : Nat} {W : World} {e : TypeId} {size : Nat} {A : Option Addr} {n c : Nat} {xs : List Value} (h : Own b W e size (.slice A n c) n xs) : A = none → n = 0 ∧ c = 0 := by
  rintro rfl
  rcases h.out.2 with ⟨e, rfl⟩ | ⟨g, cap, cur, e, _⟩
  · simp at e; exact ⟨rfl, e⟩
  · simp at e
/-- Elements that the call has just made, appended to an own slice: a step of a region that draws its order. -/
theorem step_append_own {t e : TypeId} {size bytes : Nat} (hE : Elem t e size bytes) {ops : Array Oper} {o : Oper} {a : Act} {K : Act → World → Prop} {Q : Exit → Act → World → Prop} {E' : Prop} {W : World} (w : World) (b : Nat) {s x : Operand} {v : Value} {n : Nat} {xs : List Value} {g m : Nat} {news : List Value}
    (ho : o.op = .call { callee := .builtin .append, args := #[s, x], argTypes := #[t, t] }) (hgd : o.guard = none) (hs : a.eval s = v) (hx : a.eval x = .slice (some ⟨g, 0, none⟩) m m)
    (hb : w.heap.size ≤ b) (hown : Own b W e size v n xs) (hW : ∃ x, W = gx w x) (hbW : b ≤ W.heap.size) (hl : news.length = m * size) (hnews : Shows news (some ⟨g, 0, none⟩) W) (h1 : ∀ u ∈ news, u.oneCell' = true) (h63 : n + m ≤ maxLen) (hbytes : (n + m) * bytes ≤ 140737488355328)
    (hm : 0 < m) (h : ∀ v' W', (∃ x, W' = gx w x) → Own b W' e size v' (n + m) (xs ++ news) → W.grownBy W' v.ownBlock → K (a.put o.dst v') W') : if Region.wanted o (yielded ops a.tmps) = true then Oper.wp Try.prog o a W K Q else E' := by
  rw [if_pos (by simp [Region.wanted, hgd])]
  obtain ⟨ht, hp, i, z, hi, hz, hsize, hby, hzs⟩ := hE
  refine wp_append_own W s x t ho b e i z size bytes ht hi hz hsize hby hzs hp v n xs hs hown.out ⟨g, 0, none⟩ m m news hx hl ?_ h1 h63 hbytes hbW fun v' W' h2 h3 _ => h v' W' (gx_of_grown hW h3 fun k hk => by have := hown.lt k hk; omega) (Own.mk' h2) h3
  intro j u hu
  unfold Shows at hnews
  obtain ⟨g', o', e1, hc⟩ := hnews (by rw [hl]; exact Nat.mul_pos hm hp)
  obtain ⟨rfl, rfl⟩ : g = g' ∧ 0 = o' := by simpa using Option.some.inj e1
  rw [Addr.add_lit]
  exact hc j u hu
theorem At.grown {W W' : World} {g : Nat} {o : Obj} {r : Option Nat} (h : At W g o) (hg : W.grownBy W' r) (hne : r ≠ some g) : At W' g o := by
  unfold At at *
  have hlt : g < W.heap.size := At.lt h
  rw [hg.block g hlt (fun e => hne e.symm)]
  exact h

theorem Ext.n_app (x y : Ext) : (x.app y).n = x.n + y.n := by unfold Ext.app Ext.n; simp


/-! An old block lies below every later size: the walk pays it by itself. -/
@[go_sem] theorem lt_more1 {a b c : Nat} (h : a < b) : (a < b + c) = True := by simp; omega
@[go_sem] theorem lt_more2 {a b c d : Nat} (h : a < b) : (a < b + c + d) = True := by simp; omega
@[go_sem] theorem lt_more3 {a b c d e : Nat} (h : a < b) : (a < b + c + d + e) = True := by simp; omega
@[go_sem] theorem lt_more4 {a b c d e f : Nat} (h : a < b) : (a < b + c + d + e + f) = True := by simp; omega
@[go_sem] theorem lt_self1 {a c : Nat} : (a < a + 1 + c) = True := by simp; omega
@[go_sem] theorem lt_self2 {a c d : Nat} : (a < a + 1 + c + d) = True := by simp; omega
@[go_sem] theorem lt_self3 {a c d e : Nat} : (a < a + 1 + c + d + e) = True := by simp; omega
@[go_sem] theorem lt_self4 {a c d e f : Nat} : (a < a + 1 + c + d + e + f) = True := by simp; omega
end Go.Proofs.Ytfbhjgaiejjfaaa
