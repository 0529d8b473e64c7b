/-
  Texts that this claim leans on, merged: Kit, PTrim, PName, PEv, SPure, SLeaf, SPureS.
-/
import Derived.Test.YtocaphcnnmcnjaaGreatDoorProg
import Derived.WalkKit
import Derived.WalkSpells
import Derived.WalkLawsBesides
import Derived.BigQuiet
import Derived.Deep.QuietTactic
import Derived.Deep.MidRow
import Derived.Deep.WholeRow
import Derived.Outline
import Derived.Lib.BitFns
import Derived.Lib.Hide
import Derived.StillTail
import Derived.Deep.Quiet
import Derived.Laws.OwnMore
import Derived.OwnWalk
import Derived.Shelf.Strings.SlTrimAscii
import Derived.LoopN
import Derived.IntWalk

/-
  The walks' own words, of no project: worlds that only grew; what lies in a block; slices of the call's own memory and what is appended to them; regions that draw their order.
-/
namespace Go.Proofs.YtocaphcnnmcnjaaGreatDoor
open Go.RowKit
-- AT2

def xorI (a b : Int) : Int := ((a.toNat ^^^ b.toNat : Nat) : Int)
/-- The word k of a frame. -/
@[irreducible] def gw (F : List Int) (k : Nat) : Int := F.getD k 0
theorem gw_set (F : List Int) (i k : Nat) (v : Int) (h : i < F.length) : gw (F.set i v) k = if k = i then v else gw F k := by
  unfold gw
  by_cases e : k = i
  · subst e; simp [List.getD, h]
  · rw [if_neg e]; simp [List.getD, Ne.symm e]
theorem ext_gw {F G : List Int} (hl : F.length = G.length) (h : ∀ k, k < F.length → gw F k = gw G k) : F = G := by
  apply List.ext_getElem hl
  intro k h1 h2
  have := h k h1
  unfold gw at this
  simpa [List.getD, List.getElem?_eq_getElem h1, List.getElem?_eq_getElem h2] using this
structure Ext where
  blocks : Array Obj
  drawn : Nat

instance : Inhabited Ext := ⟨⟨#[], 0⟩⟩
def Ext.app (x y : Ext) : Ext := ⟨x.blocks ++ y.blocks, y.drawn⟩
def Ext.tick (x : Ext) (n : Nat) : Ext := ⟨x.blocks, x.drawn + n⟩
def Ext.n (x : Ext) : Nat := x.blocks.size

/-- The world with new blocks, and with as many draws as may be. -/
def gx (w : World) (x : Ext) : World := { w with heap := w.heap ++ x.blocks, drawn := x.drawn }

section
variable (w : World) (x y : Ext)
@[go_sem] theorem gx_gx : gx (gx w x) y = gx w (x.app y) := by
  simp [gx, Ext.app, Array.append_assoc]
@[go_sem] theorem drew_gx : (gx w x).drew = gx w (x.tick 1) := by
  simp [-World.drew_eq, gx, World.drew, Ext.tick]
@[go_sem] theorem drewN_gx (n : Nat) : (gx w x).drewN n = gx w (x.tick n) := by
  simp [gx, World.drewN, Ext.tick]
@[go_sem] theorem gx_drew : gx w.drew x = gx w x := by
  simp [-World.drew_eq, gx, World.drew]
@[go_sem] theorem gx_drewN (n : Nat) : gx (w.drewN n) x = gx w x := by
  simp [gx, World.drewN]
@[simp, go_sem] theorem size_gx : (gx w x).heap.size = w.heap.size + x.n := by
  simp [gx, Ext.n]
theorem heap_gx (b : Nat) (h : b < w.heap.size) : (gx w x).heap[b]? = w.heap[b]? := by
  simp [gx, Array.getElem?_append_left h]
@[go_sem] theorem cell_gx (b o : Nat) (s : Option Nat) (h : b < w.heap.size) : (gx w x).cell? ⟨b, o, s⟩ = w.cell? ⟨b, o, s⟩ := by
  simp [World.cell?, heap_gx w x b h]
@[go_sem] theorem frozen_gx (b o : Nat) (s : Option Nat) (h : b < w.heap.size) : (gx w x).frozen? ⟨b, o, s⟩ = w.frozen? ⟨b, o, s⟩ := by
  simp [World.frozen?, heap_gx w x b h]
@[go_sem] theorem tape_gx : (gx w x).tape = w.tape := rfl
@[go_sem] theorem setCell_gx (b o : Nat) (s : Option Nat) (v : Value) (h : b < w.heap.size) : (gx w x).setCell ⟨b, o, s⟩ v = gx (w.setCell ⟨b, o, s⟩ v) x := by
  simp only [gx, World.setCell]
  congr 1
  apply Array.ext_getElem?
  intro i
  rw [Array.getElem?_modify]
  by_cases hi : b = i
  · subst hi
    rw [if_pos rfl, Array.getElem?_append_left h, Array.getElem?_append_left (by simpa using h), Array.getElem?_modify, if_pos rfl]
  · rw [if_neg hi]
    simp [Array.getElem?_append, Array.getElem?_modify, hi]
theorem alloc_is (o : Obj) : w.alloc o = gx w ⟨#[o], w.drawn⟩ := by
  simp [-World.alloc_eq, gx, World.alloc]
theorem drew_is : w.drew = gx w ⟨#[], w.drawn + 1⟩ := by simp [-World.drew_eq, gx, World.drew]
theorem drewN_is (n : Nat) : w.drewN n = gx w ⟨#[], w.drawn + n⟩ := by simp [gx, World.drewN]
theorem gx_none : gx w ⟨#[], w.drawn⟩ = w := by simp [gx]
theorem size_alloc' (o : Obj) : (w.alloc o).heap.size = w.heap.size + 1 := by simp
end

theorem gx_of_below {w w' : World} (h : Below w.heap.size w w') : ∃ x, w' = gx w x := by
  refine ⟨⟨w'.heap.extract w.heap.size w'.heap.size, w'.drawn⟩, ?_⟩
  have hh : w'.heap = w.heap ++ w'.heap.extract w.heap.size w'.heap.size := by
    apply Array.ext_getElem?
    intro i
    by_cases hi : i < w.heap.size
    · rw [Array.getElem?_append_left hi, h.block i hi]
    · rw [Array.getElem?_append_right (by omega), Array.getElem?_extract]
      have := h.size
      split
      · congr 1; omega
      · exact Array.getElem?_eq_none (by omega)
  obtain ⟨hp, tp, dr, os, out⟩ := w'
  have e1 : os = w.os := h.os
  have e2 : tp = w.tape := h.tape
  have e3 : out = w.output := h.output
  subst e1 e2 e3
  simp only [gx]
  congr 1
theorem below_gx (w : World) (x : Ext) : Below w.heap.size w (gx w x) :=
  ⟨rfl, rfl, rfl, by rw [size_gx]; omega, fun k hk => heap_gx w x k hk⟩
theorem Gx.refl (w : World) : ∃ x, w = gx w x := ⟨⟨#[], w.drawn⟩, (gx_none w).symm⟩
theorem Gx.gx {w w' : World} {y : Ext} (h : ∃ x, w' = gx w x) : ∃ x, gx w' y = gx w x := by
  obtain ⟨x, rfl⟩ := h; exact ⟨_, gx_gx _ _ _⟩
theorem Gx.alloc {w w' : World} {o : Obj} (h : ∃ x, w' = Go.Proofs.YtocaphcnnmcnjaaGreatDoor.gx w x) : ∃ x, w'.alloc o = Go.Proofs.YtocaphcnnmcnjaaGreatDoor.gx w x := by
  rw [alloc_is]; exact Gx.gx h
theorem Gx.drew {w w' : World} (h : ∃ x, w' = Go.Proofs.YtocaphcnnmcnjaaGreatDoor.gx w x) : ∃ x, w'.drew = Go.Proofs.YtocaphcnnmcnjaaGreatDoor.gx w x := by
  rw [drew_is]; exact Gx.gx h
theorem Gx.drewN {w w' : World} {n : Nat} (h : ∃ x, w' = Go.Proofs.YtocaphcnnmcnjaaGreatDoor.gx w x) : ∃ x, w'.drewN n = Go.Proofs.YtocaphcnnmcnjaaGreatDoor.gx w x := by
  rw [drewN_is]; exact Gx.gx h

/-- A region that draws its order, whose operations read and whose callees only make memory: one walk in the order of the text. -/
theorem region_gx {P : Program} {id : Nat} {Q : Exit → Act → World → Prop} {a : Act} {w : World} {l : List Oper} (hm : P.follows .mixedOrders = true) (hB : Region.lexB .any l.toArray = true)
    (h : wpQuiet P l.toArray (fun w' => ∃ x, w' = gx w x) (fun a' => ∀ w', (∃ x, w' = gx w x) → Q .normal a' w') l a) : (Code.region id l.toArray true).wp P Q a w :=
  wp_region_quiet (C := fun w' => ∃ x, w' = gx w x) hm hB ⟨_, drew_is w⟩ (by simpa using h)

/-- The same where the world has grown already. -/
theorem region_gxx {P : Program} {id : Nat} {Q : Exit → Act → World → Prop} {a : Act} {w : World} {y : Ext} {l : List Oper} (hm : P.follows .mixedOrders = true) (hB : Region.lexB .any l.toArray = true)
    (h : wpQuiet P l.toArray (fun w' => ∃ x, w' = gx w x) (fun a' => ∀ w', (∃ x, w' = gx w x) → Q .normal a' w') l a) : (Code.region id l.toArray true).wp P Q a (gx w y) :=
  wp_region_quiet (C := fun w' => ∃ x, w' = gx w x) hm hB ⟨_, drew_gx w y⟩ (by simpa using h)

theorem calls_gx {P : Program} {f : FuncId} {args : Array Value} {w : World} {x : Ext} {v : Value}
    (h : Calls P f args (gx w x) fun e w' => e = .returned v ∧ ∃ y, w' = gx (gx w x) y) : Calls P f args (gx w x) fun e w'' => e = .returned v ∧ ∃ y, w'' = gx w y :=
  h.mono fun _ _ ⟨he, y, hy⟩ => ⟨he, x.app y, by rw [hy, gx_gx]⟩
theorem calls_gx_same {P : Program} {f : FuncId} {args : Array Value} {w : World} {x : Ext} {v : Value}
    (h : Calls P f args (gx w x) fun e w' => e = .returned v ∧ gx w x = w') : Calls P f args (gx w x) fun e w'' => e = .returned v ∧ ∃ y, w'' = gx w y :=
  h.mono fun _ _ ⟨he, hy⟩ => ⟨he, x, hy.symm⟩

/-! Bits. -/
theorem wraps_u16 (n : Int) (h0 : 0 ≤ n) (h1 : n < 2 ^ 16) : IntKind.u16.wrap n = n := IntWalk.u16_in n (by omega)
theorem wraps_u32 (n : Int) (h0 : 0 ≤ n) (h1 : n < 2 ^ 32) : IntKind.u32.wrap n = n := IntWalk.u32_in n (by omega)
theorem wraps_i64 (n : Int) (h0 : 0 ≤ n) (h1 : n < 2 ^ 63) : IntKind.i64.wrap n = n := IntWalk.i64_in n (by omega)
theorem wraps_u64 (n : Int) (h0 : 0 ≤ n) (h1 : n < 2 ^ 64) : IntKind.u64.wrap n = n := IntWalk.u64_in n (by omega)
theorem bits_xor (k : IntKind) (j : Nat) (hj : j ≤ k.bits) (hk : ∀ n : Int, 0 ≤ n → n < 2 ^ j → k.wrap n = n) (a b : Int) (ha0 : 0 ≤ a) (ha : a < 2 ^ j) (hb0 : 0 ≤ b) (hb : b < 2 ^ j) :
    bits .xor k a b = xorI a b := by
  obtain ⟨a, rfl⟩ := Int.eq_ofNat_of_zero_le ha0
  obtain ⟨b, rfl⟩ := Int.eq_ofNat_of_zero_le hb0
  have ha : a < 2 ^ j := by exact_mod_cast ha
  have hb : b < 2 ^ j := by exact_mod_cast hb
  have hp : 2 ^ j ≤ 2 ^ k.bits := Nat.pow_le_pow_right (by decide) hj
  have ha' : a % 2 ^ k.bits = a := Nat.mod_eq_of_lt (Nat.lt_of_lt_of_le ha hp)
  have hb' : b % 2 ^ k.bits = b := Nat.mod_eq_of_lt (Nat.lt_of_lt_of_le hb hp)
  have cast : ∀ n : Nat, n < 2 ^ j → ((n : Nat) : Int) < 2 ^ j := fun n h => by exact_mod_cast h
  simp only [bits, BitVec.ofInt_natCast, BitVec.toNat_xor, BitVec.toNat_ofNat, ha', hb', xorI, Int.toNat_natCast]
  exact hk _ (Int.natCast_nonneg _) (cast _ (Nat.xor_lt_two_pow ha hb))
theorem u16_and255 (a : Int) (h0 : 0 ≤ a) (h1 : a ≤ 65535) : bits .and .u16 a 255 = a % 256 := bits_mask .u16 16 (by decide) wraps_u16 8 (by decide) a h0 (by omega)
theorem u16_and15 (a : Int) (h0 : 0 ≤ a) (h1 : a ≤ 65535) : bits .and .u16 a 15 = a % 16 := bits_mask .u16 16 (by decide) wraps_u16 4 (by decide) a h0 (by omega)
theorem u16_or2048 (a : Int) (h0 : 0 ≤ a) (h1 : a ≤ 2047) : bits .or .u16 a 2048 = a + 2048 := by
  have e := bits_join .u16 16 (by decide) wraps_u16 11 2048 a (by decide) (by decide) (by decide) h0 (by omega) (by omega)
  have c : bits .or .u16 a 2048 = bits .or .u16 2048 a := by simp only [bits]; rw [BitVec.or_comm]
  rw [c, e]; omega

/-- What lies in a block. -/
def At (w : World) (g : Nat) (o : Obj) : Prop := w.heap[g]? = some o
theorem At.lt {w : World} {g : Nat} {o : Obj} (h : At w g o) : g < w.heap.size := by
  rcases Nat.lt_or_ge g w.heap.size with hlt | hge
  · exact hlt
  · unfold At at h; rw [Array.getElem?_eq_none hge] at h; cases h
theorem At.gx {w : World} {g : Nat} {o : Obj} {x : Ext} (h : At w g o) : At (gx w x) g o := (heap_gx w x g h.lt).trans h
theorem At.drew {w : World} {g : Nat} {o : Obj} (h : At w g o) : At w.drew g o := h
theorem At.new (w : World) (o : Obj) : At (w.alloc o) w.heap.size o := heap_alloc_new w o
theorem At.new' {w : World} {g : Nat} {o : Obj} (e : g = w.heap.size) : At (w.alloc o) g o := by subst e; exact At.new w o
theorem At.alloc {w : World} {g : Nat} {o o' : Obj} (h : At w g o) : At (w.alloc o') g o := (Below.heap_alloc w o' g h.lt).trans h
/-- Cells of a type lie in a block. -/
def Is (w : World) (g : Nat) (t : TypeId) : Prop := ∃ cs, At w g (.cells cs t (0, 0))
theorem Is.gx {w : World} {g : Nat} {t : TypeId} {x : Ext} (h : Is w g t) : Is (Go.Proofs.YtocaphcnnmcnjaaGreatDoor.gx w x) g t := ⟨_, h.choose_spec.gx⟩
theorem Is.drew {w : World} {g : Nat} {t : TypeId} (h : Is w g t) : Is w.drew g t := h
theorem Is.new (w : World) (cs : Array Value) (t : TypeId) : Is (w.alloc (.cells cs t)) w.heap.size t := ⟨_, At.new _ _⟩
theorem Is.new' {w : World} {g : Nat} {cs : Array Value} {t : TypeId} (e : g = w.heap.size) : Is (w.alloc (.cells cs t)) g t := ⟨_, At.new' e⟩
theorem Is.alloc {w : World} {g : Nat} {t : TypeId} {o : Obj} (h : Is w g t) : Is (w.alloc o) g t := ⟨_, h.choose_spec.alloc⟩
theorem At.row {w : World} {g : Nat} {cs' : Array Value} {t : TypeId} (h : Is w g t) : At (w.setRow g cs') g (.cells cs' t (0, 0)) := setRow_heap w g _ cs' t _ h.choose_spec
theorem Is.row {w : World} {g : Nat} {cs' : Array Value} {t : TypeId} (h : Is w g t) : Is (w.setRow g cs') g t := ⟨_, At.row h⟩
theorem At.row_other {w : World} {g g' : Nat} {o : Obj} {cs' : Array Value} (h : At w g o) (hne : g ≠ g') : At (w.setRow g' cs') g o := (setRow_other w g' g cs' hne).trans h

@[go_sem] theorem setRow_gx (w : World) (x : Ext) (g : Nat) (cs : Array Value) (h : g < w.heap.size) : (gx w x).setRow g cs = gx (w.setRow g cs) x := by
  simp only [Go.Proofs.YtocaphcnnmcnjaaGreatDoor.gx, World.setRow]
  congr 1
  apply Array.ext_getElem?
  intro i
  rw [Array.getElem?_modify]
  by_cases hi : g = i
  · subst hi
    rw [if_pos rfl, Array.getElem?_append_left h, Array.getElem?_append_left (by simpa using h), Array.getElem?_modify, if_pos rfl]
  · rw [if_neg hi]
    simp [Array.getElem?_append, Array.getElem?_modify, hi]
@[go_sem] theorem setRow_alloc_at (w : World) (c c' : Array Value) (t : TypeId) (f : Nat × Nat) (g : Nat) (h : g = w.heap.size) : (w.alloc (.cells c t f)).setRow g c' = w.alloc (.cells c' t f) := by
  subst h
  simp only [World.setRow, World.alloc]
  congr 1
  apply Array.ext_getElem?
  intro i
  rw [Array.getElem?_modify]
  by_cases h : w.heap.size = i
  · subst h
    simp
  · have h' : ¬ i = w.heap.size := fun e => h e.symm
    simp [h, h', Array.getElem?_push]
@[go_sem] theorem setRow_alloc_past (w : World) (o : Obj) (g : Nat) (c' : Array Value) (h : g < w.heap.size) : (w.alloc o).setRow g c' = (w.setRow g c').alloc o := by
  rw [alloc_is, alloc_is, setRow_gx w _ g c' h]; rfl

theorem modify_append_right {α : Type} (a b : Array α) (g : Nat) (f : α → α) (h : a.size ≤ g) : (a ++ b).modify g f = a ++ b.modify (g - a.size) f := by
  apply Array.ext_getElem?
  intro i
  rw [Array.getElem?_modify]
  by_cases hi : i < a.size
  · rw [if_neg (by omega), Array.getElem?_append_left hi, Array.getElem?_append_left hi]
  · rw [Array.getElem?_append_right (by omega), Array.getElem?_append_right (by omega), Array.getElem?_modify]
    by_cases e : g = i
    · subst e; rw [if_pos rfl, if_pos rfl]
    · rw [if_neg e, if_neg (by omega)]
theorem Gx.setRow {w w' : World} {g : Nat} {c : Array Value} (h : ∃ x, w' = Go.Proofs.YtocaphcnnmcnjaaGreatDoor.gx w x) (hg : w.heap.size ≤ g) : ∃ x, w'.setRow g c = Go.Proofs.YtocaphcnnmcnjaaGreatDoor.gx w x := by
  obtain ⟨x, rfl⟩ := h
  refine ⟨⟨x.blocks.modify (g - w.heap.size) (fun | .cells _ elem frozen => .cells c elem frozen | o => o), x.drawn⟩, ?_⟩
  simp only [Go.Proofs.YtocaphcnnmcnjaaGreatDoor.gx, World.setRow]
  rw [modify_append_right _ _ _ _ hg]
  rfl
theorem Gx.setCell {w w' : World} {g o : Nat} {s : Option Nat} {v : Value} (h : ∃ x, w' = Go.Proofs.YtocaphcnnmcnjaaGreatDoor.gx w x) (hg : w.heap.size ≤ g) : ∃ x, w'.setCell ⟨g, o, s⟩ v = Go.Proofs.YtocaphcnnmcnjaaGreatDoor.gx w x := by
  obtain ⟨x, rfl⟩ := h
  simp only [Go.Proofs.YtocaphcnnmcnjaaGreatDoor.gx, World.setCell]
  rw [modify_append_right _ _ _ _ hg]
  exact ⟨⟨_, x.drawn⟩, rfl⟩
theorem cell_keep_gx {w : World} {b o : Nat} {s : Option Nat} {v : Value} {x : Ext} (h : w.cell? ⟨b, o, s⟩ = some v) : (gx w x).cell? ⟨b, o, s⟩ = some v :=
  (cell_gx w x b o s (World.block_lt_of_cell? w _ h)).trans h
theorem cell_keep_alloc {w : World} {b o : Nat} {s : Option Nat} {v : Value} {ob : Obj} (h : w.cell? ⟨b, o, s⟩ = some v) : (w.alloc ob).cell? ⟨b, o, s⟩ = some v := by
  rw [alloc_is]; exact cell_keep_gx h

section
open Go
variable {P : Program} {ops : Array Oper} {md : Region.Mode} {C : World → Prop}

/-- Whatever order is picked of the first n operations, L holds where they end. -/
def Heads (P : Program) (md : Region.Mode) (ops : Array Oper) (C : World → Prop) (n : Nat) (L : Array Bool → Act → Prop) : Nat → Array Bool → Act → Prop
  | 0, listed, a => L listed a
  | f + 1, listed, a => Region.ready md ops listed ≠ [] ∧ ∀ i ∈ Region.ready md ops listed, i < n ∧ qOp P ops C i (Heads P md ops C n L f (listed.setIfInBounds i true)) a

theorem Heads.any {n g : Nat} {L : Array Bool → Act → Prop} {Q : Exit → Act → World → Prop} (hL : ∀ listed a w, C w → L listed a → wpAny P md ops Q g listed a w) :
    ∀ (f : Nat) (listed : Array Bool) (a : Act) (w : World), C w → Heads P md ops C n L f listed a → wpAny P md ops Q (f + g) listed a w
  | 0, _, _, _, hw, h => by rw [Nat.zero_add]; exact hL _ _ _ hw h
  | f + 1, _, _, _, hw, h => by
    rw [Nat.add_right_comm]
    exact ⟨fun e => absurd e h.1, fun i hi => wpOp_of_qOp hw (fun a' w' hw' h' => Heads.any hL f _ a' w' hw' h') (h.2 i hi).2⟩

theorem Heads.first {n i : Nat} {oi : Oper} {v : Value} {L : Array Bool → Act → Prop} (hi : ops[i]? = some oi) (hsel : ∀ (j : Nat) (o : Oper) cs b, ops[j]? = some o → o.op ≠ .select cs b)
    (hs : Region.sinkB md ops n = true) (hc : Region.chainB md ops n = true) (hn : n < ops.size) (hin : i < n) (hdone : ∀ listed a, L listed a → ∀ j ∈ Region.ready md ops listed, n ≤ j) (f : Nat) :
    ∀ (listed : Array Bool) (a : Act), HeadInv md ops n listed →
      (∀ j oj, ops[j]? = some oj → j ≠ i → listed.getD j true = false → (∀ e ∈ oj.after, Region.binds md e = true → e.on ≠ i) → oi.apart ops oj = true) →
      i ∈ Region.ready md ops listed → YieldsIn P ops C oi v a → Heads P md ops C n L f (listed.setIfInBounds i true) (a.put oi.dst v) → Heads P md ops C n L (f + 1) listed a := by
  have low : ∀ listed, HeadInv md ops n listed → listed.getD i true = false → ∀ j ∈ Region.ready md ops listed, j < n := fun listed inv hun j hj =>
    (Nat.lt_or_ge j n).elim id fun h => absurd hj (tail_waits hs hc hn inv _ i rfl hin hun j h)
  induction f with
  | zero =>
    intro listed a inv _ hr hy H
    refine ⟨List.ne_nil_of_mem hr, fun j hj => ⟨low listed inv (mem_ready.1 hr).1 j hj, ?_⟩⟩
    by_cases e : j = i
    · subst e; exact hy.qOp hi H
    · exact absurd (hdone _ _ H j (ready_mono hj e)) (by have := low listed inv (mem_ready.1 hr).1 j hj; omega)
  | succ f ih =>
    intro listed a inv free hr hy H
    have hun := (mem_ready.1 hr).1
    refine ⟨List.ne_nil_of_mem hr, fun j hj => ⟨low listed inv hun j hj, ?_⟩⟩
    by_cases e : j = i
    · subst e; exact hy.qOp hi H
    · obtain ⟨jun, oj, hoj, all⟩ := mem_ready.1 hj
      have nowait : ∀ e ∈ oj.after, Region.binds md e = true → e.on ≠ i := fun e he hb eq => by
        have h1 := all e he hb
        rw [eq, getD_both hun] at h1
        cases h1
      have free' : ∀ k ok, ops[k]? = some ok → k ≠ i → (listed.setIfInBounds j true).getD k true = false → (∀ e ∈ ok.after, Region.binds md e = true → e.on ≠ i) → oi.apart ops ok = true := fun k ok hk hki kun hno => by
        by_cases ejk : j = k
        · subst ejk; exact free j ok hk hki jun hno
        · rw [getD_set_ne true ejk] at kun; exact free k ok hk hki kun hno
      have step := qOp_put hoj (free j oj hoj e jun nowait) (fun cs b => hsel i oi cs b hi) (fun cs b => hsel j oj cs b hoj) hy (H.2 j (ready_mono hj e)).2
      refine qOp_mono (fun a' h3 => ih _ a' (inv.set hj (low listed inv hun j hj)) free' (ready_mono hr (Ne.symm e)) h3.1 ?_) step
      rw [Array.setIfInBounds_comm _ _ e]
      exact h3.2

theorem Heads.lex {n g : Nat} {Lq : Act → Prop} (hsel : Region.noSelect ops = true) (hs : Region.sinkB md ops n = true) (hc : Region.chainB md ops n = true) (hn : n < ops.size) :
    ∀ (l : List Oper) (k : Nat) (listed : Array Bool) (a : Act), (∀ j, j < l.length → l[j]? = ops[k + j]?) → k + l.length = n → HeadInv md ops n listed →
    Region.lexHead md ops g l.length k listed = true → wpQuiet P ops C Lq l a → Heads P md ops C n (fun listed' a' => Region.seqB md ops g n listed' = true ∧ Lq a') l.length listed a
  | [], k, listed, a, _, hk, _, hB, h => by
    obtain rfl : k = n := by simpa using hk
    exact ⟨by simpa [Region.lexHead] using hB, h⟩
  | o :: l, k, listed, a, hl, hk, inv, hB, h => by
    have h0 : ops[k]? = some o := by simpa using (hl 0 (by simp)).symm
    simp only [List.length_cons, Region.lexHead, Bool.and_eq_true] at hB
    obtain ⟨⟨hr, hf⟩, hB'⟩ := hB
    have hkn : k < n := by simp only [List.length_cons] at hk; omega
    have hr' : k ∈ Region.ready md ops listed := by simpa using hr
    have hq : qOp P ops C k (wpQuiet P ops C Lq l) a := by unfold qOp; simp only [h0]; exact h
    obtain ⟨v, hy, hK⟩ := yieldsIn_of_qOp h0 hq
    refine Heads.first h0 (Region.noSelect_spec hsel) hs hc hn hkn (fun _ _ hL => seqB_ready hL.1) l.length listed a inv (Region.free_spec h0 hf) hr' hy ?_
    exact Heads.lex hsel hs hc hn l (k + 1) _ _ (fun j hj => by have := hl (j + 1) (by simp; omega); simpa [Nat.add_assoc, Nat.add_comm 1 j] using this) (by simp only [List.length_cons] at hk; omega) (inv.set hr' hkn) hB' hK

theorem region_quiet_tail {id : Nat} {Q : Exit → Act → World → Prop} {a : Act} {w : World} {l : List Oper} (n : Nat) (hm : P.follows .mixedOrders = true) (hB : Region.lexTailB .any l.toArray n = true) (hC : C w.drew)
    (h : wpQuiet P l.toArray C (fun a' => ∀ w', C w' → wpList P l.toArray Q (l.drop n) a' w') (l.take n) a) : (Code.region id l.toArray true).wp P Q a w := by
  simp only [Region.lexTailB, Bool.and_eq_true, decide_eq_true_eq] at hB
  obtain ⟨⟨⟨⟨hsel, hn⟩, hs⟩, hc⟩, hlex⟩ := hB
  have hn' : n < l.length := by simpa using hn
  have tk : (l.take n).length = n := by simp; omega
  have dk : (l.drop n).length = l.toArray.size - n := by simp
  have inv0 : HeadInv .any l.toArray n (Array.replicate l.toArray.size false) :=
    ⟨by simp, fun j oj _ hl => (by rw [getD_replicate_false] at hl; cases hl), fun t _ ht => getD_in (by simpa using ht) (getD_replicate_false _ _)⟩
  have H := Heads.lex (md := .any) (g := l.toArray.size - n) hsel hs hc hn (l.take n) 0 _ a (fun j hj => by
    have hj' : j < n := by rw [tk] at hj; exact hj
    simp [hj']) (by simpa using tk) inv0 (by rw [tk]; exact hlex) h
  refine wp_region_any hm ?_
  have G := Heads.any (Q := Q) (g := l.toArray.size - n) (fun listed a' w' hw' hL => by
    have := wpAny_of_seq (md := .any) (Q' := Q) (l.drop n) n listed a' w' (fun j => by simp [List.getElem?_drop]) (by rw [dk]; exact hL.1) (hL.2 w' hw')
    rwa [dk] at this) _ _ _ w.drew hC H
  rw [tk, show n + (l.toArray.size - n) = l.toArray.size by omega] at G
  exact G
/-- .. over the class of the worlds with more blocks. -/
theorem region_gx_tail {id : Nat} {Q : Exit → Act → World → Prop} {a : Act} {w : World} {y : Ext} {l : List Oper} (n : Nat) (hm : P.follows .mixedOrders = true) (hB : Region.lexTailB .any l.toArray n = true)
    (h : wpQuiet P l.toArray (fun w' => ∃ x, w' = gx w x) (fun a' => ∀ w', (∃ x, w' = gx w x) → wpList P l.toArray Q (l.drop n) a' w') (l.take n) a) : (Code.region id l.toArray true).wp P Q a (gx w y) :=
  region_quiet_tail n hm hB (Gx.drew ⟨y, rfl⟩) h
end
theorem At.self {w : World} {g : Nat} {cs : Array Value} {t : TypeId} (h : At w g (.cells cs t (0, 0))) : w.setRow g cs = w := by
  have hh : (w.setRow g cs).heap = w.heap := by
    simp only [World.setRow]
    apply Array.ext_getElem?
    intro i
    rw [Array.getElem?_modify]
    by_cases hi : g = i
    · subst hi
      unfold At at h
      rw [if_pos rfl, h]; rfl
    · rw [if_neg hi]
  obtain ⟨hp, tp, dr, os, out⟩ := w
  simp only [World.setRow] at hh ⊢
  rw [hh]

theorem At.app {w : World} {g : Nat} {o : Obj} {x y : Ext} (h : At (Go.Proofs.YtocaphcnnmcnjaaGreatDoor.gx w x) g o) : At (Go.Proofs.YtocaphcnnmcnjaaGreatDoor.gx w (x.app y)) g o := by rw [← gx_gx]; exact h.gx
theorem At.tick {w : World} {g : Nat} {o : Obj} {x : Ext} {n : Nat} (h : At (Go.Proofs.YtocaphcnnmcnjaaGreatDoor.gx w x) g o) : At (Go.Proofs.YtocaphcnnmcnjaaGreatDoor.gx w (x.tick n)) g o := by rw [← drewN_gx]; exact h
theorem region_w_tail {P : Program} {id : Nat} {Q : Exit → Act → World → Prop} {a : Act} {w : World} {l : List Oper} (n : Nat) (hm : P.follows .mixedOrders = true) (hB : Region.lexTailB .any l.toArray n = true)
    (h : wpQuiet P l.toArray (fun w' => ∃ x, w' = gx w x) (fun a' => ∀ w', (∃ x, w' = gx w x) → wpList P l.toArray Q (l.drop n) a' w') (l.take n) a) : (Code.region id l.toArray true).wp P Q a w :=
  region_quiet_tail n hm hB (Gx.drew (Gx.refl w)) h

/-- A slice of the call's own memory (blocks from b on), with n elements of the type e, whose cells are xs. -/
@[irreducible] def Own (b : Nat) (W : World) (e : TypeId) (size : Nat) (v : Value) (n : Nat) (xs : List Value) : Prop := W.ownsRow b e size v n xs

section
variable {b : Nat} {W : World} {e : TypeId} {size : Nat} {v : Value} {n : Nat} {xs : List Value}
theorem Own.out (h : Own b W e size v n xs) : W.ownsRow b e size v n xs := by unfold Own at h; exact h
theorem Own.mk' (h : W.ownsRow b e size v n xs) : Own b W e size v n xs := by unfold Own; exact h
theorem Own.len (h : Own b W e size v n xs) : xs.length = n * size := h.out.1
theorem Own.nil (b : Nat) (W : World) (e : TypeId) (size : Nat) : Own b W e size (.slice none 0 0) 0 [] := Own.mk' (World.ownsRow_nil W b e size)
theorem Own.kept {W' : World} {row : Option Nat} (h : Own b W e size v n xs) (hg : W.grownBy W' row) (hne : v.ownBlock = none ∨ v.ownBlock ≠ row) : Own b W' e size v n xs := Own.mk' (h.out.kept hg hne)
theorem grown_gx (W : World) (x : Ext) : W.grownBy (gx W x) (some W.heap.size) := ⟨rfl, rfl, rfl, by rw [size_gx]; omega, fun k hk _ => heap_gx W x k hk⟩
theorem Own.lt (h : Own b W e size v n xs) : ∀ k, v.ownBlock = some k → b ≤ k ∧ k < W.heap.size := h.out.lt
theorem Own.gx {x : Ext} (h : Own b W e size v n xs) : Own b (gx W x) e size v n xs :=
  h.kept (grown_gx W x) (.inr fun e => by have := h.lt _ e; omega)
theorem Own.alloc {o : Obj} (h : Own b W e size v n xs) : Own b (W.alloc o) e size v n xs := by rw [alloc_is]; exact h.gx
theorem Own.drew (h : Own b W e size v n xs) : Own b W.drew e size v n xs := by rw [drew_is]; exact h.gx
theorem Own.drewN {k : Nat} (h : Own b W e size v n xs) : Own b (W.drewN k) e size v n xs := by rw [drewN_is]; exact h.gx
theorem Own.app {x y : Ext} (h : Own b (Go.Proofs.YtocaphcnnmcnjaaGreatDoor.gx W x) e size v n xs) : Own b (Go.Proofs.YtocaphcnnmcnjaaGreatDoor.gx W (x.app y)) e size v n xs := by rw [← gx_gx]; exact h.gx
theorem Own.tick {x : Ext} {k : Nat} (h : Own b (Go.Proofs.YtocaphcnnmcnjaaGreatDoor.gx W x) e size v n xs) : Own b (Go.Proofs.YtocaphcnnmcnjaaGreatDoor.gx W (x.tick k)) e size v n xs := by rw [← drewN_gx]; exact h.drewN
theorem Own.row {g : Nat} {cs : Array Value} (h : Own b W e size v n xs) (hg : g < b) : Own b (W.setRow g cs) e size v n xs := by
  refine h.kept (row := some g) ⟨rfl, rfl, rfl, by simp, fun k _ hk => setRow_other W g k _ (fun e => hk (by rw [e]))⟩ (.inr fun e => ?_)
  have := h.lt _ e; omega
theorem Own.base {b' : Nat} (h : Own b W e size v n xs) (hb : b' ≤ b) : Own b' W e size v n xs := by
  have h' := h.out
  refine Own.mk' ⟨h'.1, h'.2.imp id ?_⟩
  rintro ⟨g, cap, cur, e1, e2, r⟩
  exact ⟨g, cap, cur, e1, by omega, r⟩
/-- The cells that a slice shows. -/
@[irreducible] def Shows (xs : List Value) (A : Option Addr) (w : World) : Prop := 0 < xs.length → ∃ g o, A = some ⟨g, o, none⟩ ∧ ∀ j u, xs[j]? = some u → w.cell? ⟨g, o + j, none⟩ = some u
/-- What an own slice is. -/
theorem Own.is (h : Own b W e size v n xs) : ∃ A c, v = .slice A n c ∧ n ≤ c ∧ c ≤ maxLen ∧ (A = none → n = 0) ∧ Shows xs A W := by
  have h' := h.out
  rcases h'.2 with ⟨rfl, rfl⟩ | ⟨g, cap, cur, rfl, hb, hg, hnc, hcm, hcs, htake⟩
  · exact ⟨none, 0, rfl, Nat.le_refl _, Nat.zero_le _, fun _ => rfl, by unfold Shows; intro h0; have := h'.1; omega⟩
  · refine ⟨_, cap, rfl, hnc, hcm, (fun h => by cases h), ?_⟩
    unfold Shows
    intro _
    refine ⟨g, 0, rfl, fun j u hu => ?_⟩
    have hj : j < n * size := by rw [← h'.1]; exact (List.getElem?_eq_some_iff.1 hu).1
    rw [Nat.zero_add, h'.cellAt j hj, hu]
theorem Shows.gx {A : Option Addr} {w : World} {x : Ext} (h : Shows xs A w) : Shows xs A (Go.Proofs.YtocaphcnnmcnjaaGreatDoor.gx w x) := by
  unfold Shows at *
  intro h0
  obtain ⟨g, o, e1, hc⟩ := h h0
  exact ⟨g, o, e1, fun j u hu => cell_keep_gx (hc j u hu)⟩
theorem Shows.alloc {A : Option Addr} {w : World} {o : Obj} (h : Shows xs A w) : Shows xs A (w.alloc o) := by rw [alloc_is]; exact h.gx
theorem Shows.drew {A : Option Addr} {w : World} (h : Shows xs A w) : Shows xs A w.drew := by rw [drew_is]; exact h.gx
theorem Shows.app {A : Option Addr} {w : World} {x y : Ext} (h : Shows xs A (Go.Proofs.YtocaphcnnmcnjaaGreatDoor.gx w x)) : Shows xs A (Go.Proofs.YtocaphcnnmcnjaaGreatDoor.gx w (x.app y)) := by rw [← gx_gx]; exact h.gx
theorem Shows.tick {A : Option Addr} {w : World} {x : Ext} {k : Nat} (h : Shows xs A (Go.Proofs.YtocaphcnnmcnjaaGreatDoor.gx w x)) : Shows xs A (Go.Proofs.YtocaphcnnmcnjaaGreatDoor.gx w (x.tick k)) := by
  rw [← drewN_gx, drewN_is]; exact h.gx
/-- .. of a whole block. -/
theorem Shows.of_at {w : World} {g : Nat} {C : Array Value} {t : TypeId} {fr : Nat × Nat} (hA : w.heap[g]? = some (.cells C t fr)) {o : Nat} (h : ∀ j u, xs[j]? = some u → C[o + j]? = some u) : Shows xs (some ⟨g, o, none⟩) w := by
  unfold Shows
  intro _
  refine ⟨g, o, rfl, fun j u hu => ?_⟩
  rw [cell_of_row w g _ _ _ _ hA, h j u hu]
end

theorem Shows.whole {w : World} {g : Nat} {xs : List Value} {t : TypeId} (hA : At w g (.cells xs.toArray t (0, 0))) : Shows xs (some ⟨g, 0, none⟩) w :=
  Shows.of_at hA fun j u hu => by simpa using hu

theorem gx_of_grown {w W W' : World} {row : Option Nat} (hW : ∃ x, W = gx w x) (hg : W.grownBy W' row) (hrow : ∀ k, row = some k → w.heap.size ≤ k) : ∃ x, W' = gx w x := by
  obtain ⟨x, rfl⟩ := hW
  refine gx_of_below ⟨hg.os, hg.tape, hg.output, by have := hg.size; simp at this; omega, fun k hk => ?_⟩
  rw [hg.block k (by simp; omega) (fun e => by have := hrow k e.symm; omega)]
  exact heap_gx w x k hk


theorem Gx.trans {w w1 w2 : World} (h : ∃ x, w2 = Go.Proofs.YtocaphcnnmcnjaaGreatDoor.gx w1 x) (h' : ∃ x, w1 = Go.Proofs.YtocaphcnnmcnjaaGreatDoor.gx w x) : ∃ x, w2 = Go.Proofs.YtocaphcnnmcnjaaGreatDoor.gx w x := by
  obtain ⟨x, rfl⟩ := h'
  obtain ⟨y, rfl⟩ := h
  exact ⟨_, gx_gx _ _ _⟩
theorem Gx.one {w : World} {o : Obj} : ∃ x, w.alloc o = Go.Proofs.YtocaphcnnmcnjaaGreatDoor.gx w x := ⟨_, alloc_is _ _⟩

/-- A type of elements, as append wants it: its slice type, how many cells an element has, and how many bytes. -/
structure Elem (t e : TypeId) (size bytes : Nat) : Prop where
  under : Tryz.prog.underlying t = some (.slice e)
  pos : 0 < size
  info : ∃ (i : TypeInfo) (z : Value), Tryz.prog.info? e = some i ∧ i.zero = some z ∧ i.size = size ∧ i.bytes = bytes ∧ z.cells.size = size
theorem elem_of {t e : TypeId} {size bytes : Nat} {z : Value} (ht : Tryz.prog.underlying t = some (.slice e)) (hp : 0 < size) (h : (Tryz.prog.info? e).map (fun i => (i.zero, i.size, i.bytes)) = some (some z, size, bytes)) (hz : z.cells.size = size) : Elem t e size bytes := by
  obtain ⟨i, h1, h2⟩ := Option.map_eq_some_iff.1 h
  simp only [Prod.mk.injEq] at h2
  exact ⟨ht, hp, i, z, h1, h2.1, h2.2.1, h2.2.2, hz⟩

/-- Elements appended to an own slice. -/
theorem append_el {t e : TypeId} {size bytes : Nat} (hE : Elem t e size bytes) {ops : Array Oper} {rest : List Oper} {o : Oper} {a : Act} {Q : Exit → Act → World → Prop} {W : World} (w : World) (b : Nat) (hgd : o.guard = none) (s x : Operand)
    (ho : o.op = .call { callee := .builtin .append, args := #[s, x], argTypes := #[t, t] }) (v : Value) (n : Nat) (xs : List Value) (hs : a.eval s = v) (A : Option Addr) (m c : Nat) (news : List Value) (hx : a.eval x = .slice A m c)
    (hb : w.heap.size ≤ b) (hown : Own b W e size v n xs) (hW : ∃ x, W = gx w x) (hbW : b ≤ W.heap.size) (hl : news.length = m * size) (hN : A = none → m = 0 ∧ c = 0) (hnews : Shows news A W) (h1 : ∀ u ∈ news, u.oneCell' = true) (h63 : n + m ≤ maxLen) (hbytes : (n + m) * bytes ≤ 140737488355328)
    (h : ∀ v' W', (∃ x, W' = gx w x) → Own b W' e size v' (n + m) (xs ++ news) → W.grownBy W' v.ownBlock → wpList Tryz.prog ops Q rest (a.put o.dst v') W') : wpList Tryz.prog ops Q (o :: rest) a W := by
  obtain ⟨ht, hp, i, z, hi, hz, hsize, hby, hzs⟩ := hE
  have own := hown.out
  have gxw : ∀ W' , W.grownBy W' v.ownBlock → ∃ x, W' = gx w x := fun W' hg => gx_of_grown hW hg fun k hk => by have := hown.lt k hk; omega
  cases A with
  | none =>
    obtain ⟨rfl, rfl⟩ := hN rfl
    have hn : news = [] := List.eq_nil_of_length_eq_zero (by simpa using hl)
    subst hn
    refine wpList_plain hgd fun K hK => ?_
    have hr := run_append_owned_none (P := Tryz.prog) W b t o.type e i size ht hi v n xs own
    unfold Oper.wp execOp
    simp only [ho, resolve, invoke, builtin, Sem.run_bind, Sem.run_pure, Result.andThen_ok, List.map_toArray, List.map_cons, List.map_nil, hs, hx, hr]
    exact hK _ _ (h v W hW (by simpa using hown) ⟨rfl, rfl, rfl, Nat.le_refl _, fun _ _ _ => rfl⟩)
  | some ad =>
    refine wpList_append_own W hgd s x t ho b e i z size bytes ht hi hz hsize hby hzs hp v n xs hs own ad m c news hx hl ?_ h1 h63 hbytes hbW fun v' W' h2 h3 _ => h v' W' (gxw W' h3) (Own.mk' h2) h3
    intro j u hu
    unfold Shows at hnews
    obtain ⟨g, o', e1, hc⟩ := hnews (by have := (List.getElem?_eq_some_iff.1 hu).1; omega)
    obtain rfl := Option.some.inj e1
    rw [Addr.add_lit]
    exact hc j u hu
/-- .. elements that the call has just made. -/
theorem append_new {t e : TypeId} {size bytes : Nat} (hE : Elem t e size bytes) {ops : Array Oper} {rest : List Oper} {o : Oper} {a : Act} {Q : Exit → Act → World → Prop} {W : World} (w : World) (b : Nat) {s x : Operand} {v : Value} {n : Nat} {xs : List Value} {g m : Nat} {news : List Value}
    (ho : o.op = .call { callee := .builtin .append, args := #[s, x], argTypes := #[t, t] }) (hgd : o.guard = none) (hs : a.eval s = v) (hx : a.eval x = .slice (some ⟨g, 0, none⟩) m m)
    (hb : w.heap.size ≤ b) (hown : Own b W e size v n xs) (hW : ∃ x, W = gx w x) (hbW : b ≤ W.heap.size) (hl : news.length = m * size) (hnews : Shows news (some ⟨g, 0, none⟩) W) (h1 : ∀ u ∈ news, u.oneCell' = true) (h63 : n + m ≤ maxLen) (hbytes : (n + m) * bytes ≤ 140737488355328)
    (h : ∀ v' W', (∃ x, W' = gx w x) → Own b W' e size v' (n + m) (xs ++ news) → W.grownBy W' v.ownBlock → wpList Tryz.prog ops Q rest (a.put o.dst v') W') : wpList Tryz.prog ops Q (o :: rest) a W :=
  append_el hE w b hgd s x ho v n xs hs (some ⟨g, 0, none⟩) m m news hx hb hown hW hbW hl (fun h => by cases h) hnews h1 h63 hbytes h
/-- .. the elements of a slice that is shown. -/
theorem append_all {t e : TypeId} {size bytes : Nat} (hE : Elem t e size bytes) {ops : Array Oper} {rest : List Oper} {o : Oper} {a : Act} {Q : Exit → Act → World → Prop} {W : World} (w : World) (b : Nat) {s x : Operand} {v : Value} {n : Nat} {xs : List Value} {A : Option Addr} {m c : Nat} {news : List Value}
    (ho : o.op = .call { callee := .builtin .append, args := #[s, x], argTypes := #[t, t] }) (hgd : o.guard = none) (hs : a.eval s = v) (hx : a.eval x = .slice A m c) (hN : A = none → m = 0 ∧ c = 0)
    (hb : w.heap.size ≤ b) (hown : Own b W e size v n xs) (hW : ∃ x, W = gx w x) (hbW : b ≤ W.heap.size) (hl : news.length = m * size) (hnews : Shows news A W) (h1 : ∀ u ∈ news, u.oneCell' = true) (h63 : n + m ≤ maxLen) (hbytes : (n + m) * bytes ≤ 140737488355328)
    (h : ∀ v' W', (∃ x, W' = gx w x) → Own b W' e size v' (n + m) (xs ++ news) → W.grownBy W' v.ownBlock → wpList Tryz.prog ops Q rest (a.put o.dst v') W') : wpList Tryz.prog ops Q (o :: rest) a W :=
  append_el hE w b hgd s x ho v n xs hs A m c news hx hb hown hW hbW hl hN hnews h1 h63 hbytes h
theorem own_ret {w W : World} {e : TypeId} {size : Nat} {v : Value} {n : Nat} {xs : List Value} {b : Nat} (hW : ∃ x, W = gx w x) (hb : w.heap.size ≤ b) (h : Own b W e size v n xs) : ∃ v' x, Ending.returned v = .returned v' ∧ W = gx w x ∧ Own w.heap.size (gx w x) e size v' n xs := by
  obtain ⟨x, rfl⟩ := hW
  exact ⟨v, x, rfl, rfl, h.base hb⟩
theorem Own.nilc {b : Nat} {W : World} {e : TypeId} {size : Nat} {A : Option Addr} {n c : Nat} {xs : List Value} (h : Own b W e size (.slice A n c) n xs) : A = none → n = 0 ∧ c = 0 := by
  rintro rfl
  rcases h.out.2 with ⟨e, rfl⟩ | ⟨g, cap, cur, e, _⟩
  · simp at e; exact ⟨rfl, e⟩
  · simp at e
/-- Elements that the call has just made, appended to an own slice: a step of a region that draws its order. -/
theorem step_append_own {t e : TypeId} {size bytes : Nat} (hE : Elem t e size bytes) {ops : Array Oper} {o : Oper} {a : Act} {K : Act → World → Prop} {Q : Exit → Act → World → Prop} {E' : Prop} {W : World} (w : World) (b : Nat) {s x : Operand} {v : Value} {n : Nat} {xs : List Value} {g m : Nat} {news : List Value}
    (ho : o.op = .call { callee := .builtin .append, args := #[s, x], argTypes := #[t, t] }) (hgd : o.guard = none) (hs : a.eval s = v) (hx : a.eval x = .slice (some ⟨g, 0, none⟩) m m)
    (hb : w.heap.size ≤ b) (hown : Own b W e size v n xs) (hW : ∃ x, W = gx w x) (hbW : b ≤ W.heap.size) (hl : news.length = m * size) (hnews : Shows news (some ⟨g, 0, none⟩) W) (h1 : ∀ u ∈ news, u.oneCell' = true) (h63 : n + m ≤ maxLen) (hbytes : (n + m) * bytes ≤ 140737488355328)
    (hm : 0 < m) (h : ∀ v' W', (∃ x, W' = gx w x) → Own b W' e size v' (n + m) (xs ++ news) → W.grownBy W' v.ownBlock → K (a.put o.dst v') W') : if Region.wanted o (yielded ops a.tmps) = true then Oper.wp Tryz.prog o a W K Q else E' := by
  rw [if_pos (by simp [Region.wanted, hgd])]
  obtain ⟨ht, hp, i, z, hi, hz, hsize, hby, hzs⟩ := hE
  refine wp_append_own W s x t ho b e i z size bytes ht hi hz hsize hby hzs hp v n xs hs hown.out ⟨g, 0, none⟩ m m news hx hl ?_ h1 h63 hbytes hbW fun v' W' h2 h3 _ => h v' W' (gx_of_grown hW h3 fun k hk => by have := hown.lt k hk; omega) (Own.mk' h2) h3
  intro j u hu
  unfold Shows at hnews
  obtain ⟨g', o', e1, hc⟩ := hnews (by rw [hl]; exact Nat.mul_pos hm hp)
  obtain ⟨rfl, rfl⟩ : g = g' ∧ 0 = o' := by simpa using Option.some.inj e1
  rw [Addr.add_lit]
  exact hc j u hu
theorem At.grown {W W' : World} {g : Nat} {o : Obj} {r : Option Nat} (h : At W g o) (hg : W.grownBy W' r) (hne : r ≠ some g) : At W' g o := by
  unfold At at *
  have hlt : g < W.heap.size := At.lt h
  rw [hg.block g hlt (fun e => hne e.symm)]
  exact h

theorem Ext.n_app (x y : Ext) : (x.app y).n = x.n + y.n := by unfold Ext.app Ext.n; simp


/-! An old block lies below every later size: the walk pays it by itself. -/
@[go_sem] theorem lt_more1 {a b c : Nat} (h : a < b) : (a < b + c) = True := by simp; omega
@[go_sem] theorem lt_more2 {a b c d : Nat} (h : a < b) : (a < b + c + d) = True := by simp; omega
@[go_sem] theorem lt_more3 {a b c d e : Nat} (h : a < b) : (a < b + c + d + e) = True := by simp; omega
@[go_sem] theorem lt_more4 {a b c d e f : Nat} (h : a < b) : (a < b + c + d + e + f) = True := by simp; omega
@[go_sem] theorem lt_self1 {a c : Nat} : (a < a + 1 + c) = True := by simp; omega
@[go_sem] theorem lt_self2 {a c d : Nat} : (a < a + 1 + c + d) = True := by simp; omega
@[go_sem] theorem lt_self3 {a c d e : Nat} : (a < a + 1 + c + d + e) = True := by simp; omega
@[go_sem] theorem lt_self4 {a c d e f : Nat} : (a < a + 1 + c + d + e + f) = True := by simp; omega
end Go.Proofs.YtocaphcnnmcnjaaGreatDoor

/-
  strings.Trim at an ASCII cutset: the shelf's contract at this program.
-/
namespace Go.Proofs.YtocaphcnnmcnjaaGreatDoor
open Go.RowKit
open Go.Shelf
-- AT2
def trimA_ren : Go.Shelf.Ren := ⟨fun | 160 => 57 | 232 => 81 | 231 => 80 | 227 => 82 | 234 => 84 | 233 => 83 | 236 => 86 | 235 => 85 | 228 => 110 | 271 => 113 | 151 => 112 | 197 => 111 | 120 => 132 | 152 => 131 | 260 => 130 | 137 => 141 | 119 => 142 | 224 => 143 | 225 => 144 | 217 => 154 | 266 => 159 | n => n, fun | 9 => 9 | 4 => 4 | 3 => 3 | 5 => 5 | 117 => 122 | 116 => 121 | 0 => 0 | 124 => 125 | 21 => 21 | 105 => 145 | 46 => 158 | 119 => 169 | 139 => 172 | 138 => 171 | n => n, fun | 3 => 0 | 4 => 1 | n => n⟩
theorem trimA : Go.Proofs.Lays.n160 Tryz.prog trimA_ren := {
  mixed := by kernel_rfl
  f119 := Tryz.func142.trans (congrArg some (by kernel_rfl))
  f120 := Tryz.func132.trans (congrArg some (by kernel_rfl))
  f137 := Tryz.func141.trans (congrArg some (by kernel_rfl))
  f151 := Tryz.func112.trans (congrArg some (by kernel_rfl))
  f152 := Tryz.func131.trans (congrArg some (by kernel_rfl))
  f160 := Tryz.func57.trans (congrArg some (by kernel_rfl))
  f197 := Tryz.func111.trans (congrArg some (by kernel_rfl))
  f217 := Tryz.func154.trans (congrArg some (by kernel_rfl))
  f224 := Tryz.func143.trans (congrArg some (by kernel_rfl))
  f225 := Tryz.func144.trans (congrArg some (by kernel_rfl))
  f227 := Tryz.func82.trans (congrArg some (by kernel_rfl))
  f228 := Tryz.func110.trans (congrArg some (by kernel_rfl))
  f231 := Tryz.func80.trans (congrArg some (by kernel_rfl))
  f232 := Tryz.func81.trans (congrArg some (by kernel_rfl))
  f233 := Tryz.func83.trans (congrArg some (by kernel_rfl))
  f234 := Tryz.func84.trans (congrArg some (by kernel_rfl))
  f235 := Tryz.func85.trans (congrArg some (by kernel_rfl))
  f236 := Tryz.func86.trans (congrArg some (by kernel_rfl))
  f260 := Tryz.func130.trans (congrArg some (by kernel_rfl))
  f266 := Tryz.func159.trans (congrArg some (by kernel_rfl))
  f271 := Tryz.func113.trans (congrArg some (by kernel_rfl))
  t0 := Tryz.underlying0
  a0 := Tryz.isAgg0
  z0 := Tryz.sizeOf0
  v0 := Tryz.zeroValue0
  t3 := Tryz.underlying3
  a3 := Tryz.isAgg3
  z3 := Tryz.sizeOf3
  v3 := Tryz.zeroValue3
  t4 := Tryz.underlying4
  a4 := Tryz.isAgg4
  z4 := Tryz.sizeOf4
  v4 := Tryz.zeroValue4
  t5 := Tryz.underlying5
  a5 := Tryz.isAgg5
  z5 := Tryz.sizeOf5
  v5 := Tryz.zeroValue5
  t9 := Tryz.underlying9
  a9 := Tryz.isAgg9
  z9 := Tryz.sizeOf9
  v9 := Tryz.zeroValue9
  t21 := Tryz.underlying21
  a21 := Tryz.isAgg21
  z21 := Tryz.sizeOf21
  v21 := Tryz.zeroValue21
  t46 := Tryz.underlying158
  a46 := Tryz.isAgg158
  z46 := Tryz.sizeOf158
  v46 := Tryz.zeroValue158
  t105 := Tryz.underlying145
  a105 := Tryz.isAgg145
  z105 := Tryz.sizeOf145
  v105 := Tryz.zeroValue145
  t116 := Tryz.underlying121
  a116 := Tryz.isAgg121
  z116 := Tryz.sizeOf121
  t117 := Tryz.underlying122
  a117 := Tryz.isAgg122
  z117 := Tryz.sizeOf122
  v117 := Tryz.zeroValue122
  t119 := Tryz.underlying169
  a119 := Tryz.isAgg169
  z119 := Tryz.sizeOf169
  t124 := Tryz.underlying125
  a124 := Tryz.isAgg125
  z124 := Tryz.sizeOf125
  v124 := Tryz.zeroValue125
  t138 := Tryz.underlying171
  a138 := Tryz.isAgg171
  z138 := Tryz.sizeOf171
  v138 := Tryz.zeroValue171
  t139 := Tryz.underlying172
  a139 := Tryz.isAgg172
  z139 := Tryz.sizeOf172
  v139 := Tryz.zeroValue172
  g3 := by kernel_rfl
  g4 := by kernel_rfl }

theorem Trim_any (s cs : ByteArray) (w : World) (hs : s.size ≤ 140737488355328) (hcs : cs.size < 4294967281) (ha : ∀ (j : Nat) (b : UInt8), cs.data.toList[j]? = some b → b.toNat < 128) :
    Calls Tryz.prog 57 #[.string s, .string cs] w fun e w' => e = .returned (.string ⟨(Lib.trimS s.data.toList cs.data.toList).toArray⟩) ∧ ∃ x, w' = gx w x := by
  refine (Go.Proofs.Any.strings_Trim_laid trimA (by kernel_rfl) s cs w (by omega) hcs ha).mono ?_
  rintro e w' ⟨he, hb⟩
  exact ⟨he, gx_of_below hb⟩
end Go.Proofs.YtocaphcnnmcnjaaGreatDoor

/-
  Names of instruments and zones: the program's isName at every text.
-/
namespace Go.Proofs.YtocaphcnnmcnjaaGreatDoor
open Go.RowKit
-- AT2
-- AT3

/-- The bytes of which names are made. -/
def nmC : ByteArray := ⟨#[97, 98, 99, 100, 101, 102, 103, 104, 105, 106, 107, 108, 109, 110, 111, 112, 113, 114, 115, 116, 117, 118, 119, 120, 121, 122, 48, 49, 50, 51, 52, 53, 54, 55, 56, 57, 45]⟩
/-- What is left of a text without the bytes of names at its ends. -/
def nmL (s : ByteArray) : List UInt8 := Lib.trimS s.data.toList nmC.data.toList
def pName (s : ByteArray) : Bool := decide (1 ≤ s.size) && decide (s.size ≤ 30) && (nmL s).isEmpty
theorem nmTrim (s : ByteArray) (hs : s.size ≤ 140737488355328) (w : World) : Calls Tryz.prog 57 #[.string s, .string nmC] w fun e w' => e = .returned (.string ⟨(nmL s).toArray⟩) ∧ ∃ x, w' = gx w x :=
  Trim_any s nmC w hs (by decide) (Go.Proofs.ascii_of_all (by decide))
set_option maxHeartbeats 1000000 in
theorem pIsName_any (s : ByteArray) (hs : s.size ≤ 140737488355328) (w : World) : Calls Tryz.prog 25 #[.string s] w fun e w' => e = .returned (.bool (pName s)) ∧ ∃ x, w' = gx w x := by
  have HT := Lib.hid (fun W => nmTrim s hs W)
  unfold nmC at HT
  by_cases h0 : s.size = 0
  · have hn : pName s = false := by unfold pName; rw [decide_eq_false (by omega)]; rfl
    have Hn := Lib.hid hn
    clear hn
    have hd : decide (1 ≤ (s.size : Int)) = false := decide_eq_false (by omega)
    go_enter Tryz.func25, Tryz.ntmps25
    go_wp2_with (first | go_skip)
    go_ret
    exact ⟨by rw [Hn.out]; rfl, (by repeat (first | (with_reducible exact Gx.refl _) | (with_reducible assumption) | (with_reducible refine Gx.gx ?_) | (with_reducible refine Gx.alloc ?_) | (with_reducible refine Gx.drew ?_) | (with_reducible refine Gx.drewN ?_) | (with_reducible refine Gx.setRow ?_ (by first | omega | (simp; done) | (simp <;> omega))) | (with_reducible refine Gx.setCell ?_ (by first | omega | (simp; done) | (simp <;> omega)))))⟩
  · by_cases h1 : s.size ≤ 30
    · have hd : decide (1 ≤ (s.size : Int)) = true := decide_eq_true (by omega)
      have hd2 : decide ((s.size : Int) ≤ 30) = true := decide_eq_true (by omega)
      have hn : pName s = (nmL s).isEmpty := by unfold pName; rw [decide_eq_true (show 1 ≤ s.size by omega), decide_eq_true h1]; rfl
      have Hn := Lib.hid hn
      clear hn
      generalize hT : nmL s = T at *
      clear hT
      cases T with
      | nil =>
        go_enter Tryz.func25, Tryz.ntmps25
        go_wp2_with (first | go_skip | (go_at_call 57; refine (HT.out _).mono ?_; rintro e w' ⟨rfl, x1, rfl⟩))
        go_ret
        exact ⟨by rw [Hn.out]; rfl, (by repeat (first | (with_reducible exact Gx.refl _) | (with_reducible assumption) | (with_reducible refine Gx.gx ?_) | (with_reducible refine Gx.alloc ?_) | (with_reducible refine Gx.drew ?_) | (with_reducible refine Gx.drewN ?_) | (with_reducible refine Gx.setRow ?_ (by first | omega | (simp; done) | (simp <;> omega))) | (with_reducible refine Gx.setCell ?_ (by first | omega | (simp; done) | (simp <;> omega)))))⟩
      | cons a T =>
        go_enter Tryz.func25, Tryz.ntmps25
        go_wp2_with (first | go_skip | (go_at_call 57; refine (HT.out _).mono ?_; rintro e w' ⟨rfl, x1, rfl⟩))
        go_ret
        exact ⟨by rw [Hn.out]; rfl, (by repeat (first | (with_reducible exact Gx.refl _) | (with_reducible assumption) | (with_reducible refine Gx.gx ?_) | (with_reducible refine Gx.alloc ?_) | (with_reducible refine Gx.drew ?_) | (with_reducible refine Gx.drewN ?_) | (with_reducible refine Gx.setRow ?_ (by first | omega | (simp; done) | (simp <;> omega))) | (with_reducible refine Gx.setCell ?_ (by first | omega | (simp; done) | (simp <;> omega)))))⟩
    · have hn : pName s = false := by unfold pName; rw [decide_eq_true (show 1 ≤ s.size by omega), decide_eq_false h1]; rfl
      have Hn := Lib.hid hn
      clear hn
      have hd : decide (1 ≤ (s.size : Int)) = true := decide_eq_true (by omega)
      have hd2 : decide ((s.size : Int) ≤ 30) = false := decide_eq_false (by omega)
      go_enter Tryz.func25, Tryz.ntmps25
      go_wp2_with (first | go_skip)
      go_ret
      exact ⟨by rw [Hn.out]; rfl, (by repeat (first | (with_reducible exact Gx.refl _) | (with_reducible assumption) | (with_reducible refine Gx.gx ?_) | (with_reducible refine Gx.alloc ?_) | (with_reducible refine Gx.drew ?_) | (with_reducible refine Gx.drewN ?_) | (with_reducible refine Gx.setRow ?_ (by first | omega | (simp; done) | (simp <;> omega))) | (with_reducible refine Gx.setCell ?_ (by first | omega | (simp; done) | (simp <;> omega)))))⟩
theorem pName_a : pName ⟨#[97]⟩ = true := by decide
end Go.Proofs.YtocaphcnnmcnjaaGreatDoor

/-
  The guard of stage 8: names of tracks at the one that the guard has.
-/
namespace Go.Proofs.YtocaphcnnmcnjaaGreatDoor
open Go.RowKit
-- AT2
-- AT3

theorem isLetter_t (w : World) : Calls Tryz.prog 96 #[.int .u8 116] w fun e w' => e = .returned (.bool true) ∧ w = w' := by
  go_enter Tryz.func96, Tryz.ntmps96
  go_wp2
  go_ret
  exact ⟨rfl, rfl⟩
theorem runOf_t (w : World) : Calls Tryz.prog 97 #[.string ⟨#[116]⟩] w fun e w' => e = .returned (.string ⟨#[116]⟩) ∧ w = w' := by
  go_enter Tryz.func97, Tryz.ntmps97
  go_wp2_with (first | go_skip | (go_at_call 96; refine (isLetter_t _).mono ?_; rintro e w' ⟨rfl, rfl⟩))
  refine wp_loop_rounds 2 ?_
  rw [rounds_succ]
  go_wp2_with (first | go_skip | (go_at_call 96; refine (isLetter_t _).mono ?_; rintro e w' ⟨rfl, rfl⟩))
  rw [rounds_succ]
  go_wp2_with (first | go_skip | (go_at_call 96; refine (isLetter_t _).mono ?_; rintro e w' ⟨rfl, rfl⟩))
  go_ret
  exact ⟨rfl, rfl⟩
theorem isWord_t (w : World) : Calls Tryz.prog 98 #[.string ⟨#[116]⟩] w fun e w' => e = .returned (.bool false) ∧ w = w' := by
  go_enter Tryz.func98, Tryz.ntmps98
  go_wp2
  go_ret
  exact ⟨rfl, rfl⟩
theorem IsName_t (w : World) : Calls Tryz.prog 69 #[.string ⟨#[116]⟩] w fun e w' => e = .returned (.bool true) ∧ w = w' := by
  go_enter Tryz.func69, Tryz.ntmps69
  go_wp2_with (first | go_skip | (go_at_call 96; refine (isLetter_t _).mono ?_; rintro e w' ⟨rfl, rfl⟩) | (go_at_call 97; refine (runOf_t _).mono ?_; rintro e w' ⟨rfl, rfl⟩) | (go_at_call 98; refine (isWord_t _).mono ?_; rintro e w' ⟨rfl, rfl⟩))
  go_ret
  exact ⟨rfl, rfl⟩
end Go.Proofs.YtocaphcnnmcnjaaGreatDoor

/-
  Calibrations and series as mathematics: no word of the program.
-/
namespace Go.Proofs.YtocaphcnnmcnjaaGreatDoor
structure Ln where
  f : Int
  t : Int
  a : Int
  b : Int
instance : Inhabited Ln := ⟨⟨0, 0, 0, 0⟩⟩

/-- The first number that is not 0 among f 0 .. f (k - 1). -/
def firstOf (f : Nat → Int) : Nat → Int
  | 0 => 0
  | k + 1 => if firstOf f k = 0 then f k else firstOf f k
theorem firstOf_0 (f : Nat → Int) : firstOf f 0 = 0 := rfl
theorem firstOf_succ {f : Nat → Int} {k : Nat} (h : firstOf f k = 0) : firstOf f (k + 1) = f k := by
  show (if firstOf f k = 0 then f k else firstOf f k) = _
  rw [if_pos h]
theorem firstOf_stays {f : Nat → Int} {k : Nat} {e : Int} (h : firstOf f k = e) (he : e ≠ 0) : ∀ j, firstOf f (k + j) = e
  | 0 => h
  | j + 1 => by
    have ih := firstOf_stays h he j
    show (if firstOf f (k + j) = 0 then f (k + j) else firstOf f (k + j)) = e
    rw [ih, if_neg he]
theorem firstOf_bad {f : Nat → Int} {k n : Nat} (h : firstOf f k = 0) (hk : k < n) {e : Int} (hb : f k = e) (he : e ≠ 0) : firstOf f n = e := by
  have := firstOf_stays (k := k + 1) ((firstOf_succ h).trans hb) he (n - (k + 1))
  rw [show k + 1 + (n - (k + 1)) = n by omega] at this
  exact this
theorem firstOf_all {f : Nat → Int} : ∀ {n : Nat}, firstOf f n = 0 → ∀ k, k < n → f k = 0
  | 0, _, k, hk => by omega
  | n + 1, h, k, hk => by
    have h0 : firstOf f n = 0 := by
      rcases Classical.em (firstOf f n = 0) with e | e
      · exact e
      · have := firstOf_stays (j := 1) rfl e; rw [h] at this; exact absurd this.symm e
    rcases Nat.lt_or_ge k n with h1 | h1
    · exact firstOf_all h0 k h1
    · obtain rfl : k = n := by omega
      rw [← firstOf_succ h0]; exact h

def lnOk (l : Ln) : Prop := -1099511627776 ≤ l.f ∧ l.f ≤ 1099511627776 ∧ -1099511627776 ≤ l.t ∧ l.t ≤ 1099511627776 ∧ l.f ≤ l.t ∧ -1048576 ≤ l.a ∧ l.a ≤ 1048576 ∧ -1125899906842624 ≤ l.b ∧ l.b ≤ 1125899906842624
instance (l : Ln) : Decidable (lnOk l) := by unfold lnOk; infer_instance
/-- A number of a calibration. -/
def isN (n : Int) : Prop := -1125899906842624 ≤ n ∧ n ≤ 1125899906842624
instance (n : Int) : Decidable (isN n) := by unfold isN; infer_instance
/-- What is wrong with the line i, first part. -/
def bad1 (g : Nat → Ln) (i : Nat) : Int := if ¬ lnOk (g i) then 9 else if 0 < i ∧ (g i).f ≤ (g (i - 1)).t then 10 else 0
/-- .. second part. -/
def bad2 (g : Nat → Ln) (i : Nat) : Int := if isN ((g i).a * (g i).f + (g i).b) ∧ isN ((g i).a * (g i).t + (g i).b) then 0 else 9
/-- What is wrong with lines. -/
def lnsE (g : Nat → Ln) (n : Nat) : Int := if firstOf (bad1 g) n = 0 then firstOf (bad2 g) n else firstOf (bad1 g) n
/-- What is wrong with a calibration. -/
def calE (den : Int) (g : Nat → Ln) (n : Nat) (lo hi : Int) : Int :=
  if ¬ (1 ≤ den ∧ den ≤ 1000000) then 9 else if n = 0 then 13 else if 50 < n then 3 else
  if lnsE g n ≠ 0 then lnsE g n else if ¬ (isN lo ∧ isN hi ∧ lo ≤ hi) then 9 else 0

/-- Good lines. -/
structure Good (g : Nat → Ln) (n : Nat) : Prop where
  ok : ∀ i, i < n → lnOk (g i)
  rise : ∀ i, i + 1 < n → (g i).t < (g (i + 1)).f
  ends : ∀ i, i < n → isN ((g i).a * (g i).f + (g i).b) ∧ isN ((g i).a * (g i).t + (g i).b)
theorem good_of {g : Nat → Ln} {n : Nat} (h : lnsE g n = 0) : Good g n := by
  unfold lnsE at h
  have h1 : firstOf (bad1 g) n = 0 := by
    by_cases e : firstOf (bad1 g) n = 0
    · exact e
    · rw [if_neg e] at h; exact absurd h e
  rw [if_pos h1] at h
  have a1 := firstOf_all h1
  have a2 := firstOf_all h
  refine ⟨fun i hi => ?_, fun i hi => ?_, fun i hi => ?_⟩
  · have := a1 i hi
    unfold bad1 at this
    by_cases e : lnOk (g i)
    · exact e
    · rw [if_pos e] at this; omega
  · have := a1 (i + 1) hi
    unfold bad1 at this
    split at this
    · omega
    · split at this
      · omega
      · rename_i h3
        have e1 : i + 1 - 1 = i := by omega
        rw [e1] at h3
        omega
  · have := a2 i hi
    unfold bad2 at this
    split at this
    · rename_i h; exact h
    · omega
theorem Good.apart {g : Nat → Ln} {n : Nat} (h : Good g n) : ∀ {i j : Nat}, i < j → j < n → (g i).t < (g j).f := by
  intro i j hij hj
  obtain ⟨d, rfl⟩ : ∃ d, j = i + 1 + d := ⟨j - (i + 1), by omega⟩
  clear hij
  induction d with
  | zero => exact h.rise i hj
  | succ d ih =>
    have h1 := ih (by omega)
    have h2 := h.rise (i + 1 + d) (by omega)
    have h3 := (h.ok (i + 1 + d) (by omega))
    unfold lnOk at h3
    have e : i + 1 + (d + 1) = i + 1 + d + 1 := by omega
    rw [e]; omega
theorem Good.one {g : Nat → Ln} {n : Nat} (h : Good g n) {i j : Nat} (hi : i < n) (hj : j < n) {v : Int} (a : (g i).f ≤ v) (b : v ≤ (g i).t) (c : (g j).f ≤ v) (d : v ≤ (g j).t) : i = j := by
  rcases Nat.lt_trichotomy i j with h1 | h1 | h1
  · have := h.apart h1 hj; omega
  · exact h1
  · have := h.apart h1 hi; omega

/-- The value v can be, with the number m. -/
def Can (g : Nat → Ln) (n : Nat) (lo hi v m : Int) : Prop := ∃ k, k < n ∧ (g k).f ≤ v ∧ v ≤ (g k).t ∧ m = (g k).a * v + (g k).b ∧ lo ≤ m ∧ m ≤ hi
/-- What Apply returns. -/
def App (g : Nat → Ln) (n : Nat) (lo hi v m : Int) (is : Bool) : Prop := (is = true ∧ Can g n lo hi v m) ∨ (is = false ∧ m = 0 ∧ ∀ m', ¬ Can g n lo hi v m')
theorem Can.eq {g : Nat → Ln} {n : Nat} (h : Good g n) {lo hi v m m' : Int} (a : Can g n lo hi v m) (b : Can g n lo hi v m') : m = m' := by
  obtain ⟨k, hk, k1, k2, k3, _⟩ := a
  obtain ⟨j, hj, j1, j2, j3, _⟩ := b
  obtain rfl := h.one hk hj k1 k2 j1 j2
  rw [k3, j3]
theorem App.eq {g : Nat → Ln} {n : Nat} (h : Good g n) {lo hi v m m' : Int} {i i' : Bool} (a : App g n lo hi v m i) (b : App g n lo hi v m' i') : m = m' ∧ i = i' := by
  rcases a with ⟨rfl, a⟩ | ⟨rfl, rfl, a⟩ <;> rcases b with ⟨rfl, b⟩ | ⟨rfl, rfl, b⟩
  · exact ⟨a.eq h b, rfl⟩
  · exact absurd a (b _)
  · exact absurd b (a _)
  · exact ⟨rfl, rfl⟩

/-- The values of a line have numbers that keep the bounds. -/
theorem mul_between {a f t v : Int} (h1 : f ≤ v) (h2 : v ≤ t) : (a * f ≤ a * v ∧ a * v ≤ a * t) ∨ (a * t ≤ a * v ∧ a * v ≤ a * f) := by
  rcases Int.le_total 0 a with h | h
  · exact .inl ⟨Int.mul_le_mul_of_nonneg_left h1 h, Int.mul_le_mul_of_nonneg_left h2 h⟩
  · exact .inr ⟨Int.mul_le_mul_of_nonpos_left h h2, Int.mul_le_mul_of_nonpos_left h h1⟩
theorem num_in {l : Ln} {v : Int} (e : isN (l.a * l.f + l.b) ∧ isN (l.a * l.t + l.b)) (h1 : l.f ≤ v) (h2 : v ≤ l.t) : isN (l.a * v + l.b) := by
  unfold isN at *
  have := mul_between (a := l.a) h1 h2
  omega
theorem mul_small {a v : Int} (a1 : -1048576 ≤ a) (a2 : a ≤ 1048576) (v1 : -1099511627776 ≤ v) (v2 : v ≤ 1099511627776) : -1152921504606846976 ≤ a * v ∧ a * v ≤ 1152921504606846976 := by
  have h1 : -(1048576 * 1099511627776) ≤ a * v ∧ a * v ≤ 1048576 * 1099511627776 := by
    have hv := mul_between (a := a) v1 v2
    have ha1 := mul_between (a := (1099511627776 : Int)) a1 a2
    have e1 : a * (1099511627776 : Int) = 1099511627776 * a := Int.mul_comm _ _
    have e2 : a * (-1099511627776 : Int) = -(1099511627776 * a) := by rw [Int.mul_neg, Int.mul_comm]
    rw [e1, e2] at hv
    omega
  omega

/-- The size of a number. -/
def sz (x : Int) : Int := if x < 0 then -x else x
theorem sz_cases (x : Int) : (0 ≤ x ∧ sz x = x) ∨ (x < 0 ∧ sz x = -x) := by unfold sz; split <;> omega
/-- v is nearer to n than w, or as near and not greater. -/
def Nearer (n m v m' w : Int) : Prop := sz (m - n) < sz (m' - n) ∨ sz (m - n) = sz (m' - n) ∧ v ≤ w
/-- What Nearest returns. -/
def Near (g : Nat → Ln) (n : Nat) (lo hi x v e : Int) : Prop :=
  (e = 0 ∧ ∃ m, Can g n lo hi v m ∧ ∀ w m', Can g n lo hi w m' → Nearer x m v m' w) ∨ (e = 4 ∧ v = 0 ∧ ∀ w m', ¬ Can g n lo hi w m')
theorem Near.eq {g : Nat → Ln} {n : Nat} {lo hi x v v' e e' : Int} (a : Near g n lo hi x v e) (b : Near g n lo hi x v' e') : v = v' ∧ e = e' := by
  rcases a with ⟨rfl, m, a1, a2⟩ | ⟨rfl, rfl, a⟩ <;> rcases b with ⟨rfl, m', b1, b2⟩ | ⟨rfl, rfl, b⟩
  · have c1 := a2 _ _ b1
    have c2 := b2 _ _ a1
    unfold Nearer at c1 c2
    exact ⟨by omega, rfl⟩
  · exact absurd a1 (b _ _)
  · exact absurd b1 (a _ _)
  · exact ⟨rfl, rfl⟩

/-- The best of the first k lines: what a walk along the lines has found. -/
def Best (g : Nat → Ln) (k : Nat) (lo hi x v d : Int) (some : Bool) : Prop :=
  (some = true ∧ ∃ m, Can g k lo hi v m ∧ d = sz (m - x) ∧ ∀ w m', Can g k lo hi w m' → Nearer x m v m' w) ∨ (some = false ∧ v = 0 ∧ d = 0 ∧ ∀ w m', ¬ Can g k lo hi w m')
theorem Can.last {g : Nat → Ln} {k : Nat} {lo hi w m : Int} (h : Can g (k + 1) lo hi w m) : Can g k lo hi w m ∨ ((g k).f ≤ w ∧ w ≤ (g k).t ∧ m = (g k).a * w + (g k).b ∧ lo ≤ m ∧ m ≤ hi) := by
  obtain ⟨j, hj, h'⟩ := h
  rcases Nat.lt_or_ge j k with h1 | h1
  · exact .inl ⟨j, h1, h'⟩
  · obtain rfl : j = k := by omega
    exact .inr h'
theorem Can.more {g : Nat → Ln} {k j : Nat} {lo hi w m : Int} (h : Can g k lo hi w m) (hkj : k ≤ j) : Can g j lo hi w m := by
  obtain ⟨i, hi, h'⟩ := h
  exact ⟨i, by omega, h'⟩
theorem Best.none {g : Nat → Ln} {lo hi x : Int} : Best g 0 lo hi x 0 0 false := by
  refine .inr ⟨rfl, rfl, rfl, ?_⟩
  rintro w m ⟨k, hk, _⟩
  omega
/-- The line k has no value that can be. -/
theorem Best.skip {g : Nat → Ln} {k : Nat} {lo hi x v d : Int} {some : Bool} (h : Best g k lo hi x v d some) (hn : ∀ w, (g k).f ≤ w → w ≤ (g k).t → ¬ (lo ≤ (g k).a * w + (g k).b ∧ (g k).a * w + (g k).b ≤ hi)) : Best g (k + 1) lo hi x v d some := by
  have key : ∀ w m, Can g (k + 1) lo hi w m → Can g k lo hi w m := by
    intro w m hc
    rcases hc.last with h1 | ⟨h1, h2, rfl, h3, h4⟩
    · exact h1
    · exact absurd ⟨h3, h4⟩ (hn w h1 h2)
  rcases h with ⟨rfl, m, h1, h2, h3⟩ | ⟨rfl, rfl, rfl, h1⟩
  · exact .inl ⟨rfl, m, h1.more (by omega), h2, fun w m' hc => h3 w m' (key w m' hc)⟩
  · exact .inr ⟨rfl, rfl, rfl, fun w m' hc => h1 w m' (key w m' hc)⟩
/-- u is the best of the line k. -/
def LineBest (l : Ln) (lo hi x u : Int) : Prop := l.f ≤ u ∧ u ≤ l.t ∧ lo ≤ l.a * u + l.b ∧ l.a * u + l.b ≤ hi ∧ ∀ w, l.f ≤ w → w ≤ l.t → lo ≤ l.a * w + l.b → l.a * w + l.b ≤ hi → Nearer x (l.a * u + l.b) u (l.a * w + l.b) w
theorem Best.take {g : Nat → Ln} {k : Nat} {lo hi x v d u : Int} {some : Bool} (h : Best g k lo hi x v d some) (hu : LineBest (g k) lo hi x u) (hd : some = true → sz ((g k).a * u + (g k).b - x) < d) : Best g (k + 1) lo hi x u (sz ((g k).a * u + (g k).b - x)) true := by
  obtain ⟨u1, u2, u3, u4, u5⟩ := hu
  refine .inl ⟨rfl, _, ⟨k, by omega, u1, u2, rfl, u3, u4⟩, rfl, fun w m' hc => ?_⟩
  rcases hc.last with h1 | ⟨h1, h2, rfl, h3, h4⟩
  · rcases h with ⟨rfl, m, b1, rfl, b3⟩ | ⟨rfl, rfl, rfl, b1⟩
    · have := b3 _ _ h1
      have := hd rfl
      unfold Nearer at *
      omega
    · exact absurd h1 (b1 _ _)
  · exact u5 w h1 h2 h3 h4
theorem Best.stay {g : Nat → Ln} {n k : Nat} (hg : Good g n) (hk : k < n) {lo hi x v d u : Int} (h : Best g k lo hi x v d true) (hu : LineBest (g k) lo hi x u) (hd : d ≤ sz ((g k).a * u + (g k).b - x)) : Best g (k + 1) lo hi x v d true := by
  obtain ⟨u1, u2, u3, u4, u5⟩ := hu
  rcases h with ⟨_, m, b1, rfl, b3⟩ | ⟨h, _⟩
  · refine .inl ⟨rfl, m, b1.more (by omega), rfl, fun w m' hc => ?_⟩
    rcases hc.last with h1 | ⟨h1, h2, rfl, h3, h4⟩
    · exact b3 _ _ h1
    · have h5 := u5 w h1 h2 h3 h4
      have hv : v < w := by
        obtain ⟨j, hj, j1, j2, _⟩ := b1
        have := hg.apart hj hk
        omega
      unfold Nearer at *
      omega
  · cases h
theorem Best.done {g : Nat → Ln} {n : Nat} {lo hi x v d : Int} {some : Bool} (h : Best g n lo hi x v d some) : Near g n lo hi x v (if some then 0 else 4) := by
  rcases h with ⟨rfl, m, b1, rfl, b3⟩ | ⟨rfl, rfl, rfl, b1⟩
  · exact .inl ⟨rfl, m, b1, b3⟩
  · exact .inr ⟨rfl, rfl, b1⟩

/-- The program's floor. -/
def fl (a b : Int) : Int := Int.fdiv a b
theorem fl_pos {a b : Int} (h : 0 < b) : b * fl a b ≤ a ∧ a < b * fl a b + b := by
  unfold fl
  have h1 := Int.fmod_add_mul_fdiv a b
  have h2 := Int.fmod_nonneg_of_pos a h
  have h3 := Int.fmod_lt_of_pos a h
  omega
theorem fl_neg {a b : Int} (h : b < 0) : a ≤ b * fl a b ∧ b * fl a b + b < a := by
  have h1 := fl_pos (a := -a) (b := -b) (by omega)
  have e : fl a b = fl (-a) (-b) := by unfold fl; rw [Int.neg_fdiv_neg]
  rw [e]
  generalize fl (-a) (-b) = q at *
  have e2 : -b * q = -(b * q) := Int.neg_mul _ _
  omega
theorem mul_le {a x y : Int} (ha : 0 < a) (h : x ≤ y) : a * x ≤ a * y := Int.mul_le_mul_of_nonneg_left h (by omega)
theorem mul_lt {a x y : Int} (ha : 0 < a) (h : x < y) : a * x + a ≤ a * y := by
  have := Int.mul_le_mul_of_nonneg_left (show x + 1 ≤ y by omega) (show 0 ≤ a by omega)
  rw [Int.mul_add, Int.mul_one] at this
  exact this
theorem fl_swap (a b : Int) : fl a b = fl (-a) (-b) := by unfold fl; rw [Int.neg_fdiv_neg]
theorem mul_ge {b x : Int} (hb : 0 < b) (hx : 0 ≤ x) : x ≤ b * x := by
  have := Int.mul_le_mul_of_nonneg_right (show 1 ≤ b by omega) hx
  omega
theorem fl_bound0 {a b M : Int} (h : 0 < b) (h1 : -M ≤ a) (h2 : a ≤ M) (hM : 0 ≤ M) : -M - 1 ≤ fl a b ∧ fl a b ≤ M := by
  have h3 := fl_pos (a := a) h
  generalize fl a b = q at *
  have h4 := mul_ge (x := M + 1) h (by omega)
  refine ⟨?_, ?_⟩
  · rcases Int.lt_or_le q (-M - 1) with hq | hq
    · have h5 := mul_le h (show q + 1 ≤ -(M + 1) by omega)
      rw [Int.mul_add, Int.mul_one, Int.mul_neg] at h5
      omega
    · exact hq
  · rcases Int.lt_or_le M q with hq | hq
    · have h5 := mul_le h (show M + 1 ≤ q by omega)
      omega
    · exact hq
theorem fl_bound {a b M : Int} (h : b ≠ 0) (h1 : -M ≤ a) (h2 : a ≤ M) (hM : 0 ≤ M) : -M - 1 ≤ fl a b ∧ fl a b ≤ M := by
  rcases Int.lt_or_gt_of_ne h with hb | hb
  · rw [fl_swap]; exact fl_bound0 (by omega) (by omega) (by omega) hM
  · exact fl_bound0 hb h1 h2 hM

/-- The program's ceil. -/
def cl (a b : Int) : Int := - fl (-a) b
theorem le_fl {a b w : Int} (h : 0 < a) : a * w ≤ b ↔ w ≤ fl b a := by
  have h1 := fl_pos (a := b) h
  generalize fl b a = q at *
  constructor
  · intro hw
    rcases Int.lt_or_le q w with h2 | h2
    · have := mul_lt h h2; omega
    · exact h2
  · intro hw
    have := mul_le h hw; omega
theorem cl_le {a b w : Int} (h : 0 < a) : b ≤ a * w ↔ cl b a ≤ w := by
  unfold cl
  have := le_fl (a := a) (b := -b) (w := -w) h
  rw [Int.mul_neg] at this
  omega
/-- Which values of a line can be. -/
def loV (l : Ln) (lo hi : Int) : Int := if l.a = 0 then (if l.b < lo ∨ hi < l.b then 1 else l.f) else max l.f (cl ((if l.a < 0 then hi else lo) - l.b) l.a)
def hiV (l : Ln) (lo hi : Int) : Int := if l.a = 0 then (if l.b < lo ∨ hi < l.b then 0 else l.t) else min l.t (fl ((if l.a < 0 then lo else hi) - l.b) l.a)
theorem possible_iff (l : Ln) (lo hi w : Int) : (loV l lo hi ≤ w ∧ w ≤ hiV l lo hi) ↔ (l.f ≤ w ∧ w ≤ l.t ∧ lo ≤ l.a * w + l.b ∧ l.a * w + l.b ≤ hi) := by
  unfold loV hiV
  rcases Int.lt_trichotomy l.a 0 with h | h | h
  · have h0 : ¬ l.a = 0 := by omega
    rw [if_neg h0, if_neg h0, if_pos h, if_pos h]
    have e1 : cl (hi - l.b) l.a = cl (-(hi - l.b)) (-l.a) := by
      unfold cl; rw [fl_swap]
    have e2 := fl_swap (lo - l.b) l.a
    rw [e1, e2]
    have h1 := cl_le (a := -l.a) (b := -(hi - l.b)) (w := w) (by omega)
    have h2 := le_fl (a := -l.a) (b := -(lo - l.b)) (w := w) (by omega)
    rw [Int.neg_mul] at h1 h2
    omega
  · rw [if_pos h, if_pos h, h, Int.zero_mul]
    split <;> omega
  · have h0 : ¬ l.a = 0 := by omega
    have h00 : ¬ l.a < 0 := by omega
    rw [if_neg h0, if_neg h0, if_neg h00, if_neg h00]
    have h1 := cl_le (a := l.a) (b := lo - l.b) (w := w) h
    have h2 := le_fl (a := l.a) (b := hi - l.b) (w := w) h
    omega
def clamp (x f t : Int) : Int := min (max x f) t
/-- The value that nearestFrom returns. -/
def nearV (l : Ln) (f t x : Int) : Int :=
  if l.a = 0 then f else
  if sz (l.a * clamp (fl (x - l.b) l.a + 1) f t + l.b - x) < sz (l.a * clamp (fl (x - l.b) l.a) f t + l.b - x) then clamp (fl (x - l.b) l.a + 1) f t else clamp (fl (x - l.b) l.a) f t
theorem valley {h : Int → Int} {q f t : Int} (h1 : ∀ w w', w < w' → w' ≤ q → h w' < h w) (h2 : ∀ w w', q + 1 ≤ w → w < w' → h w < h w') (hft : f ≤ t) {w : Int} (hw1 : f ≤ w) (hw2 : w ≤ t) :
    let u := if h (clamp (q + 1) f t) < h (clamp q f t) then clamp (q + 1) f t else clamp q f t
    (f ≤ u ∧ u ≤ t) ∧ (h u < h w ∨ h u = h w ∧ u ≤ w) := by
  intro u
  have hu : u = if h (clamp (q + 1) f t) < h (clamp q f t) then clamp (q + 1) f t else clamp q f t := rfl
  clear_value u
  by_cases c1 : q < f
  · have a1 : clamp q f t = f := by unfold clamp; omega
    have a2 : clamp (q + 1) f t = f := by unfold clamp; omega
    rw [a1, a2, if_neg (by omega)] at hu
    subst hu
    refine ⟨by omega, ?_⟩
    rcases Int.lt_or_le u w with h3 | h3
    · exact .inl (h2 _ _ (by omega) h3)
    · obtain rfl : w = u := by omega
      exact .inr ⟨rfl, by omega⟩
  · by_cases c2 : t ≤ q
    · have a1 : clamp q f t = t := by unfold clamp; omega
      have a2 : clamp (q + 1) f t = t := by unfold clamp; omega
      rw [a1, a2, if_neg (by omega)] at hu
      subst hu
      refine ⟨by omega, ?_⟩
      rcases Int.lt_or_le w u with h3 | h3
      · exact .inl (h1 _ _ h3 (by omega))
      · obtain rfl : w = u := by omega
        exact .inr ⟨rfl, by omega⟩
    · have a1 : clamp q f t = q := by unfold clamp; omega
      have a2 : clamp (q + 1) f t = q + 1 := by unfold clamp; omega
      rw [a1, a2] at hu
      have b1 : w < q → h q < h w := fun h3 => h1 _ _ h3 (by omega)
      have b2 : q + 1 < w → h (q + 1) < h w := fun h3 => h2 _ _ (by omega) h3
      rcases Int.lt_trichotomy w q with h3 | h3 | h3
      · have := b1 h3
        split at hu <;> subst hu <;> exact ⟨by omega, by omega⟩
      · subst h3
        split at hu <;> subst hu <;> exact ⟨by omega, by omega⟩
      · rcases Int.lt_or_le (q + 1) w with h4 | h4
        · have := b2 h4
          split at hu <;> subst hu <;> exact ⟨by omega, by omega⟩
        · obtain rfl : w = q + 1 := by omega
          split at hu <;> subst hu <;> exact ⟨by omega, by omega⟩
theorem sz_valley {a b x : Int} (ha : a ≠ 0) : (∀ w w', w < w' → w' ≤ fl (x - b) a → sz (a * w' + b - x) < sz (a * w + b - x)) ∧ (∀ w w', fl (x - b) a + 1 ≤ w → w < w' → sz (a * w + b - x) < sz (a * w' + b - x)) := by
  rcases Int.lt_or_gt_of_ne ha with h | h
  · have h1 := fl_neg (a := x - b) h
    generalize fl (x - b) a = q at *
    have e : ∀ y, a * y = -(-a * y) := fun y => by rw [Int.neg_mul, Int.neg_neg]
    refine ⟨fun w w' hw hq => ?_, fun w w' hw hq => ?_⟩
    · have k1 := mul_lt (a := -a) (by omega) hw
      have k2 := mul_le (a := -a) (by omega) hq
      have c1 := sz_cases (a * w' + b - x)
      have c2 := sz_cases (a * w + b - x)
      rw [← Int.neg_neg (a * w'), ← Int.neg_neg (a * w)] at *
      have e1 := e w; have e2 := e w'; have e3 := e q
      omega
    · have k1 := mul_lt (a := -a) (by omega) hq
      have k2 := mul_le (a := -a) (by omega) hw
      rw [Int.mul_add, Int.mul_one] at k2
      have c1 := sz_cases (a * w' + b - x)
      have c2 := sz_cases (a * w + b - x)
      have e1 := e w; have e2 := e w'; have e3 := e q
      omega
  · have h1 := fl_pos (a := x - b) h
    generalize fl (x - b) a = q at *
    refine ⟨fun w w' hw hq => ?_, fun w w' hw hq => ?_⟩
    · have k1 := mul_lt h hw
      have k2 := mul_le h hq
      have c1 := sz_cases (a * w' + b - x)
      have c2 := sz_cases (a * w + b - x)
      omega
    · have k1 := mul_lt h hq
      have k2 := mul_le h hw
      rw [Int.mul_add, Int.mul_one] at k2
      have c1 := sz_cases (a * w' + b - x)
      have c2 := sz_cases (a * w + b - x)
      omega
theorem nearV_best {l : Ln} {lo hi x : Int} (h : loV l lo hi ≤ hiV l lo hi) : LineBest l lo hi x (nearV l (loV l lo hi) (hiV l lo hi) x) := by
  have key : ∀ w, loV l lo hi ≤ w → w ≤ hiV l lo hi → (loV l lo hi ≤ nearV l (loV l lo hi) (hiV l lo hi) x ∧ nearV l (loV l lo hi) (hiV l lo hi) x ≤ hiV l lo hi) ∧ Nearer x (l.a * nearV l (loV l lo hi) (hiV l lo hi) x + l.b) (nearV l (loV l lo hi) (hiV l lo hi) x) (l.a * w + l.b) w := by
    intro w w1 w2
    unfold Nearer nearV
    by_cases ha : l.a = 0
    · rw [if_pos ha, ha]
      simp only [Int.zero_mul]
      exact ⟨by omega, .inr ⟨trivial, w1⟩⟩
    · rw [if_neg ha]
      obtain ⟨v1, v2⟩ := sz_valley (a := l.a) (b := l.b) (x := x) ha
      exact valley (h := fun w => sz (l.a * w + l.b - x)) v1 v2 h w1 w2
  have k0 := (key (loV l lo hi) (Int.le_refl _) h).1
  have k1 := (possible_iff l lo hi _).1 k0
  refine ⟨k1.1, k1.2.1, k1.2.2.1, k1.2.2.2, fun w a1 a2 a3 a4 => ?_⟩
  have := (possible_iff l lo hi w).2 ⟨a1, a2, a3, a4⟩
  exact (key w this.1 this.2).2
theorem none_of {l : Ln} {lo hi : Int} (h : hiV l lo hi < loV l lo hi) : ∀ w, l.f ≤ w → w ≤ l.t → ¬ (lo ≤ l.a * w + l.b ∧ l.a * w + l.b ≤ hi) := by
  intro w h1 h2 h3
  have := (possible_iff l lo hi w).2 ⟨h1, h2, h3.1, h3.2⟩
  omega
/-- The grain, as far as the first k lines. -/
def grainTo (g : Nat → Ln) : Nat → Int
  | 0 => 0
  | k + 1 => if (g k).f < (g k).t then max (grainTo g k) (sz (g k).a) else grainTo g k
theorem grain_in {g : Nat → Ln} {n : Nat} (h : Good g n) : ∀ k, k ≤ n → 0 ≤ grainTo g k ∧ grainTo g k ≤ 1048576
  | 0, _ => by unfold grainTo; omega
  | k + 1, hk => by
    have ih := grain_in h k (by omega)
    have h1 := h.ok k (by omega)
    have h2 := sz_cases (g k).a
    unfold lnOk at h1
    unfold grainTo
    split <;> omega

/-! The reference's way: candidates. -/
def candsY (l : Ln) (y : Int) : List Int := [clamp (fl (y - l.b) l.a + -1) l.f l.t, clamp (fl (y - l.b) l.a + 0) l.f l.t, clamp (fl (y - l.b) l.a + 1) l.f l.t, clamp (fl (y - l.b) l.a + 2) l.f l.t]
def cands (l : Ln) (lo hi x : Int) : List Int := if l.a = 0 then [l.f, l.t] else [l.f, l.t] ++ (candsY l x ++ (candsY l lo ++ candsY l hi))
theorem fl_step {a b : Int} (h : b ≠ 0) : cl a b = fl a b ∨ cl a b = fl a b + 1 := by
  unfold cl
  have key : ∀ a b : Int, 0 < b → -fl (-a) b = fl a b ∨ -fl (-a) b = fl a b + 1 := by
    intro a b hb
    have h1 := fl_pos (a := a) hb
    have h2 := fl_pos (a := -a) hb
    generalize fl a b = q at *
    generalize fl (-a) b = p at *
    have k1 : ¬ -p < q := fun h3 => by
      have := mul_lt hb h3
      rw [Int.mul_neg] at this
      omega
    have k2 : ¬ q + 1 < -p := fun h3 => by
      have := mul_lt hb h3
      rw [Int.mul_neg, Int.mul_add, Int.mul_one] at this
      omega
    omega
  rcases Int.lt_or_gt_of_ne h with hb | hb
  · rw [fl_swap (-a) b, fl_swap a b]; exact key (-a) (-b) (by omega)
  · exact key a b hb
theorem clamp_in {x f t : Int} (h1 : f ≤ x) (h2 : x ≤ t) : clamp x f t = x := by unfold clamp; omega
theorem nearV_cand {l : Ln} {lo hi x : Int} (h : loV l lo hi ≤ hiV l lo hi) : nearV l (loV l lo hi) (hiV l lo hi) x ∈ cands l lo hi x := by
  have hb := nearV_best (x := x) h
  have h1 := hb.1
  have h2 := hb.2.1
  by_cases ha : l.a = 0
  · unfold cands nearV
    rw [if_pos ha, if_pos ha]
    unfold loV hiV at h
    unfold loV
    rw [if_pos ha] at h ⊢
    split at h
    · omega
    · rename_i h3
      rw [if_neg h3]; simp
  · have hlo := fl_step (a := lo - l.b) ha
    have hhi := fl_step (a := hi - l.b) ha
    have cases_u : nearV l (loV l lo hi) (hiV l lo hi) x = fl (x - l.b) l.a ∨ nearV l (loV l lo hi) (hiV l lo hi) x = fl (x - l.b) l.a + 1 ∨ nearV l (loV l lo hi) (hiV l lo hi) x = loV l lo hi ∨ nearV l (loV l lo hi) (hiV l lo hi) x = hiV l lo hi := by
      unfold nearV
      rw [if_neg ha]
      generalize loV l lo hi = f at *
      generalize hiV l lo hi = t at *
      generalize fl (x - l.b) l.a = q at *
      have a1 : clamp q f t = q ∨ clamp q f t = f ∨ clamp q f t = t := by unfold clamp; omega
      have a2 : clamp (q + 1) f t = q + 1 ∨ clamp (q + 1) f t = f ∨ clamp (q + 1) f t = t := by unfold clamp; omega
      split
      · omega
      · omega
    have cases_lo : loV l lo hi = l.f ∨ loV l lo hi = fl (lo - l.b) l.a ∨ loV l lo hi = fl (lo - l.b) l.a + 1 ∨ loV l lo hi = fl (hi - l.b) l.a ∨ loV l lo hi = fl (hi - l.b) l.a + 1 := by
      unfold loV
      rw [if_neg ha]
      split <;> omega
    have cases_hi : hiV l lo hi = l.t ∨ hiV l lo hi = fl (lo - l.b) l.a ∨ hiV l lo hi = fl (hi - l.b) l.a := by
      unfold hiV
      rw [if_neg ha]
      split <;> omega
    generalize nearV l (loV l lo hi) (hiV l lo hi) x = u at *
    generalize loV l lo hi = f at *
    generalize hiV l lo hi = t at *
    have e0 : ∀ q d, u = q + d → u = clamp (q + d) l.f l.t := fun q d e => by rw [← e]; exact (clamp_in h1 h2).symm
    unfold cands candsY
    rw [if_neg ha]
    generalize fl (x - l.b) l.a = q at *
    generalize fl (lo - l.b) l.a = p at *
    generalize fl (hi - l.b) l.a = r at *
    have f1 : u = l.f ∨ u = l.t ∨ u = q ∨ u = q + 1 ∨ u = p ∨ u = p + 1 ∨ u = r ∨ u = r + 1 := by omega
    have z0 : ∀ y : Int, y + 0 = y := Int.add_zero
    simp only [List.mem_append, List.mem_cons, List.not_mem_nil, or_false]
    rcases f1 with f1 | f1 | f1 | f1 | f1 | f1 | f1 | f1
    · simp [f1]
    · simp [f1]
    · have := e0 q 0 (by omega); exact .inr (.inl (.inr (.inl this)))
    · have := e0 q 1 f1; exact .inr (.inl (.inr (.inr (.inl this))))
    · have := e0 p 0 (by omega); exact .inr (.inr (.inl (.inr (.inl this))))
    · have := e0 p 1 f1; exact .inr (.inr (.inl (.inr (.inr (.inl this)))))
    · have := e0 r 0 (by omega); exact .inr (.inr (.inr (.inr (.inl this))))
    · have := e0 r 1 f1; exact .inr (.inr (.inr (.inr (.inr (.inl this)))))

/-- The best of the candidates that were seen. -/
def RBest (g : Nat → Ln) (n : Nat) (S : Int → Prop) (lo hi x v d : Int) (some : Bool) : Prop :=
  (some = true ∧ ∃ m, Can g n lo hi v m ∧ d = sz (m - x) ∧ ∀ w m', S w → Can g n lo hi w m' → Nearer x m v m' w) ∨ (some = false ∧ v = 0 ∧ d = 0 ∧ ∀ w m', S w → ¬ Can g n lo hi w m')
theorem RBest.none {g : Nat → Ln} {n : Nat} {lo hi x : Int} {S : Int → Prop} (h : ∀ w, ¬ S w) : RBest g n S lo hi x 0 0 false := .inr ⟨rfl, rfl, rfl, fun w _ hs => absurd hs (h w)⟩
theorem RBest.skip {g : Nat → Ln} {n : Nat} {lo hi x v d c : Int} {some : Bool} {S : Int → Prop} (h : RBest g n S lo hi x v d some) (hc : ∀ m, ¬ Can g n lo hi c m) : RBest g n (fun w => S w ∨ w = c) lo hi x v d some := by
  rcases h with ⟨rfl, m, h1, h2, h3⟩ | ⟨rfl, rfl, rfl, h1⟩
  · refine .inl ⟨rfl, m, h1, h2, ?_⟩
    rintro w m' (hs | rfl) hm
    · exact h3 w m' hs hm
    · exact absurd hm (hc _)
  · refine .inr ⟨rfl, rfl, rfl, ?_⟩
    rintro w m' (hs | rfl) hm
    · exact h1 w m' hs hm
    · exact hc _ hm
theorem RBest.take {g : Nat → Ln} {n : Nat} (hg : Good g n) {lo hi x v d c m : Int} {some : Bool} {S : Int → Prop} (h : RBest g n S lo hi x v d some) (hc : Can g n lo hi c m) (hd : some = true → sz (m - x) < d ∨ sz (m - x) = d ∧ c < v) : RBest g n (fun w => S w ∨ w = c) lo hi x c (sz (m - x)) true := by
  refine .inl ⟨rfl, m, hc, rfl, ?_⟩
  rcases h with ⟨rfl, m0, h1, rfl, h3⟩ | ⟨rfl, rfl, rfl, h1⟩
  · have hd := hd rfl
    rintro w m' (hs | rfl) hm
    · have := h3 w m' hs hm
      unfold Nearer at *
      omega
    · rw [hc.eq hg hm]; unfold Nearer; omega
  · rintro w m' (hs | rfl) hm
    · exact absurd hm (h1 w m' hs)
    · rw [hc.eq hg hm]; unfold Nearer; omega
theorem RBest.stay {g : Nat → Ln} {n : Nat} (hg : Good g n) {lo hi x v d c m : Int} {S : Int → Prop} (h : RBest g n S lo hi x v d true) (hc : Can g n lo hi c m) (hd : d < sz (m - x) ∨ sz (m - x) = d ∧ v ≤ c) : RBest g n (fun w => S w ∨ w = c) lo hi x v d true := by
  rcases h with ⟨_, m0, h1, rfl, h3⟩ | ⟨h, _⟩
  · refine .inl ⟨rfl, m0, h1, rfl, ?_⟩
    rintro w m' (hs | rfl) hm
    · exact h3 w m' hs hm
    · rw [← hc.eq hg hm]; unfold Nearer; omega
  · cases h
theorem RBest.same {g : Nat → Ln} {n : Nat} {lo hi x v d : Int} {some : Bool} {S S' : Int → Prop} (h : RBest g n S lo hi x v d some) (hs : ∀ w, S' w → S w) : RBest g n S' lo hi x v d some := by
  rcases h with ⟨rfl, m, h1, h2, h3⟩ | ⟨rfl, rfl, rfl, h1⟩
  · exact .inl ⟨rfl, m, h1, h2, fun w m' hw hm => h3 w m' (hs w hw) hm⟩
  · exact .inr ⟨rfl, rfl, rfl, fun w m' hw hm => h1 w m' (hs w hw) hm⟩
theorem RBest.done {g : Nat → Ln} {n : Nat} {lo hi x v d : Int} {some : Bool} (h : RBest g n (fun w => ∃ k, k < n ∧ w ∈ cands (g k) lo hi x) lo hi x v d some) : Near g n lo hi x v (if some then 0 else 4) := by
  have key : ∀ w m', Can g n lo hi w m' → ∃ u m, (∃ k, k < n ∧ u ∈ cands (g k) lo hi x) ∧ Can g n lo hi u m ∧ Nearer x m u m' w := by
    rintro w m' ⟨k, hk, k1, k2, rfl, k3, k4⟩
    have hp := (possible_iff (g k) lo hi w).2 ⟨k1, k2, k3, k4⟩
    have hb := nearV_best (l := g k) (x := x) (lo := lo) (hi := hi) (by omega)
    have hc := nearV_cand (l := g k) (x := x) (lo := lo) (hi := hi) (by omega)
    obtain ⟨b1, b2, b3, b4, b5⟩ := hb
    exact ⟨_, _, ⟨k, hk, hc⟩, ⟨k, hk, b1, b2, rfl, b3, b4⟩, b5 w k1 k2 k3 k4⟩
  rcases h with ⟨rfl, m, b1, rfl, b3⟩ | ⟨rfl, rfl, rfl, b1⟩
  · refine .inl ⟨rfl, m, b1, fun w m' hw => ?_⟩
    obtain ⟨u, m2, hs, hu, hn⟩ := key w m' hw
    have := b3 u m2 hs hu
    unfold Nearer at *
    omega
  · refine .inr ⟨rfl, rfl, fun w m' hw => ?_⟩
    obtain ⟨u, m2, hs, hu, hn⟩ := key w m' hw
    exact b1 u m2 hs hu
attribute [irreducible] calE lnOk isN bad1 bad2 lnsE fl cl loV hiV clamp nearV grainTo sz
end Go.Proofs.YtocaphcnnmcnjaaGreatDoor

/-
  The small functions of package series and of its reference: contracts.
-/
namespace Go.Proofs.YtocaphcnnmcnjaaGreatDoor
open Go.RowKit
-- AT2

theorem ret_b {a b : Bool} (h : a = b) : Ending.returned (.bool a) = .returned (.bool b) := by rw [h]
theorem ret_i {k : IntKind} {a b : Int} (h : a = b) : Ending.returned (.int k a) = .returned (.int k b) := by rw [h]
theorem ne0 {n : Int} (h : n ≠ 0) : (n != 0) = true := by simpa using h
theorem ne0' {n : Int} (h : n ≠ 0) : (n == 0) = false := by simpa using h
/-- n is from -m to m. -/
@[irreducible] def wB (n m : Int) : Bool := decide (-m ≤ n ∧ n ≤ m)
theorem wB_iff {n m : Int} : wB n m = true ↔ -m ≤ n ∧ n ≤ m := by unfold wB; simp
theorem wB_no {n m : Int} : wB n m = false ↔ ¬ (-m ≤ n ∧ n ≤ m) := by unfold wB; simp
@[irreducible] def nB (n : Int) : Bool := decide (isN n)
theorem nB_iff {n : Int} : nB n = true ↔ isN n := by unfold nB; simp
theorem nB_no {n : Int} : nB n = false ↔ ¬ isN n := by unfold nB; simp
theorem nB_of {n : Int} : wB n 1125899906842624 = nB n := by unfold wB nB isN; rfl
/-- n is from a to b. -/
@[irreducible] def inB (a b n : Int) : Bool := decide (a ≤ n ∧ n ≤ b)
theorem inB_iff {a b n : Int} : inB a b n = true ↔ a ≤ n ∧ n ≤ b := by unfold inB; simp
theorem inB_no {a b n : Int} : inB a b n = false ↔ ¬ (a ≤ n ∧ n ≤ b) := by unfold inB; simp
@[irreducible] def lB (l : Ln) : Bool := decide (lnOk l)
theorem lB_iff {l : Ln} : lB l = true ↔ lnOk l := by unfold lB; simp
theorem lB_no {l : Ln} : lB l = false ↔ ¬ lnOk l := by unfold lB; simp

theorem isWithin_any (n m : Int) (w : World) (h0 : 0 ≤ m) (h1 : m ≤ 1125899906842624) : Calls Tryz.prog 135 #[.int .i64 n, .int .i64 m] w fun e w' => e = .returned (.bool (wB n m)) ∧ w = w' := by
  by_cases h2 : -m ≤ n
  · by_cases h3 : n ≤ m
    · have e : wB n m = true := wB_iff.2 ⟨h2, h3⟩
      rw [e]; clear e
      go_enter Tryz.func135, Tryz.ntmps135
      go_wp2
      go_ret
      exact ⟨rfl, rfl⟩
    · have e : wB n m = false := wB_no.2 (fun h => h3 h.2)
      rw [e]; clear e
      go_enter Tryz.func135, Tryz.ntmps135
      go_wp2
      go_ret
      exact ⟨rfl, rfl⟩
  · have e : wB n m = false := wB_no.2 (fun h => h2 h.1)
    rw [e]; clear e
    go_enter Tryz.func135, Tryz.ntmps135
    go_wp2
    go_ret
    exact ⟨rfl, rfl⟩
theorem isNumber_any (n : Int) (w : World) : Calls Tryz.prog 123 #[.int .i64 n] w fun e w' => e = .returned (.bool (nB n)) ∧ w = w' := by
  rw [← nB_of]
  go_enter Tryz.func123, Tryz.ntmps123
  go_wp2_with (go_at_call 135; refine (isWithin_any _ _ _ (by omega) (by omega)).mono ?_; rintro e w' ⟨rfl, rfl⟩)
  go_ret
  exact ⟨rfl, rfl⟩
theorem isDen_any (n : Int) (w : World) : Calls Tryz.prog 121 #[.int .i64 n] w fun e w' => e = .returned (.bool (inB 1 1000000 n)) ∧ w = w' := by
  by_cases h2 : 1 ≤ n
  · by_cases h3 : n ≤ 1000000
    · rw [inB_iff.2 ⟨h2, h3⟩]
      go_enter Tryz.func121, Tryz.ntmps121
      go_wp2
      go_ret
      exact ⟨rfl, rfl⟩
    · rw [inB_no.2 (fun h => h3 h.2)]
      go_enter Tryz.func121, Tryz.ntmps121
      go_wp2
      go_ret
      exact ⟨rfl, rfl⟩
  · rw [inB_no.2 (fun h => h2 h.1)]
    go_enter Tryz.func121, Tryz.ntmps121
    go_wp2
    go_ret
    exact ⟨rfl, rfl⟩
theorem isTime_any (n : Int) (w : World) : Calls Tryz.prog 122 #[.int .i64 n] w fun e w' => e = .returned (.bool (inB 0 1099511627776 n)) ∧ w = w' := by
  by_cases h2 : 0 ≤ n
  · by_cases h3 : n ≤ 1099511627776
    · rw [inB_iff.2 ⟨h2, h3⟩]
      go_enter Tryz.func122, Tryz.ntmps122
      go_wp2
      go_ret
      exact ⟨rfl, rfl⟩
    · rw [inB_no.2 (fun h => h3 h.2)]
      go_enter Tryz.func122, Tryz.ntmps122
      go_wp2
      go_ret
      exact ⟨rfl, rfl⟩
  · rw [inB_no.2 (fun h => h2 h.1)]
    go_enter Tryz.func122, Tryz.ntmps122
    go_wp2
    go_ret
    exact ⟨rfl, rfl⟩
theorem outside_any (n a b : Int) (w : World) : Calls Tryz.prog 106 #[.int .i64 n, .int .i64 a, .int .i64 b] w fun e w' => e = .returned (.bool !(inB a b n)) ∧ w = w' := by
  by_cases h2 : a ≤ n
  · by_cases h3 : n ≤ b
    · rw [inB_iff.2 ⟨h2, h3⟩]
      have d1 : decide (n < a) = false := decide_eq_false (by omega)
      have d2 : decide (b < n) = false := decide_eq_false (by omega)
      clear h2 h3
      go_enter Tryz.func106, Tryz.ntmps106
      go_wp2
      go_ret
      exact ⟨rfl, rfl⟩
    · rw [inB_no.2 (fun h => h3 h.2)]
      have d1 : decide (n < a) = false := decide_eq_false (by omega)
      have d2 : decide (b < n) = true := decide_eq_true (by omega)
      clear h2 h3
      go_enter Tryz.func106, Tryz.ntmps106
      go_wp2
      go_ret
      exact ⟨rfl, rfl⟩
  · rw [inB_no.2 (fun h => h2 h.1)]
    have d1 : decide (n < a) = true := decide_eq_true (by omega)
    clear h2
    go_enter Tryz.func106, Tryz.ntmps106
    go_wp2
    go_ret
    exact ⟨rfl, rfl⟩
/-- A line's value. -/
abbrev lnV (f t a b : Int) : Value := .agg #[.int .i64 f, .int .i64 t, .int .i64 a, .int .i64 b]
end Go.Proofs.YtocaphcnnmcnjaaGreatDoor

/-
  Series as mathematics: what is wrong with one, what is held at a time.
-/
namespace Go.Proofs.YtocaphcnnmcnjaaGreatDoor

structure Sm where
  t : Int
  n : Int
  m : Int
instance : Inhabited Sm := ⟨⟨0, 0, 0⟩⟩

theorem firstOf_or {f : Nat → Int} (k : Nat) : firstOf f (k + 1) = if firstOf f k = 0 then f k else firstOf f k := rfl
/-- The first place at which f is not 0; -1: there is none. -/
def placeOf (f : Nat → Int) : Nat → Int
  | 0 => -1
  | k + 1 => if firstOf f k = 0 then (if f k = 0 then -1 else (k : Int)) else placeOf f k
theorem placeOf_no {f : Nat → Int} : ∀ {n : Nat}, firstOf f n = 0 → placeOf f n = -1
  | 0, _ => rfl
  | n + 1, h => by
    have h0 := firstOf_all h n (by omega)
    have h1 : firstOf f n = 0 := by
      rcases Classical.em (firstOf f n = 0) with e | e
      · exact e
      · have := firstOf_stays (j := 1) rfl e; rw [h] at this; exact absurd this.symm e
    show (if firstOf f n = 0 then (if f n = 0 then -1 else (n : Int)) else placeOf f n) = -1
    rw [if_pos h1, if_pos h0]
theorem placeOf_at {f : Nat → Int} {k n : Nat} (h : firstOf f k = 0) (hk : k < n) (hb : f k ≠ 0) : placeOf f n = k := by
  obtain ⟨d, rfl⟩ : ∃ d, n = k + 1 + d := ⟨n - (k + 1), by omega⟩
  clear hk
  induction d with
  | zero =>
    show (if firstOf f k = 0 then (if f k = 0 then -1 else (k : Int)) else placeOf f k) = k
    rw [if_pos h, if_neg hb]
  | succ d ih =>
    have := firstOf_bad (n := k + 1 + d) h (by omega) rfl hb
    show (if firstOf f (k + 1 + d) = 0 then (if f (k + 1 + d) = 0 then -1 else ((k + 1 + d : Nat) : Int)) else placeOf f (k + 1 + d)) = k
    rw [if_neg (by rw [this]; exact hb)]
    exact ih

def smOk (x : Sm) : Prop := 0 ≤ x.t ∧ x.t ≤ 1099511627776 ∧ -1125899906842624 ≤ x.n ∧ x.n ≤ 1125899906842624 ∧ 0 ≤ x.m ∧ x.m ≤ 4
instance (x : Sm) : Decidable (smOk x) := by unfold smOk; infer_instance
/-- What is wrong with the sample i. -/
def badS (g : Nat → Sm) (i : Nat) : Int := if ¬ smOk (g i) then 9 else if (g i).n ≠ 0 ∧ (g i).m < 2 then 2 else if 0 < i ∧ (g i).t ≤ (g (i - 1)).t then 10 else 0
theorem badS_9 {g : Nat → Sm} {i : Nat} (h : ¬ smOk (g i)) : badS g i = 9 := by unfold badS; rw [if_pos h]
theorem badS_2 {g : Nat → Sm} {i : Nat} (h : smOk (g i)) (h2 : (g i).n ≠ 0 ∧ (g i).m < 2) : badS g i = 2 := by unfold badS; rw [if_neg (fun k => k h), if_pos h2]
theorem badS_10 {g : Nat → Sm} {i : Nat} (h : smOk (g i)) (h2 : ¬ ((g i).n ≠ 0 ∧ (g i).m < 2)) (h3 : 0 < i ∧ (g i).t ≤ (g (i - 1)).t) : badS g i = 10 := by unfold badS; rw [if_neg (fun k => k h), if_neg h2, if_pos h3]
theorem badS_0 {g : Nat → Sm} {i : Nat} (h : smOk (g i)) (h2 : ¬ ((g i).n ≠ 0 ∧ (g i).m < 2)) (h3 : ¬ (0 < i ∧ (g i).t ≤ (g (i - 1)).t)) : badS g i = 0 := by unfold badS; rw [if_neg (fun k => k h), if_neg h2, if_neg h3]
/-- What is wrong with a series, and where. -/
def serE (den : Int) (g : Nat → Sm) (n : Nat) : Int := if ¬ (1 ≤ den ∧ den ≤ 1000000) then 9 else if 20000 < n then 3 else firstOf (badS g) n
def serI (den : Int) (g : Nat → Sm) (n : Nat) : Int := if ¬ (1 ≤ den ∧ den ≤ 1000000) then -1 else if 20000 < n then -1 else placeOf (badS g) n

/-- A good series. -/
structure GoodS (g : Nat → Sm) (n : Nat) : Prop where
  ok : ∀ i, i < n → smOk (g i)
  num : ∀ i, i < n → (g i).m < 2 → (g i).n = 0
  rise : ∀ i, i + 1 < n → (g i).t < (g (i + 1)).t
theorem goodS_of {den : Int} {g : Nat → Sm} {n : Nat} (h : serE den g n = 0) : (1 ≤ den ∧ den ≤ 1000000) ∧ n ≤ 20000 ∧ GoodS g n := by
  unfold serE at h
  split at h
  · omega
  · split at h
    · omega
    · rename_i h1 h2
      have ha := firstOf_all h
      refine ⟨by omega, by omega, ⟨fun i hi => ?_, fun i hi hm => ?_, fun i hi => ?_⟩⟩
      · have := ha i hi
        unfold badS at this
        by_cases e : smOk (g i)
        · exact e
        · rw [if_pos e] at this; omega
      · have := ha i hi
        unfold badS at this
        split at this
        · omega
        · split at this
          · omega
          · omega
      · have := ha (i + 1) hi
        unfold badS at this
        split at this
        · omega
        · split at this
          · omega
          · split at this
            · omega
            · rename_i h5
              rw [show i + 1 - 1 = i by omega] at h5
              omega
theorem goodS_back {den : Int} {g : Nat → Sm} {n : Nat} (hd : 1 ≤ den ∧ den ≤ 1000000) (hn : n ≤ 20000) (h : GoodS g n) : serE den g n = 0 := by
  unfold serE
  rw [if_neg (fun k => k hd), if_neg (by omega)]
  have : ∀ k, k ≤ n → firstOf (badS g) k = 0 := by
    intro k
    induction k with
    | zero => intro _; rfl
    | succ k ih =>
      intro hk
      rw [firstOf_succ (ih (by omega))]
      refine badS_0 (h.ok k (by omega)) ?_ ?_
      · rintro ⟨h1, h2⟩; exact h1 (h.num k (by omega) h2)
      · rintro ⟨h1, h2⟩
        obtain ⟨j, rfl⟩ : ∃ j, k = j + 1 := ⟨k - 1, by omega⟩
        have := h.rise j (by omega)
        rw [show j + 1 - 1 = j by omega] at h2
        omega
  exact this n (Nat.le_refl _)
theorem GoodS.lt {g : Nat → Sm} {n : Nat} (h : GoodS g n) : ∀ {i j : Nat}, i < j → j < n → (g i).t < (g j).t := by
  intro i j hij hj
  obtain ⟨d, rfl⟩ : ∃ d, j = i + 1 + d := ⟨j - (i + 1), by omega⟩
  clear hij
  induction d with
  | zero => exact h.rise i hj
  | succ d ih =>
    have h1 := ih (by omega)
    have h2 := h.rise (i + 1 + d) (by omega)
    rw [show i + 1 + (d + 1) = i + 1 + d + 1 by omega]
    omega
theorem GoodS.le {g : Nat → Sm} {n : Nat} (h : GoodS g n) {i j : Nat} (hij : i ≤ j) (hj : j < n) : (g i).t ≤ (g j).t := by
  rcases Nat.lt_or_ge i j with h1 | h1
  · have := h.lt h1 hj; omega
  · obtain rfl : i = j := by omega
    exact Int.le_refl _
/-- How many samples are ahead of a time. -/
def aheadN (g : Nat → Sm) (t : Int) : Nat → Nat
  | 0 => 0
  | k + 1 => aheadN g t k + if (g k).t < t then 1 else 0
theorem aheadN_le (g : Nat → Sm) (t : Int) : ∀ n, aheadN g t n ≤ n
  | 0 => Nat.le_refl _
  | n + 1 => by have := aheadN_le g t n; unfold aheadN; split <;> omega
theorem aheadN_is {g : Nat → Sm} {n : Nat} (h : GoodS g n) (t : Int) : (∀ i, i < aheadN g t n → (g i).t < t) ∧ (∀ i, aheadN g t n ≤ i → i < n → t ≤ (g i).t) := by
  have key : ∀ k, k ≤ n → (∀ i, i < aheadN g t k → (g i).t < t) ∧ (∀ i, aheadN g t k ≤ i → i < k → t ≤ (g i).t) := by
    intro k
    induction k with
    | zero => intro _; exact ⟨fun i hi => by unfold aheadN at hi; omega, fun i _ hi => by omega⟩
    | succ k ih =>
      intro hk
      obtain ⟨h1, h2⟩ := ih (by omega)
      have hle := aheadN_le g t k
      unfold aheadN
      by_cases hc : (g k).t < t
      · rw [if_pos hc]
        have hall : aheadN g t k = k := by
          rcases Nat.lt_or_ge (aheadN g t k) k with h3 | h3
          · have := h2 (aheadN g t k) (Nat.le_refl _) h3
            have := h.lt h3 (by omega)
            omega
          · omega
        rw [hall]
        refine ⟨fun i hi => ?_, fun i h3 h4 => by omega⟩
        rcases Nat.lt_or_ge i k with h5 | h5
        · exact h1 i (by omega)
        · obtain rfl : i = k := by omega
          exact hc
      · rw [if_neg hc]
        refine ⟨fun i hi => h1 i (by omega), fun i h3 h4 => ?_⟩
        rcases Nat.lt_or_ge i k with h5 | h5
        · exact h2 i (by omega) h5
        · obtain rfl : i = k := by omega
          omega
  exact key n (Nat.le_refl _)
theorem aheadN_uniq {g : Nat → Sm} {n : Nat} (h : GoodS g n) {t : Int} {c : Nat} (hc : c ≤ n) (h1 : ∀ i, i < c → (g i).t < t) (h2 : ∀ i, c ≤ i → i < n → t ≤ (g i).t) : aheadN g t n = c := by
  obtain ⟨k1, k2⟩ := aheadN_is h t
  have k3 := aheadN_le g t n
  rcases Nat.lt_trichotomy (aheadN g t n) c with h3 | h3 | h3
  · have a := h1 _ h3
    have b := k2 _ (Nat.le_refl _) (by omega)
    omega
  · exact h3
  · have a := k1 _ h3
    have b := h2 _ (Nat.le_refl _) (by omega)
    omega
theorem aheadN_countP (g : Nat → Sm) (t : Int) : ∀ n, (List.range n).countP (fun i => !decide (t ≤ (g i).t)) = aheadN g t n
  | 0 => rfl
  | n + 1 => by
    rw [List.range_succ, List.countP_append, aheadN_countP g t n]
    show _ = aheadN g t n + (if (g n).t < t then 1 else 0)
    congr 1
    by_cases hc : (g n).t < t
    · rw [if_pos hc]
      have : ¬ t ≤ (g n).t := by omega
      simp [this]
    · rw [if_neg hc]
      have : t ≤ (g n).t := by omega
      simp [this]

/-- Is something held? c samples are not later than the time. -/
def heldB (g : Nat → Sm) (c : Nat) (at' long : Int) : Bool := decide (0 < c ∧ 3 ≤ (g (c - 1)).m ∧ at' - (g (c - 1)).t ≤ long)
def heldV (g : Nat → Sm) (c : Nat) (at' long : Int) : Sm := if heldB g c at' long = true then g (c - 1) else ⟨0, 0, 0⟩
theorem heldB_iff {g : Nat → Sm} {c : Nat} {a l : Int} : heldB g c a l = true ↔ 0 < c ∧ 3 ≤ (g (c - 1)).m ∧ a - (g (c - 1)).t ≤ l := by unfold heldB; exact decide_eq_true_iff
theorem heldB_no {g : Nat → Sm} {c : Nat} {a l : Int} : heldB g c a l = false ↔ ¬ (0 < c ∧ 3 ≤ (g (c - 1)).m ∧ a - (g (c - 1)).t ≤ l) := by unfold heldB; exact decide_eq_false_iff_not
theorem heldV_yes {g : Nat → Sm} {c : Nat} {a l : Int} (h : heldB g c a l = true) : heldV g c a l = g (c - 1) := by unfold heldV; rw [if_pos h]
theorem heldV_no {g : Nat → Sm} {c : Nat} {a l : Int} (h : heldB g c a l = false) : heldV g c a l = ⟨0, 0, 0⟩ := by unfold heldV; rw [h]; rfl
attribute [irreducible] smOk badS serE serI aheadN heldB heldV placeOf
end Go.Proofs.YtocaphcnnmcnjaaGreatDoor
