/-
  Worlds that only grew: new blocks behind the old ones, and draws. Frames as cells. (My own words for the walks of package frame.)
-/
import Derived.Test.YtllahhmonoedmaaDoorProg
import Derived.Test.YtllahhmonoedmaaDoorPure
import Derived.WalkKit
import Derived.WalkSpells
import Derived.WalkLawsBesides
import Derived.BigQuiet
import Derived.Deep.QuietTactic
import Derived.Deep.MidRow
import Derived.Outline
import Derived.Lib.BitFns
import Derived.Lib.Hide
namespace Go.Proofs.YtllahhmonoedmaaDoor
open Go.RowKit

structure Ext where
  blocks : Array Obj
  drawn : Nat

instance : Inhabited Ext := ⟨⟨#[], 0⟩⟩
def Ext.app (x y : Ext) : Ext := ⟨x.blocks ++ y.blocks, y.drawn⟩
def Ext.tick (x : Ext) (n : Nat) : Ext := ⟨x.blocks, x.drawn + n⟩
def Ext.n (x : Ext) : Nat := x.blocks.size

/-- The world with new blocks, and with as many draws as may be. -/
def gx (w : World) (x : Ext) : World := { w with heap := w.heap ++ x.blocks, drawn := x.drawn }

section
variable (w : World) (x y : Ext)
@[go_sem] theorem gx_gx : gx (gx w x) y = gx w (x.app y) := by
  simp [gx, Ext.app, Array.append_assoc]
@[go_sem] theorem drew_gx : (gx w x).drew = gx w (x.tick 1) := by
  simp [-World.drew_eq, gx, World.drew, Ext.tick]
@[go_sem] theorem drewN_gx (n : Nat) : (gx w x).drewN n = gx w (x.tick n) := by
  simp [gx, World.drewN, Ext.tick]
@[go_sem] theorem gx_drew : gx w.drew x = gx w x := by
  simp [-World.drew_eq, gx, World.drew]
@[go_sem] theorem gx_drewN (n : Nat) : gx (w.drewN n) x = gx w x := by
  simp [gx, World.drewN]
@[simp, go_sem] theorem size_gx : (gx w x).heap.size = w.heap.size + x.n := by
  simp [gx, Ext.n]
theorem heap_gx (b : Nat) (h : b < w.heap.size) : (gx w x).heap[b]? = w.heap[b]? := by
  simp [gx, Array.getElem?_append_left h]
@[go_sem] theorem cell_gx (b o : Nat) (s : Option Nat) (h : b < w.heap.size) : (gx w x).cell? ⟨b, o, s⟩ = w.cell? ⟨b, o, s⟩ := by
  simp [World.cell?, heap_gx w x b h]
@[go_sem] theorem frozen_gx (b o : Nat) (s : Option Nat) (h : b < w.heap.size) : (gx w x).frozen? ⟨b, o, s⟩ = w.frozen? ⟨b, o, s⟩ := by
  simp [World.frozen?, heap_gx w x b h]
@[go_sem] theorem tape_gx : (gx w x).tape = w.tape := rfl
@[go_sem] theorem setCell_gx (b o : Nat) (s : Option Nat) (v : Value) (h : b < w.heap.size) : (gx w x).setCell ⟨b, o, s⟩ v = gx (w.setCell ⟨b, o, s⟩ v) x := by
  simp only [gx, World.setCell]
  congr 1
  apply Array.ext_getElem?
  intro i
  rw [Array.getElem?_modify]
  by_cases hi : b = i
  · subst hi
    rw [if_pos rfl, Array.getElem?_append_left h, Array.getElem?_append_left (by simpa using h), Array.getElem?_modify, if_pos rfl]
  · rw [if_neg hi]
    simp [Array.getElem?_append, Array.getElem?_modify, hi]
theorem alloc_is (o : Obj) : w.alloc o = gx w ⟨#[o], w.drawn⟩ := by
  simp [-World.alloc_eq, gx, World.alloc]
theorem drew_is : w.drew = gx w ⟨#[], w.drawn + 1⟩ := by simp [-World.drew_eq, gx, World.drew]
theorem drewN_is (n : Nat) : w.drewN n = gx w ⟨#[], w.drawn + n⟩ := by simp [gx, World.drewN]
theorem gx_none : gx w ⟨#[], w.drawn⟩ = w := by simp [gx]
theorem size_alloc' (o : Obj) : (w.alloc o).heap.size = w.heap.size + 1 := by simp
end

theorem gx_of_below {w w' : World} (h : Below w.heap.size w w') : ∃ x, w' = gx w x := by
  refine ⟨⟨w'.heap.extract w.heap.size w'.heap.size, w'.drawn⟩, ?_⟩
  have hh : w'.heap = w.heap ++ w'.heap.extract w.heap.size w'.heap.size := by
    apply Array.ext_getElem?
    intro i
    by_cases hi : i < w.heap.size
    · rw [Array.getElem?_append_left hi, h.block i hi]
    · rw [Array.getElem?_append_right (by omega), Array.getElem?_extract]
      have := h.size
      split
      · congr 1; omega
      · exact Array.getElem?_eq_none (by omega)
  obtain ⟨hp, tp, dr, os, out⟩ := w'
  have e1 : os = w.os := h.os
  have e2 : tp = w.tape := h.tape
  have e3 : out = w.output := h.output
  subst e1 e2 e3
  simp only [gx]
  congr 1
theorem below_gx (w : World) (x : Ext) : Below w.heap.size w (gx w x) :=
  ⟨rfl, rfl, rfl, by rw [size_gx]; omega, fun k hk => heap_gx w x k hk⟩
theorem Gx.refl (w : World) : ∃ x, w = gx w x := ⟨⟨#[], w.drawn⟩, (gx_none w).symm⟩
theorem Gx.gx {w w' : World} {y : Ext} (h : ∃ x, w' = gx w x) : ∃ x, gx w' y = gx w x := by
  obtain ⟨x, rfl⟩ := h; exact ⟨_, gx_gx _ _ _⟩
theorem Gx.alloc {w w' : World} {o : Obj} (h : ∃ x, w' = Go.Proofs.YtllahhmonoedmaaDoor.gx w x) : ∃ x, w'.alloc o = Go.Proofs.YtllahhmonoedmaaDoor.gx w x := by
  rw [alloc_is]; exact Gx.gx h
theorem Gx.drew {w w' : World} (h : ∃ x, w' = Go.Proofs.YtllahhmonoedmaaDoor.gx w x) : ∃ x, w'.drew = Go.Proofs.YtllahhmonoedmaaDoor.gx w x := by
  rw [drew_is]; exact Gx.gx h
theorem Gx.drewN {w w' : World} {n : Nat} (h : ∃ x, w' = Go.Proofs.YtllahhmonoedmaaDoor.gx w x) : ∃ x, w'.drewN n = Go.Proofs.YtllahhmonoedmaaDoor.gx w x := by
  rw [drewN_is]; exact Gx.gx h

/-- A region that draws its order, whose operations read and whose callees only make memory: one walk in the order of the text. -/
theorem region_gx {P : Program} {id : Nat} {Q : Exit → Act → World → Prop} {a : Act} {w : World} {l : List Oper} (hm : P.follows .mixedOrders = true) (hB : Region.lexB .any l.toArray = true)
    (h : wpQuiet P l.toArray (fun w' => ∃ x, w' = gx w x) (fun a' => ∀ w', (∃ x, w' = gx w x) → Q .normal a' w') l a) : (Code.region id l.toArray true).wp P Q a w :=
  wp_region_quiet (C := fun w' => ∃ x, w' = gx w x) hm hB ⟨_, drew_is w⟩ (by simpa using h)

/-- The same where the world has grown already. -/
theorem region_gxx {P : Program} {id : Nat} {Q : Exit → Act → World → Prop} {a : Act} {w : World} {y : Ext} {l : List Oper} (hm : P.follows .mixedOrders = true) (hB : Region.lexB .any l.toArray = true)
    (h : wpQuiet P l.toArray (fun w' => ∃ x, w' = gx w x) (fun a' => ∀ w', (∃ x, w' = gx w x) → Q .normal a' w') l a) : (Code.region id l.toArray true).wp P Q a (gx w y) :=
  wp_region_quiet (C := fun w' => ∃ x, w' = gx w x) hm hB ⟨_, drew_gx w y⟩ (by simpa using h)

theorem calls_gx {P : Program} {f : FuncId} {args : Array Value} {w : World} {x : Ext} {v : Value}
    (h : Calls P f args (gx w x) fun e w' => e = .returned v ∧ ∃ y, w' = gx (gx w x) y) : Calls P f args (gx w x) fun e w'' => e = .returned v ∧ ∃ y, w'' = gx w y :=
  h.mono fun _ _ ⟨he, y, hy⟩ => ⟨he, x.app y, by rw [hy, gx_gx]⟩
theorem calls_gx_same {P : Program} {f : FuncId} {args : Array Value} {w : World} {x : Ext} {v : Value}
    (h : Calls P f args (gx w x) fun e w' => e = .returned v ∧ gx w x = w') : Calls P f args (gx w x) fun e w'' => e = .returned v ∧ ∃ y, w'' = gx w y :=
  h.mono fun _ _ ⟨he, hy⟩ => ⟨he, x, hy.symm⟩

/-! Bits. -/
theorem wraps_u16 (n : Int) (h0 : 0 ≤ n) (h1 : n < 2 ^ 16) : IntKind.u16.wrap n = n := IntWalk.u16_in n (by omega)
theorem wraps_u32 (n : Int) (h0 : 0 ≤ n) (h1 : n < 2 ^ 32) : IntKind.u32.wrap n = n := IntWalk.u32_in n (by omega)
theorem wraps_i64 (n : Int) (h0 : 0 ≤ n) (h1 : n < 2 ^ 63) : IntKind.i64.wrap n = n := IntWalk.i64_in n (by omega)
theorem wraps_u64 (n : Int) (h0 : 0 ≤ n) (h1 : n < 2 ^ 64) : IntKind.u64.wrap n = n := IntWalk.u64_in n (by omega)
theorem bits_xor (k : IntKind) (j : Nat) (hj : j ≤ k.bits) (hk : ∀ n : Int, 0 ≤ n → n < 2 ^ j → k.wrap n = n) (a b : Int) (ha0 : 0 ≤ a) (ha : a < 2 ^ j) (hb0 : 0 ≤ b) (hb : b < 2 ^ j) :
    bits .xor k a b = xorI a b := by
  obtain ⟨a, rfl⟩ := Int.eq_ofNat_of_zero_le ha0
  obtain ⟨b, rfl⟩ := Int.eq_ofNat_of_zero_le hb0
  have ha : a < 2 ^ j := by exact_mod_cast ha
  have hb : b < 2 ^ j := by exact_mod_cast hb
  have hp : 2 ^ j ≤ 2 ^ k.bits := Nat.pow_le_pow_right (by decide) hj
  have ha' : a % 2 ^ k.bits = a := Nat.mod_eq_of_lt (Nat.lt_of_lt_of_le ha hp)
  have hb' : b % 2 ^ k.bits = b := Nat.mod_eq_of_lt (Nat.lt_of_lt_of_le hb hp)
  have cast : ∀ n : Nat, n < 2 ^ j → ((n : Nat) : Int) < 2 ^ j := fun n h => by exact_mod_cast h
  simp only [bits, BitVec.ofInt_natCast, BitVec.toNat_xor, BitVec.toNat_ofNat, ha', hb', xorI, Int.toNat_natCast]
  exact hk _ (Int.natCast_nonneg _) (cast _ (Nat.xor_lt_two_pow ha hb))
theorem u16_and255 (a : Int) (h0 : 0 ≤ a) (h1 : a ≤ 65535) : bits .and .u16 a 255 = a % 256 := bits_mask .u16 16 (by decide) wraps_u16 8 (by decide) a h0 (by omega)
theorem u16_and15 (a : Int) (h0 : 0 ≤ a) (h1 : a ≤ 65535) : bits .and .u16 a 15 = a % 16 := bits_mask .u16 16 (by decide) wraps_u16 4 (by decide) a h0 (by omega)
theorem u16_or2048 (a : Int) (h0 : 0 ≤ a) (h1 : a ≤ 2047) : bits .or .u16 a 2048 = a + 2048 := by
  have e := bits_join .u16 16 (by decide) wraps_u16 11 2048 a (by decide) (by decide) (by decide) h0 (by omega) (by omega)
  have c : bits .or .u16 a 2048 = bits .or .u16 2048 a := by simp only [bits]; rw [BitVec.or_comm]
  rw [c, e]; omega

/-- The cells of a frame. -/
def fc (F : List Int) : Array Value := (F.map (Value.int .u16)).toArray
@[go_sem] theorem fc_get (F : List Int) (k : Nat) (h : k < F.length) : (fc F)[k]? = some (.int .u16 (gw F k)) := by
  simp [fc, gw, List.getD, List.getElem?_eq_getElem h]
@[go_sem] theorem fc_set (F : List Int) (k : Nat) (v : Int) : (fc F).setIfInBounds k (.int .u16 v) = fc (F.set k v) := by
  simp [fc, List.map_set]
theorem fc_size (F : List Int) : (fc F).size = F.length := by simp [fc]
end Go.Proofs.YtllahhmonoedmaaDoor
