/-
  Writing frames in place: contracts.
-/
import Derived.Test.YtllahhmonoedmaaDoorBytes
import Derived.StillTailTactics
namespace Go.Proofs.YtllahhmonoedmaaDoor
open Go.RowKit

theorem At.self {w : World} {g : Nat} {cs : Array Value} {t : TypeId} (h : At w g (.cells cs t (0, 0))) : w.setRow g cs = w := by
  have hh : (w.setRow g cs).heap = w.heap := by
    simp only [World.setRow]
    apply Array.ext_getElem?
    intro i
    rw [Array.getElem?_modify]
    by_cases hi : g = i
    · subst hi
      unfold At at h
      rw [if_pos rfl, h]; rfl
    · rw [if_neg hi]
  obtain ⟨hp, tp, dr, os, out⟩ := w
  simp only [World.setRow] at hh ⊢
  rw [hh]

section
variable {w : World} {g : Nat} {cs : Array Value}
@[go_sem] theorem cell_row (h : Is w g 5) (j : Nat) : (w.setRow g cs).cell? ⟨g, j, none⟩ = cs[j]? := cell_setRow_same w g j _ cs _ _ h.choose_spec
@[go_sem] theorem frozen_row (h : Is w g 5) (j : Nat) : (w.setRow g cs).frozen? ⟨g, j, none⟩ = false := frozen_of_row _ g j cs _ (At.row h)
@[go_sem] theorem setCell_row (h : Is w g 5) (j : Nat) (v : Value) : (w.setRow g cs).setCell ⟨g, j, none⟩ v = w.setRow g (cs.setIfInBounds j v) := by
  rw [setCell_eq_setRow _ g j cs _ (0, 0) v (At.row h), setRow_setRow]
@[go_sem] theorem row_row (c d : Array Value) : (w.setRow g c).setRow g d = w.setRow g d := setRow_setRow w g c d
end

/-- A region that draws its order, whose last operation alone writes. -/
theorem region_tail {P : Program} {id : Nat} {Q : Exit → Act → World → Prop} {a : Act} {w : World} {l : List Oper} (n : Nat) (hm : P.follows .mixedOrders = true) (hB : Region.lexTailB .any l.toArray n = true)
    (h : wpStill P l.toArray w.drew (fun a' => wpList P l.toArray Q (l.drop n) a' w.drew) (l.take n) a) : (Code.region id l.toArray true).wp P Q a w :=
  wp_region_still_tail n hm hB h

/-- The bytes behind the writing of a word at place i of the frame from q on. -/
def wrI (C : List Int) (q i : Nat) (v : Int) : List Int :=
  if i % 2 = 0 then (C.set (q + i / 2 * 3) (v / 16)).set (q + (i / 2 * 3 + 1)) (v % 16 * 16 + gw C (q + (i / 2 * 3 + 1)) % 16)
  else (C.set (q + (i / 2 * 3 + 1)) (gw C (q + (i / 2 * 3 + 1)) / 16 * 16 + v / 256)).set (q + (i / 2 * 3 + 2)) (v % 256)

theorem u8_and240 (x : Int) (h0 : 0 ≤ x) (h1 : x ≤ 255) : bits .and .u8 x 240 = x / 16 * 16 := by
  rw [u8_and x 240 h0 (by omega) (by decide) (by decide)]
  have e : (240 : Int).toNat = 240 := by decide
  rw [e, nat_hi8_4]
  omega

set_option maxHeartbeats 400000 in
set_option maxRecDepth 100000 in
theorem writeWord_row (C : List Int) (hC : Bs C) (q i : Nat) (hi : i < 64) (hq : q + 96 ≤ C.length) (v : Int) (v0 : 0 ≤ v) (v1 : v ≤ 4095) (w : World) (g : Nat) (hI : Is w g 5) :
    Calls Tryd.prog 113 #[.pointer (some ⟨g, q, none⟩), .int .i64 i, .int .u16 v] (w.setRow g (bc C)) fun e w' => e = .returned (.tuple #[]) ∧ ∃ x, w' = gx (w.setRow g (bc (wrI C q i v))) x := by
  have i0 : i / 2 * 3 < 96 := by omega
  have i1 : i / 2 * 3 + 1 < 96 := by omega
  have i2 : i / 2 * 3 + 2 < 96 := by omega
  have j0 : q + i / 2 * 3 < C.length := by omega
  have j1 : q + (i / 2 * 3 + 1) < C.length := by omega
  have j2 : q + (i / 2 * 3 + 2) < C.length := by omega
  have m0 : 0 ≤ gw C (q + (i / 2 * 3 + 1)) := (hC _).1
  have m1 : gw C (q + (i / 2 * 3 + 1)) ≤ 255 := (hC _).2
  by_cases h : i % 2 = 0
  · have h' : ((i : Int) % 2 == 0) = true := by rw [beq_iff_eq]; omega
    have hw : wrI C q i v = (C.set (q + i / 2 * 3) (v / 16)).set (q + (i / 2 * 3 + 1)) (v % 16 * 16 + gw C (q + (i / 2 * 3 + 1)) % 16) := by unfold wrI; rw [if_pos h]
    have Hw := Lib.hid hw
    have hg : gw (C.set (q + i / 2 * 3) (v / 16)) (q + (i / 2 * 3 + 1)) = gw C (q + (i / 2 * 3 + 1)) := by rw [gw_set _ _ _ _ j0, if_neg (by omega)]
    have x0 : bits .and .u16 v 15 = v % 16 := u16_and15 v v0 (by omega)
    have x1 : bits .and .u8 (gw C (q + (i / 2 * 3 + 1))) 15 = gw C (q + (i / 2 * 3 + 1)) % 16 := u8_and15 _ m0 (by omega)
    have x2 : bits .or .u8 (v % 16 * 16) (gw C (q + (i / 2 * 3 + 1)) % 16) = v % 16 * 16 + gw C (q + (i / 2 * 3 + 1)) % 16 :=
      bits_join .u8 8 (by decide) wraps_u8 4 _ _ (by omega) (by omega) (by omega) (by omega) (by omega) (by omega)
    have s1 : IntKind.i64.wrap ((i : Int) / 2 * 3 + 1) = (i : Int) / 2 * 3 + 1 := IntWalk.i64_in _ (by omega)
    have s2 : 0 ≤ (i : Int) / 2 * 3 + 1 := by omega
    have s3 : (i : Int) / 2 * 3 + 1 < 96 := by omega
    have s4 : ((i : Int) / 2 * 3 + 1).toNat = i / 2 * 3 + 1 := by omega
    have s5 : IntKind.u8.wrap (v % 16) = v % 16 := IntWalk.u8_in _ (by omega)
    have s6 : IntKind.u8.wrap (v % 16 * 16) = v % 16 * 16 := IntWalk.u8_in _ (by omega)
    clear h hw
    go_enter Tryd.func113, Tryd.ntmps113
    go_wp2
    refine region_tail 17 (by kernel_rfl) (by kernel_rfl) ?_
    simp only [List.take_succ_cons, List.take_zero, List.drop_succ_cons, List.drop_zero]
    repeat still_step
    refine wpStill_nil ?_
    go_wp2
    exact bodyPost_ret (results_none rfl _ _ _) rfl ⟨rfl, by rw [Hw.out]; exact (by repeat (first | (with_reducible exact Gx.refl _) | (with_reducible assumption) | (with_reducible refine Gx.gx ?_) | (with_reducible refine Gx.alloc ?_) | (with_reducible refine Gx.drew ?_) | (with_reducible refine Gx.drewN ?_) | (with_reducible refine Gx.setRow ?_ (by simp)) | (with_reducible refine Gx.setCell ?_ (by simp))))⟩
  · have h' : ((i : Int) % 2 == 0) = false := by rw [beq_eq_false_iff_ne]; omega
    have hw : wrI C q i v = (C.set (q + (i / 2 * 3 + 1)) (gw C (q + (i / 2 * 3 + 1)) / 16 * 16 + v / 256)).set (q + (i / 2 * 3 + 2)) (v % 256) := by unfold wrI; rw [if_neg h]
    have Hw := Lib.hid hw
    have x0 : bits .and .u16 v 255 = v % 256 := u16_and255 v v0 (by omega)
    have x1 : bits .and .u8 (gw C (q + (i / 2 * 3 + 1))) 240 = gw C (q + (i / 2 * 3 + 1)) / 16 * 16 := u8_and240 _ m0 (by omega)
    have x2 : bits .or .u8 (gw C (q + (i / 2 * 3 + 1)) / 16 * 16) (v / 256) = gw C (q + (i / 2 * 3 + 1)) / 16 * 16 + v / 256 :=
      bits_join .u8 8 (by decide) wraps_u8 4 _ _ (by omega) (by omega) (by omega) (by omega) (by omega) (by omega)
    have s1 : IntKind.i64.wrap ((i : Int) / 2 * 3 + 1) = (i : Int) / 2 * 3 + 1 := IntWalk.i64_in _ (by omega)
    have s2 : 0 ≤ (i : Int) / 2 * 3 + 1 := by omega
    have s3 : (i : Int) / 2 * 3 + 1 < 96 := by omega
    have s4 : ((i : Int) / 2 * 3 + 1).toNat = i / 2 * 3 + 1 := by omega
    have s5 : IntKind.u8.wrap (v / 256) = v / 256 := IntWalk.u8_in _ (by omega)
    clear h hw
    go_enter Tryd.func113, Tryd.ntmps113
    go_wp2
    refine region_tail 16 (by kernel_rfl) (by kernel_rfl) ?_
    simp only [List.take_succ_cons, List.take_zero, List.drop_succ_cons, List.drop_zero]
    repeat still_step
    refine wpStill_nil ?_
    go_wp2
    go_end0
    exact ⟨rfl, by rw [Hw.out]; exact (by repeat (first | (with_reducible exact Gx.refl _) | (with_reducible assumption) | (with_reducible refine Gx.gx ?_) | (with_reducible refine Gx.alloc ?_) | (with_reducible refine Gx.drew ?_) | (with_reducible refine Gx.drewN ?_) | (with_reducible refine Gx.setRow ?_ (by simp)) | (with_reducible refine Gx.setCell ?_ (by simp))))⟩

theorem writeWord_any (C : List Int) (hC : Bs C) (q i : Nat) (hi : i < 64) (hq : q + 96 ≤ C.length) (v : Int) (v0 : 0 ≤ v) (v1 : v ≤ 4095) (w : World) (g : Nat) (hA : At w g (.cells (bc C) 5 (0, 0))) :
    Calls Tryd.prog 113 #[.pointer (some ⟨g, q, none⟩), .int .i64 i, .int .u16 v] w fun e w' => e = .returned (.tuple #[]) ∧ ∃ x, w' = gx (w.setRow g (bc (wrI C q i v))) x := by
  have := writeWord_row C hC q i hi hq v v0 v1 w g ⟨_, hA⟩
  rwa [hA.self] at this

/-- The bytes behind the writing of the first k words. -/
def wrTo (C : List Int) (q : Nat) (F : List Int) : Nat → List Int
  | 0 => C
  | k + 1 => wrI (wrTo C q F k) q k (gw F k)
theorem wrI_len (C : List Int) (q i : Nat) (v : Int) : (wrI C q i v).length = C.length := by unfold wrI; split <;> simp
theorem wrTo_len (C : List Int) (q : Nat) (F : List Int) : ∀ k, (wrTo C q F k).length = C.length
  | 0 => rfl
  | k + 1 => by simp only [wrTo]; rw [wrI_len, wrTo_len C q F k]
theorem Bs.set {C : List Int} (h : Bs C) (i : Nat) (v : Int) (h0 : 0 ≤ v) (h1 : v ≤ 255) : Bs (C.set i v) := by
  intro k
  by_cases hi : i < C.length
  · rw [gw_set C i k v hi]; split
    · exact ⟨h0, h1⟩
    · exact h k
  · rw [List.set_eq_of_length_le (by omega)]; exact h k
theorem wrI_bs {C : List Int} (h : Bs C) (q i : Nat) (v : Int) (v0 : 0 ≤ v) (v1 : v ≤ 4095) : Bs (wrI C q i v) := by
  unfold wrI
  have := h (q + (i / 2 * 3 + 1))
  split
  · exact (h.set _ _ (by omega) (by omega)).set _ _ (by omega) (by omega)
  · exact (h.set _ _ (by omega) (by omega)).set _ _ (by omega) (by omega)
theorem wrTo_bs {C : List Int} (h : Bs C) (q : Nat) {F : List Int} (hF : Fr F) (hn : Narrow F) : ∀ k, k ≤ 64 → Bs (wrTo C q F k)
  | 0, _ => h
  | k + 1, hk => wrI_bs (wrTo_bs h q hF hn k (by omega)) q k _ (hF.bd k).1 (hn k (by omega))
/-- The bytes behind the writing of a frame. -/
def wrF (C : List Int) (q : Nat) (F : List Int) : List Int := wrTo C q F 64
theorem wrF_eq (C : List Int) (q : Nat) (F : List Int) : wrTo C q F 64 = wrF C q F := rfl
theorem wrF_len (C : List Int) (q : Nat) (F : List Int) : (wrF C q F).length = C.length := wrTo_len C q F 64
theorem wrF_bs {C : List Int} (h : Bs C) (q : Nat) {F : List Int} (hF : Fr F) (hn : Narrow F) : Bs (wrF C q F) := wrTo_bs h q hF hn 64 (by omega)
attribute [irreducible] wrF

set_option maxHeartbeats 600000 in
set_option maxRecDepth 100000 in
theorem write_any (C : List Int) (hC : Bs C) (q : Nat) (hq : q + 96 ≤ C.length) (F : List Int) (hF : Fr F) (hn : Narrow F) (w : World) (g : Nat) (hA : At w g (.cells (bc C) 5 (0, 0))) :
    Calls Tryd.prog 103 #[.pointer (some ⟨g, q, none⟩), .agg (fc F)] w fun e w' => e = .returned (.tuple #[]) ∧ ∃ x, w' = gx (w.setRow g (bc (wrF C q F))) x := by
  have hl := hF.len
  have hg := hA.lt
  have hI : Is w g 5 := ⟨_, hA⟩
  have e0 : w.setRow g (bc C) = w := hA.self
  have E0 := Lib.hid e0
  clear e0
  go_enter Tryd.func103, Tryd.ntmps103
  go_wp2
  go_loopw [5] (fun i wr => ∃ (k : Nat) (x : Ext), k ≤ 64 ∧ i = .int .i64 k ∧ wr = gx ((w.setRow g (bc (wrTo C q F k))).alloc (.cells (fc F) 32)) x) (fun i _ => 64 - (intOf i).toNat)
  case atStart => exact ⟨0, _, Nat.zero_le _, rfl, by show _ = gx ((w.setRow g (bc C)).alloc _) _; rw [E0.out]; exact (gx_none _).symm⟩
  case round =>
    obtain ⟨k, y, hk, rfl, rfl⟩ := hrel
    by_cases hlt : k < 64
    · have hb := wrTo_bs hC q hF hn k hk
      have hlc : (wrTo C q F k).length = C.length := wrTo_len C q F k
      have k1 : 0 ≤ gw F k := (hF.bd k).1
      have k2 : gw F k ≤ 4095 := hn k hlt
      have hq' : q + 96 ≤ (wrTo C q F k).length := by omega
      have e : wrI (wrTo C q F k) q k (gw F k) = wrTo C q F (k + 1) := rfl
      clear hlc
      go_wp2_with (go_at_call 113; refine (writeWord_any _ hb q k hlt hq' _ k1 k2 _ g ?_).mono ?_; (focus (exact ((At.row hI).alloc).gx)); rintro e w' ⟨rfl, z, rfl⟩)
      go_roundw
      case rel => exact ⟨k + 1, _, by omega, by go_num, rfl⟩
      case measure => simp [intOf]; omega
    · obtain rfl : k = 64 := by omega
      rw [wrF_eq C q F]
      go_wp2
      go_end0
      exact ⟨rfl, (by repeat (first | (with_reducible exact Gx.refl _) | (with_reducible assumption) | (with_reducible refine Gx.gx ?_) | (with_reducible refine Gx.alloc ?_) | (with_reducible refine Gx.drew ?_) | (with_reducible refine Gx.drewN ?_) | (with_reducible refine Gx.setRow ?_ (by simp)) | (with_reducible refine Gx.setCell ?_ (by simp))))⟩

/-- Put writes. -/
theorem Put_bad (A : Option Addr) (n c : Nat) (at_ : Int) (F : List Int) (hm : n ≤ 9223372036854775807) (ha : at_ ≤ 9223372036854775807) (w : World) (E : Int) (he : placeE n at_ 96 = E) (hE : E ≠ 0) :
    Calls Tryd.prog 63 #[.slice A n c, .int .i64 at_, .agg (fc F)] w fun e w' => e = .returned (.int .i64 E) ∧ ∃ x, w' = gx w x := by
  have hb : (E != 0) = true := by rw [bne_iff_ne]; exact hE
  have HE := Lib.hid he
  clear he
  go_enter Tryd.func63, Tryd.ntmps63
  go_wp2_with (go_at_call 106; refine (inPlace_bad A n c at_ hm ha _ E HE.out hE).mono ?_; rintro e w' ⟨rfl, rfl⟩)
  go_ret
  exact ⟨rfl, (by repeat (first | (with_reducible exact Gx.refl _) | (with_reducible assumption) | (with_reducible refine Gx.gx ?_) | (with_reducible refine Gx.alloc ?_) | (with_reducible refine Gx.drew ?_) | (with_reducible refine Gx.drewN ?_) | (with_reducible refine Gx.setRow ?_ (by simp)) | (with_reducible refine Gx.setCell ?_ (by simp))))⟩

set_option maxHeartbeats 600000 in
set_option maxRecDepth 100000 in
theorem Put_wide (g o n c a : Nat) (F : List Int) (hF : Fr F) (hw : wideB F = true) (hm : n ≤ 9223372036854775807) (hnc : n ≤ c) (hcm : c ≤ 9223372036854775807) (h : a + 96 ≤ n) (w : World) :
    Calls Tryd.prog 63 #[.slice (some ⟨g, o, none⟩) n c, .int .i64 a, .agg (fc F)] w fun e w' => e = .returned (.int .i64 9) ∧ ∃ x, w' = gx w x := by
  have hl := hF.len
  go_enter Tryd.func63, Tryd.ntmps63
  go_wp2_with (first | (refine load_fr rfl _ rfl _ rfl ?_ ?_ ?_ ?_; rotate_left; (focus (repeat (first | (with_reducible exact At.new _ _) | (with_reducible refine At.row ?_) | (with_reducible refine At.gx ?_) | ((with_reducible refine At.new' ?_); focus (simp; done)) | (with_reducible refine At.alloc ?_) | (with_reducible refine At.drew ?_) | (with_reducible exact Is.new _ _ _) | (with_reducible refine Is.row ?_) | (with_reducible refine Is.gx ?_) | ((with_reducible refine Is.new' ?_); focus (simp; done)) | (with_reducible refine Is.alloc ?_) | (with_reducible refine Is.drew ?_)))); (focus (with_reducible (first | exact hl | exact hl1 | exact hl2 | exact hl3 | exact hl4 | exact zeroF_len)))) | (go_at_call 106; refine (inPlace_good g o n c a hm hnc hcm h _).mono ?_; rintro e w' ⟨rfl, rfl⟩) | (go_at_call 84; refine (isWide_any F hF _).mono ?_; rintro e w' ⟨rfl, z, rfl⟩))
  go_ret
  exact ⟨rfl, (by repeat (first | (with_reducible exact Gx.refl _) | (with_reducible assumption) | (with_reducible refine Gx.gx ?_) | (with_reducible refine Gx.alloc ?_) | (with_reducible refine Gx.drew ?_) | (with_reducible refine Gx.drewN ?_) | (with_reducible refine Gx.setRow ?_ (by simp)) | (with_reducible refine Gx.setCell ?_ (by simp))))⟩

set_option maxHeartbeats 600000 in
set_option maxRecDepth 100000 in
theorem Put_good (C : List Int) (hC : Bs C) (g o n c a : Nat) (F : List Int) (hF : Fr F) (hw : wideB F = false) (hm : n ≤ 9223372036854775807) (hnc : n ≤ c) (hcm : c ≤ 9223372036854775807) (h : a + 96 ≤ n) (hq : o + a + 96 ≤ C.length) (w : World) (hA : At w g (.cells (bc C) 5 (0, 0))) :
    Calls Tryd.prog 63 #[.slice (some ⟨g, o, none⟩) n c, .int .i64 a, .agg (fc F)] w fun e w' => e = .returned (.int .i64 0) ∧ ∃ x, w' = gx (w.setRow g (bc (wrF C (o + a) F))) x := by
  have hl := hF.len
  have hn := wideB_false.1 hw
  have hg := hA.lt
  go_enter Tryd.func63, Tryd.ntmps63
  go_wp2_with (first | (refine load_fr rfl _ rfl _ rfl ?_ ?_ ?_ ?_; rotate_left; (focus (repeat (first | (with_reducible exact At.new _ _) | (with_reducible refine At.row ?_) | (with_reducible refine At.gx ?_) | ((with_reducible refine At.new' ?_); focus (simp; done)) | (with_reducible refine At.alloc ?_) | (with_reducible refine At.drew ?_) | (with_reducible exact Is.new _ _ _) | (with_reducible refine Is.row ?_) | (with_reducible refine Is.gx ?_) | ((with_reducible refine Is.new' ?_); focus (simp; done)) | (with_reducible refine Is.alloc ?_) | (with_reducible refine Is.drew ?_)))); (focus (with_reducible (first | exact hl | exact hl1 | exact hl2 | exact hl3 | exact hl4 | exact zeroF_len)))) | (go_at_call 106; refine (inPlace_good g o n c a hm hnc hcm h _).mono ?_; rintro e w' ⟨rfl, rfl⟩) | (go_at_call 84; refine (isWide_any F hF _).mono ?_; rintro e w' ⟨rfl, z, rfl⟩) | (go_at_call 103; refine (write_any C hC (o + a) hq F hF hn _ g ?_).mono ?_; (focus (exact (hA.alloc).gx)); rintro e w' ⟨rfl, z, rfl⟩))
  go_ret
  exact ⟨rfl, (by repeat (first | (with_reducible exact Gx.refl _) | (with_reducible assumption) | (with_reducible refine Gx.gx ?_) | (with_reducible refine Gx.alloc ?_) | (with_reducible refine Gx.drew ?_) | (with_reducible refine Gx.drewN ?_) | (with_reducible refine Gx.setRow ?_ (by simp)) | (with_reducible refine Gx.setCell ?_ (by simp))))⟩
end Go.Proofs.YtllahhmonoedmaaDoor
