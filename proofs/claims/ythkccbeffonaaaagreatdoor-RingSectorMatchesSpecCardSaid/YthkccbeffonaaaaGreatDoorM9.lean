/-
  Texts that this claim leans on, merged: GEqI, GSame, GRNew, GLawN.
-/
import Derived.Test.YthkccbeffonaaaaGreatDoorM3
import Derived.Test.YthkccbeffonaaaaGreatDoorM6
import Derived.Test.YthkccbeffonaaaaGreatDoorM8
import Derived.Test.YthkccbeffonaaaaGreatDoorM7

/-
  slices.Equal of two slices of numbers that are shown.
-/
namespace Go.Proofs.YthkccbeffonaaaaGreatDoor
open Go.RowKit
-- AT2

theorem shows_ints {P : List Int} {A : Option Addr} {w : World} (h : Shows (iC P) A w) (h0 : 0 < P.length) : ∃ g o, A = some ⟨g, o, none⟩ ∧ ∀ j, j < P.length → w.cell? ⟨g, o + j, none⟩ = some (.int .i64 (gw P j)) := by
  unfold Shows at h
  obtain ⟨g, o, e, hc⟩ := h (by rw [iC_len]; exact h0)
  exact ⟨g, o, e, fun j hj => hc j _ (iC_get hj)⟩

set_option maxHeartbeats 600000 in
set_option maxRecDepth 100000 in
theorem EqualI_none (A A' : Option Addr) (c c' : Nat) (w : World) :
    Calls Tryz.prog 23 #[.slice A 0 c, .slice A' 0 c'] w fun e w' => e = .returned (.bool true) ∧ ∃ x, w' = gx w x := by
  go_enter Tryz.func23, Tryz.ntmps23
  go_wp2
  go_loopw [13] (fun i wr => i = .int .i64 0 ∧ wr = w) (fun i _ => (intOf i).toNat)
  case atStart => exact ⟨rfl, rfl⟩
  case round =>
    obtain ⟨rfl, rfl⟩ := hrel
    go_wp2
    go_ret
    exact ⟨rfl, (by repeat (first | (with_reducible exact Gx.refl _) | (with_reducible assumption) | (with_reducible refine Gx.gx ?_) | (with_reducible refine Gx.alloc ?_) | (with_reducible refine Gx.drew ?_) | (with_reducible refine Gx.drewN ?_) | (with_reducible refine Gx.setRow ?_ (by simp)) | (with_reducible refine Gx.setCell ?_ (by simp))))⟩
theorem EqualI_shows (P : List Int) (n : Nat) (hP : P.length = n) (hn : n ≤ 9223372036854775807) (A A' : Option Addr) (c c' : Nat) (w : World) (h : Shows (iC P) A w) (h' : Shows (iC P) A' w) :
    Calls Tryz.prog 23 #[.slice A n c, .slice A' n c'] w fun e w' => e = .returned (.bool true) ∧ ∃ x, w' = gx w x := by
  rcases Nat.eq_zero_or_pos n with rfl | h0
  · exact EqualI_none A A' c c' w
  · obtain ⟨g, o, rfl, hc⟩ := shows_ints h (by omega)
    obtain ⟨g', o', rfl, hc'⟩ := shows_ints h' (by omega)
    exact EqualI_same P n g o c g' o' c' hn w (fun j hj => hc j (by omega)) (fun j hj => hc' j (by omega))
end Go.Proofs.YthkccbeffonaaaaGreatDoor

/-
  sameMemory of two memories that read as the same.
-/
namespace Go.Proofs.YthkccbeffonaaaaGreatDoor
open Go.RowKit
-- AT2

theorem shows_bools {P : List Bool} {A : Option Addr} {w : World} (h : Shows (qC P) A w) (h0 : 0 < P.length) : ∃ g o, A = some ⟨g, o, none⟩ ∧ ∀ j, j < P.length → w.cell? ⟨g, o + j, none⟩ = some (.bool (gq P j)) := by
  unfold Shows at h
  obtain ⟨g, o, e, hc⟩ := h (by rw [qC_len]; exact h0)
  exact ⟨g, o, e, fun j hj => hc j _ (qC_get hj)⟩
set_option maxHeartbeats 400000 in
set_option maxRecDepth 100000 in
theorem EqualQ_same (D : List Bool) (n b o c b' o' c' : Nat) (hn : n ≤ 9223372036854775807) (w : World) (hc : ∀ j, j < n → w.cell? ⟨b, o + j, none⟩ = some (.bool (gq D j))) (hc' : ∀ j, j < n → w.cell? ⟨b', o' + j, none⟩ = some (.bool (gq D j))) :
    Calls Tryz.prog 79 #[.slice (some ⟨b, o, none⟩) n c, .slice (some ⟨b', o', none⟩) n c'] w fun e w' => e = .returned (.bool true) ∧ ∃ x, w' = gx w x := by
  have Hc := Lib.hid hc
  have Hc' := Lib.hid hc'
  clear hc hc'
  go_enter Tryz.func79, Tryz.ntmps79
  go_wp2
  go_loopw [13] (fun i wr => ∃ (k : Nat) (x : Ext), k ≤ n ∧ i = .int .i64 k ∧ wr = gx w x) (fun i _ => n - (intOf i).toNat)
  case atStart => exact ⟨0, _, Nat.zero_le _, rfl, (gx_none _).symm⟩
  case round =>
    obtain ⟨k, y, hk, rfl, rfl⟩ := hrel
    by_cases hlt : k < n
    · have c0 := Hc.out k hlt
      have c1 := Hc'.out k hlt
      have hbw : b < w.heap.size := World.block_lt_of_cell? w _ c0
      have hbw' : b' < w.heap.size := World.block_lt_of_cell? w _ c1
      generalize gq D k = q at *
      have hq : (q != q) = false := by cases q <;> rfl
      go_wp2
      first | (with_reducible refine region_gxx (by kernel_rfl) (by kernel_rfl) ?_) | (with_reducible refine region_gx (by kernel_rfl) (by kernel_rfl) ?_)
      repeat (any_goals (first | (refine quiet_fr rfl _ rfl _ rfl ?_ ?_ ?_ ?_; rotate_left; (focus (rintro _ ⟨x, rfl⟩; (focus (repeat (first | (with_reducible assumption) | (with_reducible exact At.new _ _) | (with_reducible refine At.row ?_) | (with_reducible refine At.app ?_) | (with_reducible refine At.tick ?_) | (with_reducible refine At.gx ?_) | ((with_reducible refine At.new' ?_); focus (simp; done)) | (with_reducible refine At.alloc ?_) | (with_reducible refine At.drew ?_) | (with_reducible exact Is.new _ _ _) | (with_reducible refine Is.row ?_) | (with_reducible refine Is.gx ?_) | ((with_reducible refine Is.new' ?_); focus (simp; done)) | (with_reducible refine Is.alloc ?_) | (with_reducible refine Is.drew ?_)))))); (focus (with_reducible (first | exact hl | exact hl1 | exact hl2 | exact hl3 | exact hl4 | exact zeroF_len)))) | go_big_quiet_step ((first | fail)) | quiet_step ((first | fail))))
      refine wpQuiet_nil ?_
      rintro _ ⟨x, rfl⟩
      go_wp2
      go_roundw
      case rel => exact ⟨k + 1, _, by omega, by go_num, rfl⟩
      case measure => simp [intOf]; omega
    · obtain rfl : k = n := by omega
      go_wp2
      go_ret
      exact ⟨rfl, (by repeat (first | (with_reducible exact Gx.refl _) | (with_reducible assumption) | (with_reducible refine Gx.gx ?_) | (with_reducible refine Gx.alloc ?_) | (with_reducible refine Gx.drew ?_) | (with_reducible refine Gx.drewN ?_) | (with_reducible refine Gx.setRow ?_ (by simp)) | (with_reducible refine Gx.setCell ?_ (by simp))))⟩
set_option maxHeartbeats 400000 in
set_option maxRecDepth 100000 in
theorem EqualQ_none (A A' : Option Addr) (c c' : Nat) (w : World) :
    Calls Tryz.prog 79 #[.slice A 0 c, .slice A' 0 c'] w fun e w' => e = .returned (.bool true) ∧ ∃ x, w' = gx w x := by
  go_enter Tryz.func79, Tryz.ntmps79
  go_wp2
  go_loopw [13] (fun i wr => i = .int .i64 0 ∧ wr = w) (fun i _ => (intOf i).toNat)
  case atStart => exact ⟨rfl, rfl⟩
  case round =>
    obtain ⟨rfl, rfl⟩ := hrel
    go_wp2
    go_ret
    exact ⟨rfl, (by repeat (first | (with_reducible exact Gx.refl _) | (with_reducible assumption) | (with_reducible refine Gx.gx ?_) | (with_reducible refine Gx.alloc ?_) | (with_reducible refine Gx.drew ?_) | (with_reducible refine Gx.drewN ?_) | (with_reducible refine Gx.setRow ?_ (by simp)) | (with_reducible refine Gx.setCell ?_ (by simp))))⟩
theorem EqualQ_shows (P : List Bool) (n : Nat) (hP : P.length = n) (hn : n ≤ 9223372036854775807) (A A' : Option Addr) (c c' : Nat) (w : World) (h : Shows (qC P) A w) (h' : Shows (qC P) A' w) :
    Calls Tryz.prog 79 #[.slice A n c, .slice A' n c'] w fun e w' => e = .returned (.bool true) ∧ ∃ x, w' = gx w x := by
  rcases Nat.eq_zero_or_pos n with rfl | h0
  · exact EqualQ_none A A' c c' w
  · obtain ⟨g, o, rfl, hc⟩ := shows_bools h (by omega)
    obtain ⟨g', o', rfl, hc'⟩ := shows_bools h' (by omega)
    exact EqualQ_same P n g o c g' o' c' hn w (fun j hj => hc j (by omega)) (fun j hj => hc' j (by omega))

/-- Sectors are shown. -/
def Secd (W : World) (S : Nat → List Int) (n g o : Nat) : Prop := ∀ i, i < n → ∃ v, W.cell? ⟨g, o + i, none⟩ = some v ∧ SecAt W (S i) v
theorem Secd.of_gx {w W : World} {S : Nat → List Int} {n g o : Nat} (h : Secd w S n g o) (hW : ∃ x, W = Go.Proofs.YthkccbeffonaaaaGreatDoor.gx w x) : Secd W S n g o := by
  obtain ⟨x, rfl⟩ := hW
  intro i hi
  obtain ⟨v, h1, h2⟩ := h i hi
  exact ⟨v, cell_keep_gx h1, h2.gx⟩
set_option maxHeartbeats 600000 in
set_option maxRecDepth 100000 in
theorem EqF_ok (n : Nat) (hn : n ≤ 1048576) (S : Nat → List Int) (g o c g' o' c' : Nat) (w : World) (h : Secd w S n g o) (h' : Secd w S n g' o') :
    Calls Tryz.prog 78 #[.slice (some ⟨g, o, none⟩) n c, .slice (some ⟨g', o', none⟩) n c', .func (.func 29) #[] #[]] w fun e w' => e = .returned (.bool true) ∧ ∃ x, w' = gx w x := by
  have H := Lib.hid h
  have H' := Lib.hid h'
  clear h h'
  go_enter Tryz.func78, Tryz.ntmps78
  go_wp2
  go_loopw [17] (fun i wr => ∃ k : Nat, k ≤ n ∧ i = .int .i64 k ∧ ∃ x, wr = gx w x) (fun i _ => n - (intOf i).toNat)
  case atStart => exact ⟨0, by omega, rfl, Gx.refl _⟩
  case round =>
    obtain ⟨k, hk, rfl, y, rfl⟩ := hrel
    by_cases hlt : k < n
    · obtain ⟨v, h1, B, c1, rfl, h3, h4, h5, h6⟩ := (H.out.of_gx ⟨y, rfl⟩) k hlt
      obtain ⟨v', h1', B', c1', rfl, h3', h4', h5', h6'⟩ := (H'.out.of_gx ⟨y, rfl⟩) k hlt
      have Q5 := Lib.hid h5
      have Q5' := Lib.hid h5'
      have Q6 := Lib.hid h6
      have Q6' := Lib.hid h6'
      clear h5 h5' h6 h6'
      go_wp2_with (go_at_call 29; go_loud (refine (EqualB_same (S k) (S k).length B B' c1 c1' _ Q5.out Q6.out Q5'.out Q6'.out).mono ?_; rintro e w' ⟨rfl, z, rfl⟩))
      go_roundw
      case rel => exact ⟨k + 1, by omega, by go_num, (by repeat (first | (with_reducible exact Gx.refl _) | (with_reducible assumption) | (with_reducible refine Gx.gx ?_) | (with_reducible refine Gx.alloc ?_) | (with_reducible refine Gx.drew ?_) | (with_reducible refine Gx.drewN ?_) | (with_reducible refine Gx.setRow ?_ (by simp)) | (with_reducible refine Gx.setCell ?_ (by simp))))⟩
      case measure => simp [intOf]; omega
    · obtain rfl : k = n := by omega
      go_wp2
      go_ret
      exact ⟨rfl, (by repeat (first | (with_reducible exact Gx.refl _) | (with_reducible assumption) | (with_reducible refine Gx.gx ?_) | (with_reducible refine Gx.alloc ?_) | (with_reducible refine Gx.drew ?_) | (with_reducible refine Gx.drewN ?_) | (with_reducible refine Gx.setRow ?_ (by simp)) | (with_reducible refine Gx.setCell ?_ (by simp))))⟩
set_option maxHeartbeats 600000 in
set_option maxRecDepth 100000 in
theorem EqF_none (A A' : Option Addr) (c c' : Nat) (w : World) :
    Calls Tryz.prog 78 #[.slice A 0 c, .slice A' 0 c', .func (.func 29) #[] #[]] w fun e w' => e = .returned (.bool true) ∧ ∃ x, w' = gx w x := by
  go_enter Tryz.func78, Tryz.ntmps78
  go_wp2
  refine wp_loop_rounds 1 ?_
  rw [rounds_succ]
  go_wp2
  go_ret
  exact ⟨rfl, (by repeat (first | (with_reducible exact Gx.refl _) | (with_reducible assumption) | (with_reducible refine Gx.gx ?_) | (with_reducible refine Gx.alloc ?_) | (with_reducible refine Gx.drew ?_) | (with_reducible refine Gx.drewN ?_) | (with_reducible refine Gx.setRow ?_ (by simp)) | (with_reducible refine Gx.setCell ?_ (by simp))))⟩
theorem RM.secd {W : World} {m : PM} {A B C : Option Addr} (h : RM W m A B C) (h0 : 0 < m.sec.length) : ∃ g o, A = some ⟨g, o, none⟩ ∧ Secd W m.s m.sec.length g o := h.sec h0
set_option maxHeartbeats 600000 in
set_option maxRecDepth 100000 in
/-- .. memories with sectors. -/
theorem same_ok (m : PM) (hm : Good m) (A B C A' B' C' : Option Addr) (a b c a' b' c' : Nat) (w : World) (h : RM w m A B C) (h' : RM w m A' B' C') :
    Calls Tryz.prog 17 #[memV m A B C a b c, memV m A' B' C' a' b' c'] w fun e w' => e = .returned (.bool true) ∧ ∃ x, w' = gx w x := by
  have hs := hm.sizes
  unfold sizesOk at hs
  obtain ⟨g, o, rfl, hS⟩ := h.secd (by omega)
  obtain ⟨g', o', rfl, hS'⟩ := h'.secd (by omega)
  have HS := Lib.hid hS
  have HS' := Lib.hid hS'
  have HW := Lib.hid h.wear
  have HW' := Lib.hid h'.wear
  have HB := Lib.hid h.bad
  have HB' := Lib.hid h'.bad
  have wl := hm.wl
  have bl := hm.bl
  have hn : m.sec.length ≤ 64 := by omega
  clear h h' hS hS' hm hs
  unfold memV
  rw [wl, bl]
  have HWl := Lib.hid wl
  have HBl := Lib.hid bl
  clear wl bl
  have hn1 : m.sec.length ≤ 1048576 := by omega
  have hn2 : m.sec.length ≤ 9223372036854775807 := by omega
  go_enter Tryz.func17, Tryz.ntmps17
  go_wp2_with (first | (go_at_call 78; go_loud (refine (EqF_ok m.sec.length hn1 m.s g o a g' o' a' _ (HS.out.of_gx ?_) (HS'.out.of_gx ?_)).mono ?_; (focus (exact (by repeat (first | (with_reducible exact Gx.refl _) | (with_reducible assumption) | (with_reducible refine Gx.gx ?_) | (with_reducible refine Gx.alloc ?_) | (with_reducible refine Gx.drew ?_) | (with_reducible refine Gx.drewN ?_) | (with_reducible refine Gx.setRow ?_ (by simp)) | (with_reducible refine Gx.setCell ?_ (by simp)))))); (focus (exact (by repeat (first | (with_reducible exact Gx.refl _) | (with_reducible assumption) | (with_reducible refine Gx.gx ?_) | (with_reducible refine Gx.alloc ?_) | (with_reducible refine Gx.drew ?_) | (with_reducible refine Gx.drewN ?_) | (with_reducible refine Gx.setRow ?_ (by simp)) | (with_reducible refine Gx.setCell ?_ (by simp)))))); rintro e w' ⟨rfl, z1, rfl⟩)) | (go_at_call 23; go_loud (refine (EqualI_shows m.wear _ HWl.out hn2 B B' b b' _ (Shows.of_gx HW.out ?_) (Shows.of_gx HW'.out ?_)).mono ?_; (focus (exact (by repeat (first | (with_reducible exact Gx.refl _) | (with_reducible assumption) | (with_reducible refine Gx.gx ?_) | (with_reducible refine Gx.alloc ?_) | (with_reducible refine Gx.drew ?_) | (with_reducible refine Gx.drewN ?_) | (with_reducible refine Gx.setRow ?_ (by simp)) | (with_reducible refine Gx.setCell ?_ (by simp)))))); (focus (exact (by repeat (first | (with_reducible exact Gx.refl _) | (with_reducible assumption) | (with_reducible refine Gx.gx ?_) | (with_reducible refine Gx.alloc ?_) | (with_reducible refine Gx.drew ?_) | (with_reducible refine Gx.drewN ?_) | (with_reducible refine Gx.setRow ?_ (by simp)) | (with_reducible refine Gx.setCell ?_ (by simp)))))); rintro e w' ⟨rfl, z2, rfl⟩)) | (go_at_call 79; go_loud (refine (EqualQ_shows m.bad _ HBl.out hn2 C C' c c' _ (Shows.of_gx HB.out ?_) (Shows.of_gx HB'.out ?_)).mono ?_; (focus (exact (by repeat (first | (with_reducible exact Gx.refl _) | (with_reducible assumption) | (with_reducible refine Gx.gx ?_) | (with_reducible refine Gx.alloc ?_) | (with_reducible refine Gx.drew ?_) | (with_reducible refine Gx.drewN ?_) | (with_reducible refine Gx.setRow ?_ (by simp)) | (with_reducible refine Gx.setCell ?_ (by simp)))))); (focus (exact (by repeat (first | (with_reducible exact Gx.refl _) | (with_reducible assumption) | (with_reducible refine Gx.gx ?_) | (with_reducible refine Gx.alloc ?_) | (with_reducible refine Gx.drew ?_) | (with_reducible refine Gx.drewN ?_) | (with_reducible refine Gx.setRow ?_ (by simp)) | (with_reducible refine Gx.setCell ?_ (by simp)))))); rintro e w' ⟨rfl, z3, rfl⟩)))
  go_ret
  exact ⟨rfl, (by repeat (first | (with_reducible exact Gx.refl _) | (with_reducible assumption) | (with_reducible refine Gx.gx ?_) | (with_reducible refine Gx.alloc ?_) | (with_reducible refine Gx.drew ?_) | (with_reducible refine Gx.drewN ?_) | (with_reducible refine Gx.setRow ?_ (by simp)) | (with_reducible refine Gx.setCell ?_ (by simp))))⟩
set_option maxHeartbeats 600000 in
set_option maxRecDepth 100000 in
/-- .. zero values. -/
theorem same_zero (w : World) :
    Calls Tryz.prog 17 #[.agg #[.int .i64 0, .int .i64 0, .slice none 0 0, .slice none 0 0, .slice none 0 0], .agg #[.int .i64 0, .int .i64 0, .slice none 0 0, .slice none 0 0, .slice none 0 0]] w fun e w' => e = .returned (.bool true) ∧ ∃ x, w' = gx w x := by
  go_enter Tryz.func17, Tryz.ntmps17
  go_wp2_with (first | (go_at_call 78; go_loud (refine (EqF_none _ _ _ _ _).mono ?_; rintro e w' ⟨rfl, z1, rfl⟩)) | (go_at_call 23; go_loud (refine (EqualI_none _ _ _ _ _).mono ?_; rintro e w' ⟨rfl, z2, rfl⟩)) | (go_at_call 79; go_loud (refine (EqualQ_none _ _ _ _ _).mono ?_; rintro e w' ⟨rfl, z3, rfl⟩)))
  go_ret
  exact ⟨rfl, (by repeat (first | (with_reducible exact Gx.refl _) | (with_reducible assumption) | (with_reducible refine Gx.gx ?_) | (with_reducible refine Gx.alloc ?_) | (with_reducible refine Gx.drew ?_) | (with_reducible refine Gx.drewN ?_) | (with_reducible refine Gx.setRow ?_ (by simp)) | (with_reducible refine Gx.setCell ?_ (by simp))))⟩
end Go.Proofs.YthkccbeffonaaaaGreatDoor

/-
  The reference's NewMemory: contract; the program's with wrong numbers.
-/
namespace Go.Proofs.YthkccbeffonaaaaGreatDoor
open Go.RowKit
-- AT2

theorem el_bytes : Elem 22 39 1 24 := elem_of Tryz.underlying22 (by decide) (z := .slice none 0 0) (by kernel_rfl) (by simp [Value.cells])
/-- The five cells of a memory that the reference makes. -/
def fiveR (s : Nat) (lim : Int) (v : Value) (gI gQ n : Nat) : Array Value := #[.int .i64 s, .int .i64 lim, v, .slice (some ⟨gI, 0, none⟩) n n, .slice (some ⟨gQ, 0, none⟩) n n]
/-- A memory that the reference makes, when some of its sectors are. -/
structure RN (b : Nat) (W : World) (n s : Nat) (lim : Int) (g8 gI gQ : Nat) (v : Value) (k : Nat) (Z : List (Nat × List Int)) : Prop where
  b8 : b < g8
  bI : b < gI
  bQ : b < gQ
  res : At W b (.cells #[.int .i64 0, .int .i64 0, .slice none 0 0, .slice none 0 0, .slice none 0 0] 26 (0, 0))
  mem : At W g8 (.cells (fiveR s lim v gI gQ n) 26 (0, 0))
  len : Z.length = k
  sec : Own b W 39 1 v k (Z.map (hdr (16 + 97 * s)))
  secs : Secs b W (16 + 97 * s) (fun _ => onesB (16 + 97 * s)) Z
  wear : At W gI (.cells (ic (zerosI n)) 3 (0, 0))
  bad : At W gQ (.cells (qC (List.replicate n false)).toArray 4 (0, 0))
section
variable {b : Nat} {W : World} {n s : Nat} {lim : Int} {g8 gI gQ : Nat} {v : Value} {k : Nat} {Z : List (Nat × List Int)}
theorem RN.gx {x : Ext} (h : RN b W n s lim g8 gI gQ v k Z) : RN b (gx W x) n s lim g8 gI gQ v k Z :=
  ⟨h.b8, h.bI, h.bQ, h.res.gx, h.mem.gx, h.len, h.sec.gx, h.secs.gx, h.wear.gx, h.bad.gx⟩
theorem RN.of_gx {W1 : World} (h : RN b W n s lim g8 gI gQ v k Z) (hW : ∃ x, W1 = Go.Proofs.YthkccbeffonaaaaGreatDoor.gx W x) : RN b W1 n s lim g8 gI gQ v k Z := by
  obtain ⟨x, rfl⟩ := hW
  exact h.gx
theorem RN.cell (h : RN b W n s lim g8 gI gQ v k Z) : W.cell? ⟨g8, 2, none⟩ = some v := by
  rw [cell_of_row _ _ _ _ _ _ h.mem]
  rfl
theorem RN.free (h : RN b W n s lim g8 gI gQ v k Z) : W.frozen? ⟨g8, 2, none⟩ = false := frozen_of_row W g8 _ _ _ h.mem
theorem Own.ne_of {e : TypeId} {size : Nat} {xs : List Value} {g : Nat} {cs : Array Value} {t : TypeId} (h : Own b W e size v n xs) (hA : At W g (.cells cs t (0, 0))) (ht : t ≠ e) : v.ownBlock ≠ some g := by
  intro hg
  rcases h.out.2 with ⟨e1, -⟩ | ⟨g', cap, cur, e1, e2, e3, r⟩
  · rw [e1] at hg
    cases hg
  · rw [e1] at hg
    obtain rfl : g' = g := Option.some.inj hg
    exact (At.ne hA e3 ht) rfl
theorem RN.step (h : RN b W n s lim g8 gI gQ v k Z) (hm : 16 + 97 * s ≤ maxLen) (g1 : Nat) (hlt : ∀ (i : Nat) (p : Nat × List Int), Z[i]? = some p → p.1 < g1) (hb1 : b ≤ g1) (hA1 : At W g1 (.cells (bc (onesB (16 + 97 * s))) 5 (0, 0))) (W3 : World) (v' : Value) (hgr : W.grownBy W3 v.ownBlock)
    (hO : Own b W3 39 1 v' (k + 1) (Z.map (hdr (16 + 97 * s)) ++ [.slice (some ⟨g1, 0, none⟩) (16 + 97 * s) (16 + 97 * s)])) :
    W3.cell? ⟨g8, 2, none⟩ = some v ∧ W3.frozen? ⟨g8, 2, none⟩ = false ∧ RN b (W3.setCell ⟨g8, 2, none⟩ v') n s lim g8 gI gQ v' (k + 1) (Z ++ [(g1, onesB (16 + 97 * s))]) := by
  have m3 := At.grown h.mem hgr (h.sec.ne_of h.mem (by decide))
  have r3 := At.grown h.res hgr (h.sec.ne_of h.res (by decide))
  have w3 := At.grown h.wear hgr (h.sec.ne_of h.wear (by decide))
  have q3 := At.grown h.bad hgr (h.sec.ne_of h.bad (by decide))
  have a3 := At.grown hA1 hgr (h.sec.ne_of hA1 (by decide))
  have hne8 : b ≠ g8 := by have := h.b8; omega
  refine ⟨?_, frozen_of_row W3 g8 _ _ _ m3, ?_⟩
  · rw [cell_of_row _ _ _ _ _ _ m3]
    rfl
  · have e := setCell_eq_setRow W3 g8 2 _ _ (0, 0) v' m3
    have hset : (fiveR s lim v gI gQ n).setIfInBounds 2 v' = fiveR s lim v' gI gQ n := rfl
    rw [e, hset]
    refine ⟨h.b8, h.bI, h.bQ, r3.row_other hne8, At.row ⟨_, m3⟩, by simp [h.len], ?_, ?_, w3.row_other (w3.ne m3 (by decide)), q3.row_other (q3.ne m3 (by decide))⟩
    · rw [List.map_append]
      have e2 : [(g1, onesB (16 + 97 * s))].map (hdr (16 + 97 * s)) = [Value.slice (some ⟨g1, 0, none⟩) (16 + 97 * s) (16 + 97 * s)] := by
        unfold hdr
        simp [onesB_len]
      rw [e2]
      exact hO.row_ne (hO.ne_of m3 (by decide))
    · refine Secs.snoc ⟨fun i p hp => ?_, h.secs.inc⟩ g1 _ hlt hb1 (a3.row_other (a3.ne m3 (by decide))) (by rw [onesB_len]; exact Nat.le_refl _) (by rw [onesB_len]; exact hm) (onesB_bs _) (fun j _ => rfl)
      obtain ⟨h1, h2, h3⟩ := h.secs.at_ i p hp
      have h4 := At.grown h2 hgr (h.sec.ne_of h2 (by decide))
      exact ⟨h1, h4.row_other (h4.ne m3 (by decide)), h3⟩
theorem RN.step2 {L : Nat} {W1 : World} {ob : Obj} (h : RN b W n s lim g8 gI gQ v k Z) (hL : L = 16 + 97 * s) (hm : 16 + 97 * s ≤ maxLen) (hW1 : ∃ x, W1 = Go.Proofs.YthkccbeffonaaaaGreatDoor.gx W x) (g1 : Nat) (hg1 : W.heap.size ≤ g1) (hA1 : At W1 g1 (.cells (bc (onesB L)) 5 (0, 0))) (W3 : World) (v' : Value) (hgr : (W1.alloc ob).grownBy W3 v.ownBlock)
    (hO : Own b W3 39 1 v' (k + 1) (Z.map (hdr (16 + 97 * s)) ++ [.slice (some ⟨g1, 0, none⟩) L L])) :
    W3.cell? ⟨g8, 2, none⟩ = some v ∧ W3.frozen? ⟨g8, 2, none⟩ = false ∧ RN b (W3.setCell ⟨g8, 2, none⟩ v') n s lim g8 gI gQ v' (k + 1) (Z ++ [(g1, onesB (16 + 97 * s))]) := by
  subst hL
  obtain ⟨x, rfl⟩ := hW1
  have h1 : RN b ((Go.Proofs.YthkccbeffonaaaaGreatDoor.gx W x).alloc ob) n s lim g8 gI gQ v k Z := by
    rw [alloc_is]
    exact h.gx.gx
  exact h1.step hm g1 (fun i p hp => by have := (h.secs.at_ i p hp).2.1.lt; omega) (by have := h.res.lt; omega) (At.alloc hA1) W3 v' hgr hO
/-- .. when all are. -/
theorem RN.rm (h : RN b W n s lim g8 gI gQ v n Z) (cs : Array Value) : ∃ A c, v = .slice A n c ∧ RM (W.setRow b cs) (blankM n s lim) A (some ⟨gI, 0, none⟩) (some ⟨gQ, 0, none⟩) := by
  have hsec := h.sec.row_ne (cs := cs) (h.sec.ne_of h.res (by decide))
  have hsecs := h.secs.row_ne (cs' := cs) h.res (by decide)
  have hwear := At.row_other (g' := b) (cs' := cs) h.wear (by have := h.bI; omega)
  have hbad := At.row_other (g' := b) (cs' := cs) h.bad (by have := h.bQ; omega)
  obtain ⟨A, c, rfl, h1, h2, h3, hS⟩ := hsec.is
  refine ⟨A, c, rfl, fun h0 => ?_, ?_, ?_⟩
  · rw [secs_len] at *
    unfold Shows at hS
    obtain ⟨g, o, e, hc⟩ := hS (by rw [List.length_map, h.len]; exact h0)
    refine ⟨g, o, e, fun i hi => ?_⟩
    have hz : i < Z.length := by rw [h.len]; exact hi
    refine ⟨_, hc i _ (by rw [List.getElem?_map, List.getElem?_eq_getElem hz]; rfl), ?_⟩
    obtain ⟨a1, a2, a3, a4, a5, a6⟩ := hsecs.at_ i _ (List.getElem?_eq_getElem hz)
    have hs : (blankM n s lim).s i = onesB (16 + 97 * s) := blank_s hi
    rw [hs]
    refine ⟨some ⟨(Z[i]).1, 0, none⟩, (Z[i]).2.length, ?_, ?_, ?_, ?_, fun h => by cases h⟩
    · unfold hdr
      rw [onesB_len]
    · rw [onesB_len]; exact a3
    · simp only [maxLen] at a4; omega
    · refine HeldB.part (C := (Z[i]).2) (o := 0) a2 (by rw [onesB_len]; omega) (fun j hj => ?_)
      rw [onesB_len] at hj
      rw [Nat.zero_add]
      exact a6 j hj
  · exact Shows.whole (xs := iC (zerosI n)) hwear
  · exact Shows.whole (xs := qC (List.replicate n false)) hbad
end
theorem blank_wl (n s : Nat) (lim : Int) : (blankM n s lim).wear.length = n := zerosI_len n
theorem blank_bl (n s : Nat) (lim : Int) : (blankM n s lim).bad.length = n := by unfold blankM; simp
set_option maxHeartbeats 400000 in
theorem NewMemory_bad (a b c : Int) (h : ¬ sizesOk a b c) (w : World) : Calls Tryz.prog 15 #[.int .i64 a, .int .i64 b, .int .i64 c] w fun e w' => e = .returned (.tuple #[.agg #[.int .i64 0, .int .i64 0, .slice none 0 0, .slice none 0 0, .slice none 0 0], .int .i64 9]) ∧ ∃ x, w' = gx w x := by
  have HH := Lib.hid h
  clear h
  go_enter Tryz.func15, Tryz.ntmps15
  go_wp2_with (go_at_call 73; go_loud (refine (checkSizes_bad _ _ _ HH.out _).mono ?_; rintro e w' ⟨rfl, z, rfl⟩))
  change bodyPost Tryz.prog Tryz.f15 _ .ret _ _
  refine ret_st2 rfl _ _ w.heap.size #[.int .i64 0, .int .i64 0, .slice none 0 0, .slice none 0 0, .slice none 0 0] _ rfl rfl rfl (run_loadVar_row _ w.heap.size 26 26 _ (0, 0) _ ?_ Tryz.underlying26 rfl (by kernel_rfl)) ?_
  · exact At.new w _
  · exact ⟨rfl, (by repeat (first | (with_reducible exact Gx.refl _) | (with_reducible assumption) | (with_reducible refine Gx.gx ?_) | (with_reducible refine Gx.alloc ?_) | (with_reducible refine Gx.drew ?_) | (with_reducible refine Gx.drewN ?_) | (with_reducible refine Gx.setRow ?_ (by simp)) | (with_reducible refine Gx.setCell ?_ (by simp))))⟩
set_option maxHeartbeats 400000 in
theorem RNewMemory_bad (a b c : Int) (h : ¬ sizesOk a b c) (w : World) : Calls Tryz.prog 16 #[.int .i64 a, .int .i64 b, .int .i64 c] w fun e w' => e = .returned (.tuple #[.agg #[.int .i64 0, .int .i64 0, .slice none 0 0, .slice none 0 0, .slice none 0 0], .int .i64 9]) ∧ ∃ x, w' = gx w x := by
  unfold sizesOk at h
  go_enter Tryz.func16, Tryz.ntmps16
  go_wp2_with (go_at_call 76; refine (outside_any _ _ _ _).mono ?_; rintro e w' ⟨rfl, rfl⟩)
  all_goals first | (exfalso; omega) | (change bodyPost Tryz.prog Tryz.f16 _ .ret _ _; refine ret_st2 rfl _ _ w.heap.size #[.int .i64 0, .int .i64 0, .slice none 0 0, .slice none 0 0, .slice none 0 0] _ rfl rfl rfl (run_loadVar_row _ w.heap.size 26 26 _ (0, 0) _ ?_ Tryz.underlying26 rfl (by kernel_rfl)) ?_; (focus (exact At.new w _)); exact ⟨rfl, (by repeat (first | (with_reducible exact Gx.refl _) | (with_reducible assumption) | (with_reducible refine Gx.gx ?_) | (with_reducible refine Gx.alloc ?_) | (with_reducible refine Gx.drew ?_) | (with_reducible refine Gx.drewN ?_) | (with_reducible refine Gx.setRow ?_ (by simp)) | (with_reducible refine Gx.setCell ?_ (by simp))))⟩)
set_option maxHeartbeats 4000000 in
set_option maxRecDepth 100000 in
theorem RNewMemory_ok (n s : Nat) (lim : Int) (h : sizesOk n s lim) (w : World) : Calls Tryz.prog 16 #[.int .i64 n, .int .i64 s, .int .i64 lim] w fun e w' => ∃ A B C a b c x, e = .returned (.tuple #[memV (blankM n s lim) A B C a b c, .int .i64 0]) ∧ w' = gx w x ∧ RM (gx w x) (blankM n s lim) A B C := by
  have h' := h
  unfold sizesOk at h'
  have hn : n ≤ 64 := by omega
  have hn' : n ≤ 4194304 := by omega
  have hs' : s ≤ 64 := by omega
  have l1 : (2 : Int) ≤ n := by omega
  have l2 : (n : Int) ≤ 64 := by omega
  have l3 : (1 : Int) ≤ s := by omega
  have l4 : (s : Int) ≤ 64 := by omega
  have l5 : 1 ≤ lim := by omega
  have l6 : lim ≤ 1000000 := by omega
  have hs'' : 16 + 97 * s ≤ maxLen := by simp only [maxLen]; omega
  obtain ⟨L, hL⟩ : ∃ L, L = 16 + 97 * s := ⟨_, rfl⟩
  have hL' : L ≤ 140737488355328 := by omega
  have HL := Lib.hid hL
  have hw1 : IntKind.i64.wrap ((s : Int) * 97) = (s : Int) * 97 := IntWalk.i64_in _ (by omega)
  have hw2 : IntKind.i64.wrap (16 + (s : Int) * 97) = (L : Int) := by rw [IntWalk.i64_in _ (by omega)]; omega
  have hm2 := make_ints n hn'
  have hm3 := make_boolsn n hn'
  have HH := Lib.hid h
  clear h h' hL
  go_enter Tryz.func16, Tryz.ntmps16
  go_wp2_with (go_at_call 76; refine (outside_no _ _ _ ?_ ?_ _).mono ?_; (focus omega); (focus omega); rintro e w' ⟨rfl, rfl⟩)
  rename_i Q' K hK
  have cont : ∀ (g8 gI gQ : Nat) (W : World), (∃ x, W = gx w x) → RN w.heap.size W n s lim g8 gI gQ (.slice none 0 0) 0 [] → Exit.then K Q' Exit.normal { tmps := #[.int .i64 n, .int .i64 s, .int .i64 lim, undef, undef, undef, .pointer (some ⟨w.heap.size, 0, none⟩), .int .i64 0, .pointer (some ⟨g8, 0, none⟩), .int .i64 n, .bool false, .bool false, .int .i64 s, .bool false, .bool false, .bool false, .int .i64 lim, .bool false, .bool false, undef, .int .i64 s, .int .i64 lim, .int .i64 n, .slice (some ⟨gI, 0, none⟩) n n, .int .i64 n, .slice (some ⟨gQ, 0, none⟩) n n, .agg #[.int .i64 s, .int .i64 lim, .slice none 0 0, .slice (some ⟨gI, 0, none⟩) n n, .slice (some ⟨gQ, 0, none⟩) n n], undef, undef, undef, undef, undef, undef, undef, undef, undef, undef, undef, undef, undef, undef], defers := [] } W := by
    intro g8 gI gQ W hW hN
    refine hK _ _ ?_
    have HN := Lib.hid hN
    clear hN
    go_wp2
    go_loopw [28] (fun i wr => ∃ (k : Nat) (v : Value) (Z : List (Nat × List Int)), k ≤ n ∧ i = .int .i64 k ∧ (∃ x, wr = gx w x) ∧ RN w.heap.size wr n s lim g8 gI gQ v k Z) (fun i _ => n - (intOf i).toNat)
    case atStart => exact ⟨0, _, [], by omega, rfl, hW, HN.out⟩
    case round =>
      obtain ⟨k, v, Z, hk, rfl, hG, hN⟩ := hrel
      by_cases hlt : k < n
      · have e8 := hN.cell
        have hO := hN.sec
        have hlb := hN.res.lt
        have HN2 := Lib.hid hN
        clear hN
        go_wp2
        go_region_law (first | (go_simp; go_at_call 77; go_loud (refine (filled_any L hL' _).mono ?_; rintro e W1 ⟨g1, x1, rfl, hW1, hg1, hA1⟩; rw [← hW1] at hA1; have hGr : ∃ x, W1 = gx wr x := (hW1 ▸ Gx.gx (Gx.drew (Gx.refl wr))); clear hW1; have hG1 : ∃ x, W1 = gx w x := Gx.trans hGr hG; have hN1 := HN2.out.of_gx hGr; have e81 := hN1.cell; have e82 : ∀ ob, (W1.alloc ob).cell? ⟨g8, 2, none⟩ = some v := (fun ob => (hN1.of_gx Gx.one).cell); have hO1 := hN1.sec; clear hN1; have hz1 := size_of_gx hG1; have HW1 := Lib.hid hGr; clear hGr)) | (apply step_append_all el_bytes w w.heap.size (v := v) (n := k) (xs := Z.map (hdr (16 + 97 * s))) (m := 1) (c := 1) (news := [.slice (some ⟨g1, 0, none⟩) L L]); go_loud ((exact rfl; exact rfl; exact rfl; exact rfl; exact (fun h => by cases h); (focus (exact Nat.le_refl _)); (focus (repeat (first | (with_reducible assumption) | (with_reducible exact Own.nil _ _ _ _) | (with_reducible refine Own.app ?_) | (with_reducible refine Own.tick ?_) | (with_reducible refine Own.gx ?_) | (with_reducible refine Own.alloc ?_) | (with_reducible refine Own.drew ?_) | (with_reducible refine Own.row ?_ (by omega))))); exact (by repeat (first | (with_reducible exact Gx.refl _) | (with_reducible assumption) | (with_reducible refine Gx.gx ?_) | (with_reducible refine Gx.alloc ?_) | (with_reducible refine Gx.drew ?_) | (with_reducible refine Gx.drewN ?_) | (with_reducible refine Gx.setRow ?_ (by simp)) | (with_reducible refine Gx.setCell ?_ (by simp)))); (focus (simp <;> omega)); exact rfl; (focus (repeat (first | (with_reducible assumption) | ((with_reducible apply Shows.whole); focus ((focus (repeat (first | (with_reducible assumption) | (with_reducible exact At.new _ _) | (with_reducible refine At.row ?_) | (with_reducible refine At.app ?_) | (with_reducible refine At.tick ?_) | (with_reducible refine At.gx ?_) | ((with_reducible refine At.new' ?_); focus (simp; done)) | (with_reducible refine At.alloc ?_) | (with_reducible refine At.drew ?_) | (with_reducible exact Is.new _ _ _) | (with_reducible refine Is.row ?_) | (with_reducible refine Is.gx ?_) | ((with_reducible refine Is.new' ?_); focus (simp; done)) | (with_reducible refine Is.alloc ?_) | (with_reducible refine Is.drew ?_)))); done)) | (with_reducible refine Shows.app ?_) | (with_reducible refine Shows.tick ?_) | (with_reducible refine Shows.gx ?_) | (with_reducible refine Shows.alloc ?_) | (with_reducible refine Shows.drew ?_)))); (focus (simp [Value.oneCell']; done)); (focus (simp only [maxLen]; omega)); (focus omega); rintro v' W3 hG3 hO3 hgr3; obtain ⟨A3, k3, hv3, -⟩ := hO3.is; subst hv3; obtain ⟨c3, f3, hN3⟩ := RN.step2 HN2.out HL.out hs'' HW1.out g1 hg1 hA1 W3 _ hgr3 hO3; have HN3 := Lib.hid hN3; clear hN3))))
        all_goals
          have hG4 : ∃ x, W3.setCell ⟨g8, 2, none⟩ (.slice A3 (k + 1) k3) = gx w x := Gx.setCell hG3 (by have := HN2.out.b8; omega)
          generalize W3.setCell ⟨g8, 2, none⟩ (.slice A3 (k + 1) k3) = W4 at *
          go_wp2
          refine ⟨⟨k + 1, _, _, by omega, ?_, hG4, HN3.out⟩, ?_⟩
          · go_num
          · simp [intOf]; omega
      · obtain rfl : k = n := by omega
        have hlb : w.heap.size < wr.heap.size := hN.res.lt
        obtain ⟨A, c, e, hRM⟩ := hN.rm (fiveR s lim v gI gQ k)
        subst e
        have hr := hN.res
        have hmm := hN.mem
        clear hN
        go_wp2_with (first | (refine wpList_load_row rfl _ _ rfl _ rfl _ _ _ _ hmm Tryz.underlying26 rfl (by unfold fiveR; kernel_rfl) ?_) | (refine wpList_store_row rfl _ _ _ rfl _ _ rfl rfl _ _ hr (by unfold fiveR; kernel_rfl) (by unfold fiveR; rfl) (by simp [fiveR, Value.oneCell']) ?_))
        have hr2 : At (wr.setRow w.heap.size (fiveR s lim (.slice A k c) gI gQ k)) w.heap.size (.cells (fiveR s lim (.slice A k c) gI gQ k) 26 (0, 0)) := At.row ⟨_, hr⟩
        change bodyPost Tryz.prog Tryz.f16 _ .ret _ _
        refine ret_st2 rfl _ _ w.heap.size (fiveR s lim (.slice A k c) gI gQ k) _ rfl rfl rfl (run_loadVar_row _ w.heap.size 26 26 _ (0, 0) _ hr2 Tryz.underlying26 rfl (by unfold fiveR; kernel_rfl)) ?_
        obtain ⟨x, hx⟩ : ∃ x, wr.setRow w.heap.size (fiveR s lim (.slice A k c) gI gQ k) = gx w x := Gx.setRow hG (Nat.le_refl _)
        refine ⟨A, some ⟨gI, 0, none⟩, some ⟨gQ, 0, none⟩, c, k, k, x, ?_, hx, ?_⟩
        · unfold memV fiveR
          rw [secs_len, blank_wl, blank_bl]
          rfl
        · rw [← hx]
          exact hRM
  go_region
  all_goals
    refine cont _ _ _ _ ?_ ?_
    · exact (by repeat (first | (with_reducible exact Gx.refl _) | (with_reducible assumption) | (with_reducible refine Gx.gx ?_) | (with_reducible refine Gx.alloc ?_) | (with_reducible refine Gx.drew ?_) | (with_reducible refine Gx.drewN ?_) | (with_reducible refine Gx.setRow ?_ (by simp)) | (with_reducible refine Gx.setCell ?_ (by simp))))
    · refine ⟨by omega, by omega, by omega, ?_, ?_, rfl, ?_, Secs.nil _ _ _ _, ?_, ?_⟩
      all_goals first | ((focus (repeat (first | (with_reducible assumption) | (with_reducible exact At.new _ _) | (with_reducible refine At.row ?_) | (with_reducible refine At.app ?_) | (with_reducible refine At.tick ?_) | (with_reducible refine At.gx ?_) | ((with_reducible refine At.new' ?_); focus (simp; done)) | (with_reducible refine At.alloc ?_) | (with_reducible refine At.drew ?_) | (with_reducible exact Is.new _ _ _) | (with_reducible refine Is.row ?_) | (with_reducible refine Is.gx ?_) | ((with_reducible refine Is.new' ?_); focus (simp; done)) | (with_reducible refine Is.alloc ?_) | (with_reducible refine Is.drew ?_)))); done) | (unfold fiveR; (focus (repeat (first | (with_reducible assumption) | (with_reducible exact At.new _ _) | (with_reducible refine At.row ?_) | (with_reducible refine At.app ?_) | (with_reducible refine At.tick ?_) | (with_reducible refine At.gx ?_) | ((with_reducible refine At.new' ?_); focus (simp; done)) | (with_reducible refine At.alloc ?_) | (with_reducible refine At.drew ?_) | (with_reducible exact Is.new _ _ _) | (with_reducible refine Is.row ?_) | (with_reducible refine Is.gx ?_) | ((with_reducible refine Is.new' ?_); focus (simp; done)) | (with_reducible refine Is.alloc ?_) | (with_reducible refine Is.drew ?_)))); done) | exact Own.nil _ _ _ _
end Go.Proofs.YthkccbeffonaaaaGreatDoor

/-
  RingNewMatchesSpec: the walk.
-/
namespace Go.Proofs.YthkccbeffonaaaaGreatDoor
open Go.RowKit
-- AT2

theorem blank_good {n s : Nat} {lim : Int} (h : sizesOk n s lim) : Good (blankM n s lim) := by
  have h' := h
  unfold sizesOk at h'
  refine ⟨by rw [secs_len]; exact h, by rw [blank_wl, secs_len], by rw [blank_bl, secs_len], fun i hi => ?_, fun i hi => ?_, fun i => ?_⟩
  · rw [secs_len] at hi
    rw [blank_s hi, onesB_len]
    rfl
  · have e : (blankM n s lim).wear = zerosI n := rfl
    have e2 : (blankM n s lim).limit = lim := rfl
    rw [e, e2, zerosI_get]
    omega
  · by_cases hi : i < n
    · rw [blank_s hi]
      exact onesB_bs _
    · have e : (blankM n s lim).s i = [] := by
        unfold PM.s blankM
        simp only [List.getD]
        rw [List.getElem?_eq_none (by simp; omega)]
        rfl
      rw [e]
      intro j
      simp [gw]
theorem NewMemory_is (n s : Nat) (lim : Int) (h : sizesOk n s lim) (w : World) : Calls Tryz.prog 15 #[.int .i64 n, .int .i64 s, .int .i64 lim] w fun e w' => ∃ A B C a b c, e = .returned (.tuple #[.agg #[.int .i64 s, .int .i64 lim, .slice A n a, .slice B n b, .slice C n c], .int .i64 0]) ∧ (∃ x, w' = gx w x) ∧ RM w' (blankM n s lim) A B C := by
  refine (NewMemory_ok n s lim h w).mono ?_
  rintro e w' ⟨gS, vW, vB, Z, x, rfl, rfl, hO⟩
  obtain ⟨A1, c1, rfl, -⟩ := hO.wear.is
  obtain ⟨A2, c2, rfl, -⟩ := hO.bad.is
  refine ⟨some ⟨gS, 0, none⟩, A1, A2, n, c1, c2, ?_, ⟨x, rfl⟩, OMem.rm (blank_good h) hO⟩
  unfold oV
  rw [secs_len, blank_wl, blank_bl]
  rfl
theorem RNewMemory_is (n s : Nat) (lim : Int) (h : sizesOk n s lim) (w : World) : Calls Tryz.prog 16 #[.int .i64 n, .int .i64 s, .int .i64 lim] w fun e w' => ∃ A B C a b c, e = .returned (.tuple #[.agg #[.int .i64 s, .int .i64 lim, .slice A n a, .slice B n b, .slice C n c], .int .i64 0]) ∧ (∃ x, w' = gx w x) ∧ RM w' (blankM n s lim) A B C := by
  refine (RNewMemory_ok n s lim h w).mono ?_
  rintro e w' ⟨A, B, C, a, b, c, x, rfl, rfl, hO⟩
  refine ⟨A, B, C, a, b, c, ?_, ⟨x, rfl⟩, hO⟩
  unfold memV
  rw [secs_len, blank_wl, blank_bl]
  rfl
theorem same_blank (n s : Nat) (lim : Int) (h : sizesOk n s lim) (A B C A' B' C' : Option Addr) (a b c a' b' c' : Nat) (w : World) (hR : RM w (blankM n s lim) A B C) (hR' : RM w (blankM n s lim) A' B' C') : Calls Tryz.prog 17 #[.agg #[.int .i64 s, .int .i64 lim, .slice A n a, .slice B n b, .slice C n c], .agg #[.int .i64 s, .int .i64 lim, .slice A' n a', .slice B' n b', .slice C' n c']] w fun e w' => e = .returned (.bool true) ∧ ∃ x, w' = gx w x := by
  have := same_ok (blankM n s lim) (blank_good h) A B C A' B' C' a b c a' b' c' w hR hR'
  unfold memV at this
  rw [secs_len, blank_wl, blank_bl] at this
  exact this
theorem five_cells {W : World} {g : Nat} {v0 v1 v2 v3 v4 : Value} {t : TypeId} (h : At W g (.cells #[v0, v1, v2, v3, v4] t (0, 0))) (ob : Obj) : (W.alloc ob).cell? ⟨g, 0, none⟩ = some v0 ∧ (W.alloc ob).cell? ⟨g, 1, none⟩ = some v1 ∧ (W.alloc ob).cell? ⟨g, 2, none⟩ = some v2 ∧ (W.alloc ob).cell? ⟨g, 3, none⟩ = some v3 ∧ (W.alloc ob).cell? ⟨g, 4, none⟩ = some v4 := by
  have h' := At.alloc (o' := ob) h
  refine ⟨?_, ?_, ?_, ?_, ?_⟩ <;> (rw [cell_of_row _ _ _ _ _ _ h']; rfl)
set_option maxHeartbeats 2000000 in
set_option maxRecDepth 100000 in
theorem newLaw_ok (n s : Nat) (lim : Int) (h : sizesOk n s lim) (w : World) (hT : Tab w) :
    Calls Tryz.prog 3 #[.int .i64 n, .int .i64 s, .int .i64 lim] w fun e w' => e = .returned (.bool true) ∧ ∃ x, w' = gx w x := by
  have HH := Lib.hid h
  clear h
  go_enter Tryz.func3, Tryz.ntmps3
  go_wp2_with (first | (go_at_call 15; go_loud (refine (NewMemory_is n s lim HH.out _).mono ?_; rintro e W1 ⟨A, B, C, a, b, c, rfl, hG1', hR1⟩; have hG1 : ∃ x, W1 = gx w x := (hG1'.elim fun x hx => hx ▸ (by repeat (first | (with_reducible exact Gx.refl _) | (with_reducible assumption) | (with_reducible refine Gx.gx ?_) | (with_reducible refine Gx.alloc ?_) | (with_reducible refine Gx.drew ?_) | (with_reducible refine Gx.drewN ?_) | (with_reducible refine Gx.setRow ?_ (by simp)) | (with_reducible refine Gx.setCell ?_ (by simp))))); have HR1 := Lib.hid hR1; clear hR1 hG1')) | (go_at_call 16; go_loud (refine (RNewMemory_is n s lim HH.out _).mono ?_; rintro e W2 ⟨A', B', C', a', b', c', rfl, hG2', hR2⟩; have hG2 : ∃ x, W2 = gx w x := Gx.trans hG2' (by repeat (first | (with_reducible exact Gx.refl _) | (with_reducible assumption) | (with_reducible refine Gx.gx ?_) | (with_reducible refine Gx.alloc ?_) | (with_reducible refine Gx.drew ?_) | (with_reducible refine Gx.drewN ?_) | (with_reducible refine Gx.setRow ?_ (by simp)) | (with_reducible refine Gx.setCell ?_ (by simp)))); have hR1 : RM W2 (blankM n s lim) A B C := RM.of_gx HR1.out (Gx.trans hG2' Gx.one); have hA7 : At W2 W1.heap.size (.cells #[.int .i64 s, .int .i64 lim, .slice A n a, .slice B n b, .slice C n c] 26 (0, 0)) := (hG2'.elim fun x hx => hx ▸ At.gx (At.new _ _)); have q0 := (fun ob => (five_cells hA7 ob).1); have q1 := (fun ob => (five_cells hA7 ob).2.1); have q2 := (fun ob => (five_cells hA7 ob).2.2.1); have q3 := (fun ob => (five_cells hA7 ob).2.2.2.1); have q4 := (fun ob => (five_cells hA7 ob).2.2.2.2); clear hA7; have HR2 := Lib.hid hR2; have HR1' := Lib.hid hR1; clear hR1 hR2 HR1 hG2')) | (go_at_call 17; go_loud (refine (same_blank n s lim HH.out A B C A' B' C' a b c a' b' c' _ (RM.of_gx HR1'.out ?_) (RM.of_gx HR2.out ?_)).mono ?_; (focus (exact (by repeat (first | (with_reducible exact Gx.refl _) | (with_reducible assumption) | (with_reducible refine Gx.gx ?_) | (with_reducible refine Gx.alloc ?_) | (with_reducible refine Gx.drew ?_) | (with_reducible refine Gx.drewN ?_) | (with_reducible refine Gx.setRow ?_ (by simp)) | (with_reducible refine Gx.setCell ?_ (by simp)))))); (focus (exact (by repeat (first | (with_reducible exact Gx.refl _) | (with_reducible assumption) | (with_reducible refine Gx.gx ?_) | (with_reducible refine Gx.alloc ?_) | (with_reducible refine Gx.drew ?_) | (with_reducible refine Gx.drewN ?_) | (with_reducible refine Gx.setRow ?_ (by simp)) | (with_reducible refine Gx.setCell ?_ (by simp)))))); rintro e w' ⟨rfl, z3, rfl⟩)) | (go_at_call 18; go_loud (refine (keptGuard _ ?_).mono ?_; (focus (refine Tab.of_gx' hT ?_; exact (by repeat (first | (with_reducible exact Gx.refl _) | (with_reducible assumption) | (with_reducible refine Gx.gx ?_) | (with_reducible refine Gx.alloc ?_) | (with_reducible refine Gx.drew ?_) | (with_reducible refine Gx.drewN ?_) | (with_reducible refine Gx.setRow ?_ (by simp)) | (with_reducible refine Gx.setCell ?_ (by simp)))))); rintro e w' ⟨rfl, z4, rfl⟩)))
  go_ret
  exact ⟨rfl, (by repeat (first | (with_reducible exact Gx.refl _) | (with_reducible assumption) | (with_reducible refine Gx.gx ?_) | (with_reducible refine Gx.alloc ?_) | (with_reducible refine Gx.drew ?_) | (with_reducible refine Gx.drewN ?_) | (with_reducible refine Gx.setRow ?_ (by simp)) | (with_reducible refine Gx.setCell ?_ (by simp))))⟩
set_option maxHeartbeats 1000000 in
set_option maxRecDepth 100000 in
theorem newLaw_bad (a b c : Int) (h : ¬ sizesOk a b c) (w : World) (hT : Tab w) :
    Calls Tryz.prog 3 #[.int .i64 a, .int .i64 b, .int .i64 c] w fun e w' => e = .returned (.bool true) ∧ ∃ x, w' = gx w x := by
  have H := Lib.hid h
  clear h
  go_enter Tryz.func3, Tryz.ntmps3
  go_wp2_with (first | (go_at_call 15; go_loud (refine (NewMemory_bad a b c H.out _).mono ?_; rintro e W1 ⟨rfl, hG1'⟩; have hG1 : ∃ x, W1 = gx w x := (hG1'.elim fun x hx => hx ▸ (by repeat (first | (with_reducible exact Gx.refl _) | (with_reducible assumption) | (with_reducible refine Gx.gx ?_) | (with_reducible refine Gx.alloc ?_) | (with_reducible refine Gx.drew ?_) | (with_reducible refine Gx.drewN ?_) | (with_reducible refine Gx.setRow ?_ (by simp)) | (with_reducible refine Gx.setCell ?_ (by simp))))); clear hG1')) | (go_at_call 16; go_loud (refine (RNewMemory_bad a b c H.out _).mono ?_; rintro e W2 ⟨rfl, hG2'⟩; have hG2 : ∃ x, W2 = gx w x := Gx.trans hG2' (by repeat (first | (with_reducible exact Gx.refl _) | (with_reducible assumption) | (with_reducible refine Gx.gx ?_) | (with_reducible refine Gx.alloc ?_) | (with_reducible refine Gx.drew ?_) | (with_reducible refine Gx.drewN ?_) | (with_reducible refine Gx.setRow ?_ (by simp)) | (with_reducible refine Gx.setCell ?_ (by simp)))); have hA7 : At W2 W1.heap.size (.cells #[.int .i64 0, .int .i64 0, .slice none 0 0, .slice none 0 0, .slice none 0 0] 26 (0, 0)) := (hG2'.elim fun x hx => hx ▸ At.gx (At.new _ _)); have q0 := (fun ob => (five_cells hA7 ob).1); have q1 := (fun ob => (five_cells hA7 ob).2.1); have q2 := (fun ob => (five_cells hA7 ob).2.2.1); have q3 := (fun ob => (five_cells hA7 ob).2.2.2.1); have q4 := (fun ob => (five_cells hA7 ob).2.2.2.2); clear hA7 hG2')) | (go_at_call 17; go_loud (refine (same_zero _).mono ?_; rintro e w' ⟨rfl, z3, rfl⟩)) | (go_at_call 18; go_loud (refine (keptGuard _ ?_).mono ?_; (focus (refine Tab.of_gx' hT ?_; exact (by repeat (first | (with_reducible exact Gx.refl _) | (with_reducible assumption) | (with_reducible refine Gx.gx ?_) | (with_reducible refine Gx.alloc ?_) | (with_reducible refine Gx.drew ?_) | (with_reducible refine Gx.drewN ?_) | (with_reducible refine Gx.setRow ?_ (by simp)) | (with_reducible refine Gx.setCell ?_ (by simp)))))); rintro e w' ⟨rfl, z4, rfl⟩)))
  go_ret
  exact ⟨rfl, (by repeat (first | (with_reducible exact Gx.refl _) | (with_reducible assumption) | (with_reducible refine Gx.gx ?_) | (with_reducible refine Gx.alloc ?_) | (with_reducible refine Gx.drew ?_) | (with_reducible refine Gx.drewN ?_) | (with_reducible refine Gx.setRow ?_ (by simp)) | (with_reducible refine Gx.setCell ?_ (by simp))))⟩
theorem newLaw (a b c : Int) (w : World) (hT : Tab w) :
    Calls Tryz.prog 3 #[.int .i64 a, .int .i64 b, .int .i64 c] w fun e w' => e = .returned (.bool true) ∧ ∃ x, w' = gx w x := by
  by_cases h : sizesOk a b c
  · have h' := h
    unfold sizesOk at h'
    obtain ⟨n, rfl⟩ : ∃ n : Nat, a = n := ⟨a.toNat, by omega⟩
    obtain ⟨s, rfl⟩ : ∃ s : Nat, b = s := ⟨b.toNat, by omega⟩
    exact newLaw_ok n s c h w hT
  · exact newLaw_bad a b c h w hT
end Go.Proofs.YthkccbeffonaaaaGreatDoor
