/-
  SwapFrames, the program's and the reference's: contracts, and what both leave.
-/
import Derived.Test.YtemgjiajpgepiaaDoorClear
import Derived.Test.YtemgjiajpgepiaaDoorRow
import Derived.BigRegion
namespace Go.Proofs.YtemgjiajpgepiaaDoor
open Go.RowKit
-- AT2

/-- The n bytes from o on. -/
def cut (C : List Int) (o n : Nat) : List Int := (C.drop o).take n
theorem cut_len (C : List Int) (o n : Nat) (h : o + n ≤ C.length) : (cut C o n).length = n := by unfold cut; simp; omega
theorem gw_cut (C : List Int) (o n j : Nat) (hj : j < n) : gw (cut C o n) j = gw C (o + j) := by unfold cut; rw [gw_take _ _ _ hj, gw_drop]
/-- The bytes with two pieces of 96 exchanged. -/
def swapC (C : List Int) (p q : Nat) : List Int := putAt (putAt C p (cut C q 96)) q (cut C p 96)
theorem swapC_len (C : List Int) (p q : Nat) : (swapC C p q).length = C.length := by unfold swapC; rw [putAt_len, putAt_len]
theorem putAt_swap (C A B : List Int) (p q : Nat) (hp : p + A.length ≤ C.length) (hq : q + B.length ≤ C.length) (ha : p + A.length ≤ q ∨ q + B.length ≤ p) : putAt (putAt C p A) q B = putAt (putAt C q B) p A := by
  refine ext_gw (by simp only [putAt_len]) fun k _ => ?_
  rw [gw_putAt B _ q k (by rw [putAt_len]; exact hq), gw_putAt A C p k hp, gw_putAt A _ p k (by rw [putAt_len]; exact hp), gw_putAt B C q k hq]
  by_cases h1 : q ≤ k ∧ k < q + B.length
  · rw [if_pos h1, if_neg (by omega), if_pos h1]
  · rw [if_neg h1, if_neg h1]
theorem gw_swapC (C : List Int) (p q : Nat) (hp : p + 96 ≤ C.length) (hq : q + 96 ≤ C.length) (k : Nat) :
    gw (swapC C p q) k = if q ≤ k ∧ k < q + 96 then gw C (p + (k - q)) else if p ≤ k ∧ k < p + 96 then gw C (q + (k - p)) else gw C k := by
  have l1 := cut_len C p 96 hp
  have l2 := cut_len C q 96 hq
  unfold swapC
  rw [gw_putAt _ _ q k (by rw [putAt_len, l1]; exact hq), l1, gw_putAt _ C p k (by rw [l2]; exact hp), l2]
  by_cases h1 : q ≤ k ∧ k < q + 96
  · rw [if_pos h1, if_pos h1, gw_cut _ _ _ _ (by omega)]
  · rw [if_neg h1, if_neg h1]
    by_cases h2 : p ≤ k ∧ k < p + 96
    · rw [if_pos h2, if_pos h2, gw_cut _ _ _ _ (by omega)]
    · rw [if_neg h2, if_neg h2]

section
variable {w : World} {g : Nat} {C : List Int}
theorem range_row (hA : At w g (.cells (bc C) 5 (0, 0))) (o : Nat) (h : o + 96 ≤ C.length) : w.rangeAt g o ((cut C o 96).map (Value.int .u8)) := fun j v hv => by
  rw [List.getElem?_map] at hv
  obtain ⟨y, hy, rfl⟩ := Option.map_eq_some_iff.1 hv
  obtain ⟨hj, e⟩ := List.getElem?_eq_some_iff.1 hy
  rw [cut_len C o 96 h] at hj
  rw [cell_of_row w g _ _ _ _ hA, bc_get C _ (by omega), ← gw_cut C o 96 j hj, ← e]
  congr 2
  unfold gw
  simp [List.getD, cut_len C o 96 h, hj]
set_option maxRecDepth 100000 in
theorem load_row96 (hA : At w g (.cells (bc C) 5 (0, 0))) (o : Nat) (h : o + 96 ≤ C.length) :
    (loadVar 120 ⟨g, o, none⟩).run Tryd.prog w = .ok (.agg (bc (cut C o 96))) w :=
  run_loadVar_mid w g o 120 _ _ (range_row hA o h) Tryd.underlying120 rfl (by rw [List.length_map, cut_len C o 96 h]; kernel_rfl)
set_option maxRecDepth 100000 in
theorem store_row96 (hA : At w g (.cells (bc C) 5 (0, 0))) (o : Nat) (D : List Int) (hD : D.length = 96) (h : o + 96 ≤ C.length) :
    (storeVar 120 ⟨g, o, none⟩ (.agg (bc D))).run Tryd.prog w = .ok () (w.setRow g (bc (putAt C o D))) := by
  have := run_storeVar_mid (P := Tryd.prog) w g o 120 (bc D) (fun j hj => by
    rw [bc_size, hD] at hj
    refine ⟨?_, frozen_of_row _ g _ _ _ hA⟩
    rw [cell_of_row w g _ _ _ _ hA, bc_get C _ (by omega)]; rfl) (by rw [bc_size, hD]; kernel_rfl) (by simp [bc, Value.oneCell'])
  rw [this]
  congr 1
  unfold bc
  exact setCells_row g D C o w hA
end

/-- Reading and writing 96 bytes at once, as one thing for the walk. -/
@[irreducible] def load96 (a : Addr) : Sem Value := loadVar 120 a
@[irreducible] def store96 (a : Addr) (v : Value) : Sem Unit := storeVar 120 a v
theorem load96_is (a : Addr) : loadVar 120 a = load96 a := by unfold load96; rfl
theorem store96_is (a : Addr) (v : Value) : storeVar 120 a v = store96 a v := by unfold store96; rfl
attribute [local go_sem ↓] load96_is store96_is

set_option maxHeartbeats 600000 in
set_option maxRecDepth 100000 in
theorem Swap_bad1 (A : Option Addr) (n c : Nat) (at_ to_ : Int) (hm : n ≤ 9223372036854775807) (ha : at_ ≤ 9223372036854775807) (w : World) (E : Int) (he : placeE n at_ 96 = E) (hE : E ≠ 0) :
    Calls Tryd.prog 68 #[.slice A n c, .int .i64 at_, .int .i64 to_] w fun e w' => e = .returned (.int .i64 E) ∧ ∃ x, w' = gx w x := by
  have hb : (E != 0) = true := by rw [bne_iff_ne]; exact hE
  have HE := Lib.hid he
  clear he
  go_enter Tryd.func68, Tryd.ntmps68
  go_wp2_with (go_at_call 106; refine (inPlace_bad A n c at_ hm ha _ E HE.out hE).mono ?_; rintro e w' ⟨rfl, rfl⟩)
  go_ret
  exact ⟨rfl, (by repeat (first | (with_reducible exact Gx.refl _) | (with_reducible refine Gx.gx ?_) | (with_reducible refine Gx.alloc ?_) | (with_reducible refine Gx.drew ?_) | (with_reducible refine Gx.drewN ?_) | (with_reducible refine Gx.setRow ?_ (by simp)) | (with_reducible refine Gx.setCell ?_ (by simp))))⟩

set_option maxHeartbeats 600000 in
set_option maxRecDepth 100000 in
theorem Swap_bad2 (g o n c q : Nat) (to_ : Int) (hm : n ≤ 9223372036854775807) (hnc : n ≤ c) (hcm : c ≤ 9223372036854775807) (h : q + 96 ≤ n) (ht : to_ ≤ 9223372036854775807) (w : World) (E : Int) (he : placeE n to_ 96 = E) (hE : E ≠ 0) (hne : ((q : Int) == to_) = false) :
    Calls Tryd.prog 68 #[.slice (some ⟨g, o, none⟩) n c, .int .i64 q, .int .i64 to_] w fun e w' => e = .returned (.int .i64 E) ∧ ∃ x, w' = gx w x := by
  have hb : (E != 0) = true := by rw [bne_iff_ne]; exact hE
  have HE := Lib.hid he
  have Hn := Lib.hid hne
  clear he hne
  go_enter Tryd.func68, Tryd.ntmps68
  go_wp2_with (first | (go_at_call_of 106 (Value.int .i64 (q : Int)); refine (inPlace_good g o n c q hm hnc hcm h _).mono ?_; rintro e w' ⟨rfl, rfl⟩) | (go_at_call 106; refine (inPlace_bad (some ⟨g, o, none⟩) n c to_ hm ht _ E HE.out hE).mono ?_; rintro e w' ⟨rfl, rfl⟩))
  go_ret
  exact ⟨rfl, (by repeat (first | (with_reducible exact Gx.refl _) | (with_reducible refine Gx.gx ?_) | (with_reducible refine Gx.alloc ?_) | (with_reducible refine Gx.drew ?_) | (with_reducible refine Gx.drewN ?_) | (with_reducible refine Gx.setRow ?_ (by simp)) | (with_reducible refine Gx.setCell ?_ (by simp))))⟩

set_option maxHeartbeats 600000 in
set_option maxRecDepth 100000 in
theorem Swap_near (g o n c q r : Nat) (hm : n ≤ 9223372036854775807) (hnc : n ≤ c) (hcm : c ≤ 9223372036854775807) (h : q + 96 ≤ n) (h' : r + 96 ≤ n) (hn : q < r + 96 ∧ r < q + 96) (w : World) :
    Calls Tryd.prog 68 #[.slice (some ⟨g, o, none⟩) n c, .int .i64 q, .int .i64 r] w fun e w' => e = .returned (.int .i64 2) ∧ ∃ x, w' = gx w x := by
  have h1 := hn.1
  have h2 := hn.2
  clear hn
  go_enter Tryd.func68, Tryd.ntmps68
  go_wp2_with (first | (go_at_call_of 106 (Value.int .i64 (q : Int)); refine (inPlace_good g o n c q hm hnc hcm h _).mono ?_; rintro e w' ⟨rfl, rfl⟩) | (go_at_call 106; refine (inPlace_good g o n c r hm hnc hcm h' _).mono ?_; rintro e w' ⟨rfl, rfl⟩))
  go_ret
  exact ⟨rfl, (by repeat (first | (with_reducible exact Gx.refl _) | (with_reducible refine Gx.gx ?_) | (with_reducible refine Gx.alloc ?_) | (with_reducible refine Gx.drew ?_) | (with_reducible refine Gx.drewN ?_) | (with_reducible refine Gx.setRow ?_ (by simp)) | (with_reducible refine Gx.setCell ?_ (by simp))))⟩

set_option maxHeartbeats 1000000 in
set_option maxRecDepth 100000 in
theorem Swap_good (C : List Int) (g o n c q r : Nat) (hm : n ≤ 9223372036854775807) (hnc : n ≤ c) (hcm : c ≤ 9223372036854775807) (h : q + 96 ≤ n) (h' : r + 96 ≤ n) (hn : q + 96 ≤ r ∨ r + 96 ≤ q) (hC : o + n ≤ C.length) (w : World) (hA : At w g (.cells (bc C) 5 (0, 0))) :
    Calls Tryd.prog 68 #[.slice (some ⟨g, o, none⟩) n c, .int .i64 q, .int .i64 r] w fun e w' => e = .returned (.int .i64 0) ∧ ∃ x, w' = gx (w.setRow g (bc (swapC C (o + q) (o + r)))) x := by
  have lq := cut_len C (o + q) 96 (by omega)
  have lr := cut_len C (o + r) 96 (by omega)
  have hA' : At w.drew g (.cells (bc C) 5 (0, 0)) := hA.drew
  have L1 := load_row96 hA' (o + q) (by omega)
  have L2 := load_row96 hA' (o + r) (by omega)
  have S1 := store_row96 hA' (o + q) _ lr (by omega)
  have S2 := store_row96 hA' (o + r) _ lq (by omega)
  have hA1 : At (w.drew.setRow g (bc (putAt C (o + q) (cut C (o + r) 96)))) g (.cells (bc (putAt C (o + q) (cut C (o + r) 96))) 5 (0, 0)) := At.row ⟨_, hA'⟩
  have hA2 : At (w.drew.setRow g (bc (putAt C (o + r) (cut C (o + q) 96)))) g (.cells (bc (putAt C (o + r) (cut C (o + q) 96))) 5 (0, 0)) := At.row ⟨_, hA'⟩
  have S12 := store_row96 hA1 (o + r) _ lq (by rw [putAt_len]; omega)
  have S21 := store_row96 hA2 (o + q) _ lr (by rw [putAt_len]; omega)
  rw [row_row] at S12 S21
  rw [show putAt (putAt C (o + r) (cut C (o + q) 96)) (o + q) (cut C (o + r) 96) = swapC C (o + q) (o + r) from (putAt_swap C _ _ _ _ (by omega) (by omega) (by omega)).symm] at S21
  rw [show putAt (putAt C (o + q) (cut C (o + r) 96)) (o + r) (cut C (o + q) 96) = swapC C (o + q) (o + r) from rfl] at S12
  obtain ⟨W1, h1⟩ : ∃ W, W = w.drew.setRow g (bc (putAt C (o + q) (cut C (o + r) 96))) := ⟨_, rfl⟩
  obtain ⟨W2, h2⟩ : ∃ W, W = w.drew.setRow g (bc (putAt C (o + r) (cut C (o + q) 96))) := ⟨_, rfl⟩
  obtain ⟨W3, h3⟩ : ∃ W, W = w.drew.setRow g (bc (swapC C (o + q) (o + r))) := ⟨_, rfl⟩
  rw [← h1] at S1 S12
  rw [← h2] at S2 S21
  rw [← h3] at S12 S21
  rw [load96_is] at L1 L2
  rw [store96_is] at S1 S2 S12 S21
  have H3 : Hid (∃ x, W3 = gx (w.setRow g (bc (swapC C (o + q) (o + r)))) x) := by
    refine ⟨⟨#[], w.drawn + 1⟩, ?_⟩
    rw [h3, drew_is, setRow_gx w _ g _ hA.lt]
  clear h1 h2 h3 hA1 hA2 hA' lq lr hA
  generalize bc (cut C (o + q) 96) = X at *
  generalize bc (cut C (o + r) 96) = Y at *
  have k1 : ((q : Int) - r < 96 && (r : Int) - q < 96) = false := by
    rw [Bool.and_eq_false_iff]; simp only [decide_eq_false_iff_not]; omega
  rcases hn with hn | hn
  · go_enter Tryd.func68, Tryd.ntmps68
    go_wp2_with (first | (go_at_call_of 106 (Value.int .i64 (q : Int)); refine (inPlace_good g o n c q hm hnc hcm h _).mono ?_; rintro e w' ⟨rfl, rfl⟩) | (go_at_call 106; refine (inPlace_good g o n c r hm hnc hcm h' _).mono ?_; rintro e w' ⟨rfl, rfl⟩))
    go_region
    all_goals (go_wp2; go_ret; exact ⟨rfl, H3.out⟩)
  · go_enter Tryd.func68, Tryd.ntmps68
    go_wp2_with (first | (go_at_call_of 106 (Value.int .i64 (q : Int)); refine (inPlace_good g o n c q hm hnc hcm h _).mono ?_; rintro e w' ⟨rfl, rfl⟩) | (go_at_call 106; refine (inPlace_good g o n c r hm hnc hcm h' _).mono ?_; rintro e w' ⟨rfl, rfl⟩))
    go_region
    all_goals (go_wp2; go_ret; exact ⟨rfl, H3.out⟩)
end Go.Proofs.YtemgjiajpgepiaaDoor
