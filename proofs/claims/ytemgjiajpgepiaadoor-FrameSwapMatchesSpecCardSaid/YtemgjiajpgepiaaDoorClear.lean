/-
  ClearFrame, the program's and the reference's: contracts.
-/
import Derived.Test.YtemgjiajpgepiaaDoorLawSetWord
namespace Go.Proofs.YtemgjiajpgepiaaDoor
open Go.RowKit
-- AT2

/-- The first k bytes from q on are 255. -/
def fillTo (C : List Int) (q : Nat) : Nat → List Int
  | 0 => C
  | k + 1 => (fillTo C q k).set (q + k) 255
theorem fillTo_len (C : List Int) (q : Nat) : ∀ k, (fillTo C q k).length = C.length
  | 0 => rfl
  | k + 1 => by simp only [fillTo]; rw [List.length_set, fillTo_len C q k]
theorem gw_fillTo (C : List Int) (q : Nat) : ∀ k, q + k ≤ C.length → ∀ x, gw (fillTo C q k) x = if q ≤ x ∧ x < q + k then 255 else gw C x
  | 0, _, x => by rw [if_neg (by omega)]; rfl
  | k + 1, h, x => by
    simp only [fillTo]
    rw [gw_set _ _ _ _ (by rw [fillTo_len]; omega), gw_fillTo C q k (by omega) x]
    by_cases e : x = q + k
    · rw [if_pos e, if_pos (by omega)]
    · rw [if_neg e]
      by_cases c : q ≤ x ∧ x < q + k
      · rw [if_pos c, if_pos (by omega)]
      · rw [if_neg c, if_neg (by omega)]
def fillB : List Int := fillTo (zerosI 96) 0 96
theorem fillB_len : fillB.length = 96 := by unfold fillB; rw [fillTo_len, zerosI_len]
theorem gw_fillB (j : Nat) (hj : j < 96) : gw fillB j = 255 := by unfold fillB; rw [gw_fillTo _ _ _ (by rw [zerosI_len]; decide), if_pos (by omega)]
theorem fillB_is : fillTo (zerosI 96) 0 96 = fillB := rfl
attribute [irreducible] fillB
/-- What ClearFrame leaves of the slice and of the bytes around it. -/
theorem clear_around {M C : List Int} {q : Nat} (hr : Around M C) (h : q + 96 ≤ M.length) :
    (∀ j, j < M.length → gw (fillTo C (5 + q) 96) (5 + j) = gw (putAt M q fillB) j) ∧ (∀ j, j < 5 → gw (fillTo C (5 + q) 96) j = gw [1, 2, 3, 4, 5] j) ∧ (∀ j, j < 7 → gw (fillTo C (5 + q) 96) (5 + M.length + j) = gw [9, 8, 7, 6, 5, 4, 3] j) := by
  have hq : 5 + q + 96 ≤ C.length := by have := hr.len; omega
  refine ⟨fun j hj => ?_, fun j hj => ?_, fun j hj => ?_⟩
  · rw [gw_fillTo C (5 + q) 96 hq, gw_putAt fillB M q j (by rw [fillB_len]; exact h), fillB_len]
    by_cases c : q ≤ j ∧ j < q + 96
    · rw [if_pos (by omega), if_pos c, gw_fillB _ (by omega)]
    · rw [if_neg (by omega), if_neg c]
      exact hr.mid j hj
  · rw [gw_fillTo C (5 + q) 96 hq, if_neg (by omega)]; exact hr.pre j hj
  · rw [gw_fillTo C (5 + q) 96 hq, if_neg (by omega)]; exact hr.post j hj

set_option maxHeartbeats 600000 in
theorem Clear_bad (A : Option Addr) (n c : Nat) (at_ : Int) (hm : n ≤ 9223372036854775807) (ha : at_ ≤ 9223372036854775807) (w : World) (E : Int) (he : placeE n at_ 96 = E) (hE : E ≠ 0) :
    Calls Tryd.prog 70 #[.slice A n c, .int .i64 at_] w fun e w' => e = .returned (.int .i64 E) ∧ ∃ x, w' = gx w x := by
  have hb : (E != 0) = true := by rw [bne_iff_ne]; exact hE
  have HE := Lib.hid he
  clear he
  go_enter Tryd.func70, Tryd.ntmps70
  go_wp2_with (go_at_call 106; refine (inPlace_bad A n c at_ hm ha _ E HE.out hE).mono ?_; rintro e w' ⟨rfl, rfl⟩)
  go_ret
  exact ⟨rfl, (by repeat (first | (with_reducible exact Gx.refl _) | (with_reducible refine Gx.gx ?_) | (with_reducible refine Gx.alloc ?_) | (with_reducible refine Gx.drew ?_) | (with_reducible refine Gx.drewN ?_) | (with_reducible refine Gx.setRow ?_ (by simp)) | (with_reducible refine Gx.setCell ?_ (by simp))))⟩

set_option maxHeartbeats 600000 in
set_option maxRecDepth 100000 in
theorem Clear_good (C : List Int) (g o n c q : Nat) (hm : n ≤ 9223372036854775807) (hnc : n ≤ c) (hcm : c ≤ 9223372036854775807) (h : q + 96 ≤ n) (hq : o + q + 96 ≤ C.length) (w : World) (hA : At w g (.cells (bc C) 5 (0, 0))) :
    Calls Tryd.prog 70 #[.slice (some ⟨g, o, none⟩) n c, .int .i64 q] w fun e w' => e = .returned (.int .i64 0) ∧ ∃ x, w' = gx (w.setRow g (bc (fillTo C (o + q) 96))) x := by
  have hg := hA.lt
  have hI : Is w g 5 := ⟨_, hA⟩
  have e0 : w.setRow g (bc C) = w := hA.self
  have E0 := Lib.hid e0
  clear e0
  go_enter Tryd.func70, Tryd.ntmps70
  go_wp2_with (go_at_call 106; refine (inPlace_good g o n c q hm hnc hcm h _).mono ?_; rintro e w' ⟨rfl, rfl⟩)
  go_loopw [17] (fun i wr => ∃ k : Nat, k ≤ 96 ∧ i = .int .i64 k ∧ wr = w.setRow g (bc (fillTo C (o + q) k))) (fun i _ => 96 - (intOf i).toNat)
  case atStart => exact ⟨0, Nat.zero_le _, rfl, by show w = w.setRow g (bc C); exact E0.out.symm⟩
  case round =>
    obtain ⟨k, hk, rfl, rfl⟩ := hrel
    by_cases hlt : k < 96
    · have hlf : o + q + k < (fillTo C (o + q) k).length := by rw [fillTo_len]; omega
      have e : (fillTo C (o + q) k).set (o + q + k) 255 = fillTo C (o + q) (k + 1) := rfl
      go_wp2
      go_roundw
      case rel => exact ⟨k + 1, by omega, by go_num, rfl⟩
      case measure => simp [intOf]; omega
    · obtain rfl : k = 96 := by omega
      go_wp2
      go_ret
      exact ⟨rfl, (by repeat (first | (with_reducible exact Gx.refl _) | (with_reducible refine Gx.gx ?_) | (with_reducible refine Gx.alloc ?_) | (with_reducible refine Gx.drew ?_) | (with_reducible refine Gx.drewN ?_) | (with_reducible refine Gx.setRow ?_ (by simp)) | (with_reducible refine Gx.setCell ?_ (by simp))))⟩

set_option maxHeartbeats 600000 in
theorem RClear_bad (A : Option Addr) (n c : Nat) (at_ : Int) (hm : n ≤ 9223372036854775807) (ha : at_ ≤ 9223372036854775807) (w : World) (E : Int) (he : placeE n at_ 96 = E) (hE : E ≠ 0) :
    Calls Tryd.prog 69 #[.slice A n c, .int .i64 at_] w fun e w' => e = .returned (.tuple #[.slice A n c, .int .i64 E]) ∧ ∃ x, w' = gx w x := by
  have hb : (E != 0) = true := by rw [bne_iff_ne]; exact hE
  clear hE
  go_enter Tryd.func69, Tryd.ntmps69
  go_wp2_with (go_at_call 108; refine (Place_any A n c at_ 96 hm ha (by decide) _).mono ?_; rintro e w' ⟨rfl, rfl⟩)
  go_ret2
  exact ⟨rfl, (by repeat (first | (with_reducible exact Gx.refl _) | (with_reducible refine Gx.gx ?_) | (with_reducible refine Gx.alloc ?_) | (with_reducible refine Gx.drew ?_) | (with_reducible refine Gx.drewN ?_) | (with_reducible refine Gx.setRow ?_ (by simp)) | (with_reducible refine Gx.setCell ?_ (by simp))))⟩

theorem with_len (k : Nat) (M L : List Int) (hk : L.length = k) (h0 : 0 < k) (hM : Bs M) (q : Nat) (h : q + k ≤ M.length) (A A' : Option Addr) (c c' : Nat) (w : World) (hH : HeldB M A M.length w) (hH' : HeldB L A' k w) (hm : M.length ≤ 140737488355328) :
    Calls Tryd.prog 112 #[.slice A M.length c, .int .i64 q, .slice A' k c'] w fun e w' => ∃ g C x, e = .returned (.slice (some ⟨g, 0, none⟩) M.length C.length) ∧
      w' = gx w x ∧ w.heap.size ≤ g ∧ At (gx w x) g (.cells (bc C) 5 (0, 0)) ∧ With M L q C := by
  subst hk
  exact with_any M L hM q h h0 A A' c c' w hH hH' hm

set_option maxHeartbeats 1000000 in
set_option maxRecDepth 100000 in
theorem RClear_good (M : List Int) (hM : Bs M) (A : Option Addr) (c q : Nat) (h : q + 96 ≤ M.length) (w : World) (hH : HeldB M A M.length w) (hm : M.length ≤ 140737488355328) :
    Calls Tryd.prog 69 #[.slice A M.length c, .int .i64 q] w fun e w' => ∃ g C x, e = .returned (.tuple #[.slice (some ⟨g, 0, none⟩) M.length C.length, .int .i64 0]) ∧
      w' = gx w x ∧ w.heap.size ≤ g ∧ At (gx w x) g (.cells (bc C) 5 (0, 0)) ∧ With M fillB q C := by
  have he : placeE M.length q 96 = 0 := by unfold placeE; rw [if_neg (by omega), if_neg (by omega)]
  have key : ∀ W g C, (∃ x, W = gx w x) → w.heap.size ≤ g → At W g (.cells (bc C) 5 (0, 0)) → With M fillB q C → ∃ g' C' x, Ending.returned (.tuple #[.slice (some ⟨g, 0, none⟩) M.length C.length, .int .i64 0]) = .returned (.tuple #[.slice (some ⟨g', 0, none⟩) M.length C'.length, .int .i64 0]) ∧
      W = gx w x ∧ w.heap.size ≤ g' ∧ At (gx w x) g' (.cells (bc C') 5 (0, 0)) ∧ With M fillB q C' := fun W g C ⟨x, h⟩ h1 hA h2 => ⟨g, C, x, rfl, h, h1, h ▸ hA, h2⟩
  have Key := Lib.hid key
  have hb := Lib.hid fillB_is
  clear key
  go_enter Tryd.func69, Tryd.ntmps69
  go_wp2_with (go_at_call 108; refine (Place_any A M.length c q 96 (by omega) (by omega) (by decide) _).mono ?_; rintro e w' ⟨rfl, rfl⟩)
  go_loopw [19] (fun i wr => ∃ k : Nat, k ≤ 96 ∧ i = .int .i64 k ∧ wr = w.alloc (.cells (bc (fillTo (zerosI 96) 0 k)) 5)) (fun i _ => 96 - (intOf i).toNat)
  case atStart => exact ⟨0, Nat.zero_le _, rfl, rfl⟩
  case round =>
    obtain ⟨k, hk, rfl, rfl⟩ := hrel
    by_cases hlt : k < 96
    · have hlf : (fillTo (zerosI 96) 0 k).length = 96 := by rw [fillTo_len, zerosI_len]
      have e : (fillTo (zerosI 96) 0 k).set k 255 = fillTo (zerosI 96) 0 (k + 1) := by simp only [fillTo, Nat.zero_add]
      go_wp2
      go_roundw
      case rel => exact ⟨k + 1, by omega, by go_num, rfl⟩
      case measure => simp [intOf]; omega
    · obtain rfl : k = 96 := by omega
      rw [hb.out]
      go_wp2_with (go_at_call 112; refine (with_len 96 M fillB fillB_len (by decide) hM q h A _ _ _ _ ?_ (HeldB.of_at (B := fillB) ?_ (by rw [fillB_len]; decide)) hm).mono ?_; (focus (repeat (first | (with_reducible assumption) | (with_reducible refine HeldB.gx ?_) | (with_reducible refine HeldB.alloc ?_)))); (focus (repeat (first | (with_reducible assumption) | (with_reducible exact At.new _ _) | (with_reducible refine At.row ?_) | (with_reducible refine At.app ?_) | (with_reducible refine At.tick ?_) | (with_reducible refine At.gx ?_) | ((with_reducible refine At.new' ?_); focus (simp; done)) | (with_reducible refine At.alloc ?_) | (with_reducible refine At.drew ?_) | (with_reducible exact Is.new _ _ _) | (with_reducible refine Is.row ?_) | (with_reducible refine Is.gx ?_) | ((with_reducible refine Is.new' ?_); focus (simp; done)) | (with_reducible refine Is.alloc ?_) | (with_reducible refine Is.drew ?_)))); rintro e w' ⟨g2, C2, z2, rfl, rfl, hg2, hA2, hw2⟩; (try simp only [gx_gx] at hA2))
      go_ret2
      exact Key.out _ _ _ (by repeat (first | (with_reducible exact Gx.refl _) | (with_reducible refine Gx.gx ?_) | (with_reducible refine Gx.alloc ?_) | (with_reducible refine Gx.drew ?_) | (with_reducible refine Gx.drewN ?_) | (with_reducible refine Gx.setRow ?_ (by simp)) | (with_reducible refine Gx.setCell ?_ (by simp)))) (by simp at hg2; omega) (by (focus (repeat (first | (with_reducible assumption) | (with_reducible exact At.new _ _) | (with_reducible refine At.row ?_) | (with_reducible refine At.app ?_) | (with_reducible refine At.tick ?_) | (with_reducible refine At.gx ?_) | ((with_reducible refine At.new' ?_); focus (simp; done)) | (with_reducible refine At.alloc ?_) | (with_reducible refine At.drew ?_) | (with_reducible exact Is.new _ _ _) | (with_reducible refine Is.row ?_) | (with_reducible refine Is.gx ?_) | ((with_reducible refine Is.new' ?_); focus (simp; done)) | (with_reducible refine Is.alloc ?_) | (with_reducible refine Is.drew ?_))))) hw2
end Go.Proofs.YtemgjiajpgepiaaDoor
