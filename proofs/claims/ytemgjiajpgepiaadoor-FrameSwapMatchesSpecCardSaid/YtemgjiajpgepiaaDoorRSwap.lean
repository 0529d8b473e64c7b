/-
  The reference's SwapFrames: contracts.
-/
import Derived.Test.YtemgjiajpgepiaaDoorSwap
import Derived.Deep.RegionWith
namespace Go.Proofs.YtemgjiajpgepiaaDoor
open Go.RowKit
-- AT2

@[go_sem high] theorem fold_two (a b : Int) : (#[Value.int .i64 a, Value.int .i64 b] : Array Value) = ic [a, b] := rfl

set_option maxHeartbeats 1000000 in
set_option maxRecDepth 100000 in
theorem RSwap_bad1 (A : Option Addr) (n c : Nat) (at_ to_ : Int) (hm : n ≤ 9223372036854775807) (ha : at_ ≤ 9223372036854775807) (w : World) (E : Int) (he : placeE n at_ 96 = E) (hE : E ≠ 0) :
    Calls Tryd.prog 67 #[.slice A n c, .int .i64 at_, .int .i64 to_] w fun e w' => e = .returned (.tuple #[.slice A n c, .int .i64 E]) ∧ ∃ x, w' = gx w x := by
  have hb : (E != 0) = true := by rw [bne_iff_ne]; exact hE
  have HE := Lib.hid he
  have g0 : gw [at_, to_] 0 = at_ := by unfold gw; rfl
  have hl : [at_, to_].length = 2 := rfl
  clear he hE
  go_enter Tryd.func67, Tryd.ntmps67
  go_wp2
  go_loop [15] (fun i => i = .int .i64 0) (fun i => 2 - (intOf i).toNat)
  case atStart => rfl
  case round =>
    subst hrel
    go_wp2_with (go_at_call 108; refine (Place_any A n c at_ 96 hm ha (by decide) _).mono ?_; rw [HE.out]; rintro e w' ⟨rfl, rfl⟩)
    go_ret2
    exact ⟨rfl, (by repeat (first | (with_reducible exact Gx.refl _) | (with_reducible refine Gx.gx ?_) | (with_reducible refine Gx.alloc ?_) | (with_reducible refine Gx.drew ?_) | (with_reducible refine Gx.drewN ?_) | (with_reducible refine Gx.setRow ?_ (by simp)) | (with_reducible refine Gx.setCell ?_ (by simp))))⟩

set_option maxHeartbeats 1000000 in
set_option maxRecDepth 100000 in
theorem RSwap_bad2 (A : Option Addr) (n c q : Nat) (to_ : Int) (hm : n ≤ 9223372036854775807) (h : q + 96 ≤ n) (ht : to_ ≤ 9223372036854775807) (w : World) (E : Int) (he : placeE n to_ 96 = E) (hE : E ≠ 0) :
    Calls Tryd.prog 67 #[.slice A n c, .int .i64 q, .int .i64 to_] w fun e w' => e = .returned (.tuple #[.slice A n c, .int .i64 E]) ∧ ∃ x, w' = gx w x := by
  have hb : (E != 0) = true := by rw [bne_iff_ne]; exact hE
  have HE := Lib.hid he
  have hq : placeE n q 96 = 0 := by unfold placeE; rw [if_neg (by omega), if_neg (by omega)]
  have HQ := Lib.hid hq
  have g0 : gw [(q : Int), to_] 0 = q := by unfold gw; rfl
  have g1 : gw [(q : Int), to_] 1 = to_ := by unfold gw; rfl
  have hl : [(q : Int), to_].length = 2 := rfl
  clear he hE hq
  go_enter Tryd.func67, Tryd.ntmps67
  go_wp2
  go_loop [15] (fun i => i = .int .i64 0 ∨ i = .int .i64 1) (fun i => 2 - (intOf i).toNat)
  case atStart => exact .inl rfl
  case round =>
    rcases hrel with rfl | rfl
    · go_wp2_with (go_at_call 108; refine (Place_any A n c q 96 hm (by omega) (by decide) _).mono ?_; rw [HQ.out]; rintro e w' ⟨rfl, rfl⟩)
      go_round
      case rel => exact .inr rfl
      case measure => simp [intOf]
    · go_wp2_with (go_at_call 108; refine (Place_any A n c to_ 96 hm ht (by decide) _).mono ?_; rw [HE.out]; rintro e w' ⟨rfl, rfl⟩)
      go_ret2
      exact ⟨rfl, (by repeat (first | (with_reducible exact Gx.refl _) | (with_reducible refine Gx.gx ?_) | (with_reducible refine Gx.alloc ?_) | (with_reducible refine Gx.drew ?_) | (with_reducible refine Gx.drewN ?_) | (with_reducible refine Gx.setRow ?_ (by simp)) | (with_reducible refine Gx.setCell ?_ (by simp))))⟩

set_option maxHeartbeats 1000000 in
set_option maxRecDepth 100000 in
theorem RSwap_near (A : Option Addr) (n c q r : Nat) (hm : n ≤ 9223372036854775807) (h : q + 96 ≤ n) (h' : r + 96 ≤ n) (hn : q < r + 96 ∧ r < q + 96) (w : World) :
    Calls Tryd.prog 67 #[.slice A n c, .int .i64 q, .int .i64 r] w fun e w' => e = .returned (.tuple #[.slice A n c, .int .i64 2]) ∧ ∃ x, w' = gx w x := by
  have h1 := hn.1
  have h2 := hn.2
  have hq : placeE n q 96 = 0 := by unfold placeE; rw [if_neg (by omega), if_neg (by omega)]
  have hr : placeE n r 96 = 0 := by unfold placeE; rw [if_neg (by omega), if_neg (by omega)]
  have HQ := Lib.hid hq
  have HR := Lib.hid hr
  have g0 : gw [(q : Int), (r : Int)] 0 = q := by unfold gw; rfl
  have g1 : gw [(q : Int), (r : Int)] 1 = r := by unfold gw; rfl
  have hl : [(q : Int), (r : Int)].length = 2 := rfl
  clear hn hq hr
  go_enter Tryd.func67, Tryd.ntmps67
  go_wp2
  go_loop [15] (fun i => i = .int .i64 0 ∨ i = .int .i64 1 ∨ i = .int .i64 2) (fun i => 2 - (intOf i).toNat)
  case atStart => exact .inl rfl
  case round =>
    rcases hrel with rfl | rfl | rfl
    · go_wp2_with (go_at_call 108; refine (Place_any A n c q 96 hm (by omega) (by decide) _).mono ?_; rw [HQ.out]; rintro e w' ⟨rfl, rfl⟩)
      go_round
      case rel => exact .inr (.inl rfl)
      case measure => simp [intOf]
    · go_wp2_with (go_at_call 108; refine (Place_any A n c r 96 hm (by omega) (by decide) _).mono ?_; rw [HR.out]; rintro e w' ⟨rfl, rfl⟩)
      go_round
      case rel => exact .inr (.inr rfl)
      case measure => simp [intOf]
    · go_wp2
      go_ret2
      exact ⟨rfl, (by repeat (first | (with_reducible exact Gx.refl _) | (with_reducible refine Gx.gx ?_) | (with_reducible refine Gx.alloc ?_) | (with_reducible refine Gx.drew ?_) | (with_reducible refine Gx.drewN ?_) | (with_reducible refine Gx.setRow ?_ (by simp)) | (with_reducible refine Gx.setCell ?_ (by simp))))⟩

theorem with_n (n k : Nat) (M L : List Int) (hn : M.length = n) (hk : L.length = k) (h0 : 0 < k) (hM : Bs M) (q : Nat) (h : q + k ≤ n) (A A' : Option Addr) (c c' : Nat) (w : World) (hH : HeldB M A n w) (hH' : HeldB L A' k w) (hm : n ≤ 140737488355328) :
    Calls Tryd.prog 112 #[.slice A n c, .int .i64 q, .slice A' k c'] w fun e w' => ∃ g C x, e = .returned (.slice (some ⟨g, 0, none⟩) n C.length) ∧
      w' = gx w x ∧ w.heap.size ≤ g ∧ At (gx w x) g (.cells (bc C) 5 (0, 0)) ∧ With M L q C := by
  subst hn
  exact with_len k M L hk h0 hM q h A A' c c' w hH hH' hm
theorem HeldB.sub {B : List Int} {A : Option Addr} {b o n : Nat} {w : World} (hA : A = some ⟨b, o, none⟩) (h : HeldB B A n w) (q k : Nat) (hk : q + k ≤ n) (h0 : 0 < k) : HeldB (cut B q k) (some ⟨b, o + q, none⟩) k w := by
  unfold HeldB at *
  intro _
  obtain ⟨b', o', e, hc⟩ := h (by omega)
  rw [hA] at e
  obtain ⟨rfl, rfl⟩ : b = b' ∧ o = o' := by simpa using Option.some.inj e
  refine ⟨b, o + q, rfl, fun j hj => ?_⟩
  rw [gw_cut _ _ _ _ hj, ← hc (q + j) (by omega), Nat.add_assoc]
theorem With.bs {M L C : List Int} {q : Nat} (h : With M L q C) (hM : Bs M) (hL : Bs L) (hq : q + L.length ≤ M.length) : Bs (C.take M.length) := fun k => by
  rcases Nat.lt_or_ge k M.length with hk | hk
  · rw [gw_take _ _ _ hk, h.at_ k hk, gw_putAt L M q k hq]
    split
    · exact hL _
    · exact hM _
  · unfold gw
    simp [List.getD, List.getElem?_eq_none (show (C.take M.length).length ≤ k by simp; omega)]
theorem cut_bs {M : List Int} (hM : Bs M) (q k : Nat) : Bs (cut M q k) := fun j => by
  unfold cut
  rcases Nat.lt_or_ge j k with hj | hj
  · rw [gw_take _ _ _ hj, gw_drop]; exact hM _
  · unfold gw
    simp [List.getD, List.getElem?_eq_none (show ((M.drop q).take k).length ≤ j by simp; omega)]
theorem putAt_cong {M C L : List Int} {q : Nat} (hl : C.length = M.length) (hq : q + L.length ≤ M.length) (h : ∀ j, j < M.length → gw C j = gw M j) (j : Nat) (hj : j < M.length) : gw (putAt C q L) j = gw (putAt M q L) j := by
  rw [gw_putAt L C q j (by omega), gw_putAt L M q j hq, h j hj]
/-- What the reference's SwapFrames gives. -/
structure Swapped (M : List Int) (q r : Nat) (C : List Int) : Prop where
  len : M.length ≤ C.length
  at_ : ∀ j, j < M.length → gw C j = gw (swapC M q r) j

theorem swapped_of {M C1 C2 : List Int} {q r : Nat} (h : q + 96 ≤ M.length) (h' : r + 96 ≤ M.length) (h1 : With M (cut M r 96) q C1) (h2 : With (C1.take M.length) (cut M q 96) r C2) : Swapped M q r C2 := by
  have lt : (C1.take M.length).length = M.length := by have := h1.len; simp; omega
  have lq := cut_len M q 96 h
  have lr := cut_len M r 96 h'
  refine ⟨by have := h2.len; omega, fun j hj => ?_⟩
  rw [h2.at_ j (by omega)]
  unfold swapC
  have lp : (putAt M q (cut M r 96)).length = M.length := putAt_len _ _ _
  exact putAt_cong (M := putAt M q (cut M r 96)) (C := C1.take M.length) (by rw [lp, lt]) (by rw [lp, lq]; exact h') (fun k hk => by rw [lp] at hk; rw [gw_take _ _ _ hk, h1.at_ k hk]) j (by rw [lp]; exact hj)

set_option maxHeartbeats 2000000 in
set_option maxRecDepth 100000 in
theorem RSwap_good (M : List Int) (hM : Bs M) (A : Option Addr) (c q r : Nat) (h : q + 96 ≤ M.length) (h' : r + 96 ≤ M.length) (hn : q + 96 ≤ r ∨ r + 96 ≤ q) (w : World) (hH : HeldB M A M.length w) (hm : M.length ≤ 140737488355328) (hlc : M.length ≤ c) (hcm : c ≤ maxLen) :
    Calls Tryd.prog 67 #[.slice A M.length c, .int .i64 q, .int .i64 r] w fun e w' => ∃ g C x, e = .returned (.tuple #[.slice (some ⟨g, 0, none⟩) M.length C.length, .int .i64 0]) ∧
      w' = gx w x ∧ w.heap.size ≤ g ∧ At (gx w x) g (.cells (bc C) 5 (0, 0)) ∧ Swapped M q r C := by
  have hH0 := hH
  unfold HeldB at hH0
  obtain ⟨b, o, rfl, _⟩ := hH0 (by omega)
  have H1 := hH.sub rfl q 96 h (by decide)
  have H2 := hH.sub rfl r 96 h' (by decide)
  have hq : placeE M.length q 96 = 0 := by unfold placeE; rw [if_neg (by omega), if_neg (by omega)]
  have hr : placeE M.length r 96 = 0 := by unfold placeE; rw [if_neg (by omega), if_neg (by omega)]
  have HQ := Lib.hid hq
  have HR := Lib.hid hr
  simp only [maxLen] at hcm
  have s1 : ∀ W, (Instr.slice 61 (.slice (some ⟨b, o, none⟩) M.length c) (some (.int .i64 (r : Int))) (some (.int .i64 ((r : Int) + 96))) none).run Tryd.prog W = .ok (.slice (some ⟨b, o + r, none⟩) 96 (c - r)) W := fun W => by
    have := slice_part b o M.length c r (r + 96) (by omega) (by omega) (by omega) W
    rw [show r + 96 - r = 96 by omega] at this
    exact_mod_cast this
  have s2 : ∀ W, (Instr.slice 61 (.slice (some ⟨b, o, none⟩) M.length c) (some (.int .i64 (q : Int))) (some (.int .i64 ((q : Int) + 96))) none).run Tryd.prog W = .ok (.slice (some ⟨b, o + q, none⟩) 96 (c - q)) W := fun W => by
    have := slice_part b o M.length c q (q + 96) (by omega) (by omega) (by omega) W
    rw [show q + 96 - q = 96 by omega] at this
    exact_mod_cast this
  have g0 : gw [(q : Int), (r : Int)] 0 = q := by unfold gw; rfl
  have g1 : gw [(q : Int), (r : Int)] 1 = r := by unfold gw; rfl
  have hl : [(q : Int), (r : Int)].length = 2 := rfl
  have key : ∀ W g C, (∃ x, W = gx w x) → w.heap.size ≤ g → At W g (.cells (bc C) 5 (0, 0)) → Swapped M q r C → ∃ g' C' x, Ending.returned (.tuple #[.slice (some ⟨g, 0, none⟩) M.length C.length, .int .i64 0]) = .returned (.tuple #[.slice (some ⟨g', 0, none⟩) M.length C'.length, .int .i64 0]) ∧
      W = gx w x ∧ w.heap.size ≤ g' ∧ At (gx w x) g' (.cells (bc C') 5 (0, 0)) ∧ Swapped M q r C' := fun W g C ⟨x, h⟩ h1 hA h2 => ⟨g, C, x, rfl, h, h1, h ▸ hA, h2⟩
  have Key := Lib.hid key
  have K1 : ((q : Int) - r < 96 && (r : Int) - q < 96) = false := by
    rw [Bool.and_eq_false_iff]; simp only [decide_eq_false_iff_not]; omega
  have hh : (q : Int) - r < 96 ∨ ¬ (q : Int) - r < 96 := by omega
  clear hq hr key
  go_enter Tryd.func67, Tryd.ntmps67
  go_wp2
  go_loop [15] (fun i => i = .int .i64 0 ∨ i = .int .i64 1 ∨ i = .int .i64 2) (fun i => 2 - (intOf i).toNat)
  case atStart => exact .inl rfl
  case round =>
    rcases hrel with rfl | rfl | rfl
    · go_wp2_with (go_at_call 108; refine (Place_any _ M.length c q 96 (by omega) (by omega) (by decide) _).mono ?_; rw [HQ.out]; rintro e w' ⟨rfl, rfl⟩)
      go_round
      case rel => exact .inr (.inl rfl)
      case measure => simp [intOf]
    · go_wp2_with (go_at_call 108; refine (Place_any _ M.length c r 96 (by omega) (by omega) (by decide) _).mono ?_; rw [HR.out]; rintro e w' ⟨rfl, rfl⟩)
      go_round
      case rel => exact .inr (.inr rfl)
      case measure => simp [intOf]
    · rcases hh with hh | hh
      all_goals
        go_wp2
        have y1 : IntKind.i64.wrap ((r : Int) + 96) = (r : Int) + 96 := IntWalk.i64_in _ (by omega)
        have y2 : IntKind.i64.wrap ((q : Int) + 96) = (q : Int) + 96 := IntWalk.i64_in _ (by omega)
        go_region_with (first | (go_at_call_of 112 (Value.int .i64 (q : Int)); refine (with_n M.length 96 M (cut M r 96) rfl (cut_len _ _ _ h') (by decide) hM q h _ _ _ _ _ ?_ ?_ hm).mono ?_; (focus (repeat (first | (with_reducible assumption) | (with_reducible refine HeldB.gx ?_) | (with_reducible refine HeldB.alloc ?_) | (with_reducible refine HeldB.drew ?_)))); (focus (repeat (first | (with_reducible assumption) | (with_reducible refine HeldB.gx ?_) | (with_reducible refine HeldB.alloc ?_) | (with_reducible refine HeldB.drew ?_)))); rintro e w' ⟨g1, C1, x1, rfl, rfl, hg1, hA1, hw1⟩; (try simp only [gx_gx, gx_drew] at hA1)) | (go_at_call 112; refine (with_n M.length 96 (C1.take M.length) (cut M q 96) (by have := hw1.len; simp; omega) (cut_len _ _ _ h) (by decide) (hw1.bs hM (cut_bs hM _ _) (by rw [cut_len _ _ _ h']; exact h)) r h' _ _ _ _ _ ?_ ?_ hm).mono ?_; (focus (exact HeldB.part (C := C1) (o := 0) (by (focus (repeat (first | (with_reducible assumption) | (with_reducible exact At.new _ _) | (with_reducible refine At.row ?_) | (with_reducible refine At.app ?_) | (with_reducible refine At.tick ?_) | (with_reducible refine At.gx ?_) | ((with_reducible refine At.new' ?_); focus (simp; done)) | (with_reducible refine At.alloc ?_) | (with_reducible refine At.drew ?_) | (with_reducible exact Is.new _ _ _) | (with_reducible refine Is.row ?_) | (with_reducible refine Is.gx ?_) | ((with_reducible refine Is.new' ?_); focus (simp; done)) | (with_reducible refine Is.alloc ?_) | (with_reducible refine Is.drew ?_))))) (by have := hw1.len; omega) (fun j hj => by rw [Nat.zero_add, gw_take _ _ _ hj]))); (focus (repeat (first | (with_reducible assumption) | (with_reducible refine HeldB.gx ?_) | (with_reducible refine HeldB.alloc ?_) | (with_reducible refine HeldB.drew ?_)))); rintro e w' ⟨g2, C2, x2, rfl, rfl, hg2, hA2, hw2⟩; (try simp only [gx_gx, gx_drew] at hA2)))
        go_wp2
        go_ret2
        exact Key.out _ _ _ (by repeat (first | (with_reducible exact Gx.refl _) | (with_reducible refine Gx.gx ?_) | (with_reducible refine Gx.alloc ?_) | (with_reducible refine Gx.drew ?_) | (with_reducible refine Gx.drewN ?_) | (with_reducible refine Gx.setRow ?_ (by simp)) | (with_reducible refine Gx.setCell ?_ (by simp)))) (by simp at hg2; omega) (by (focus (repeat (first | (with_reducible assumption) | (with_reducible exact At.new _ _) | (with_reducible refine At.row ?_) | (with_reducible refine At.app ?_) | (with_reducible refine At.tick ?_) | (with_reducible refine At.gx ?_) | ((with_reducible refine At.new' ?_); focus (simp; done)) | (with_reducible refine At.alloc ?_) | (with_reducible refine At.drew ?_) | (with_reducible exact Is.new _ _ _) | (with_reducible refine Is.row ?_) | (with_reducible refine Is.gx ?_) | ((with_reducible refine Is.new' ?_); focus (simp; done)) | (with_reducible refine Is.alloc ?_) | (with_reducible refine Is.drew ?_))))) (swapped_of h h' hw1 hw2)
end Go.Proofs.YtemgjiajpgepiaaDoor
