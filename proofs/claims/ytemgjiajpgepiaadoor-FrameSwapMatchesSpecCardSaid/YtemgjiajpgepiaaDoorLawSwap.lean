/-
  FrameSwapMatchesSpec: the walk.
-/
import Derived.Test.YtemgjiajpgepiaaDoorRSwap
namespace Go.Proofs.YtemgjiajpgepiaaDoor
open Go.RowKit
-- AT2

/-- What a function that writes in place leaves of a slice and of the bytes around it: M' in the slice's place. -/
structure Left (M' C C' : List Int) (n : Nat) : Prop where
  len : C'.length = C.length
  mid : ∀ j, j < n → gw C' (5 + j) = gw M' j
  pre : ∀ j, j < 5 → gw C' j = gw [1, 2, 3, 4, 5] j
  post : ∀ j, j < 7 → gw C' (5 + n + j) = gw [9, 8, 7, 6, 5, 4, 3] j
theorem Left.same {M C : List Int} (hr : Around M C) : Left M C C M.length := ⟨rfl, hr.mid, hr.pre, hr.post⟩
/-- The slice that came in, or one in new memory. -/
def Fresh (A A2 : Option Addr) (w : World) : Prop := A2 = A ∨ ∃ b, A2 = some ⟨b, 0, none⟩ ∧ w.heap.size ≤ b
/-- A slice whose bytes do not lie in block g. -/
def Off (A : Option Addr) (g n : Nat) : Prop := 0 < n → ∀ a, A = some a → a.block ≠ g
theorem HeldB.off {B : List Int} {A : Option Addr} {g n : Nat} {w : World} {cs : Array Value} (h : HeldB B A n w) (ho : Off A g n) : HeldB B A n (w.setRow g cs) := by
  unfold HeldB at *
  intro h0
  obtain ⟨b, o, rfl, hc⟩ := h h0
  have hne := ho h0 _ rfl
  refine ⟨b, o, rfl, fun j hj => ?_⟩
  rw [← hc j hj]
  simp only [World.cell?, setRow_other _ _ _ _ hne]
theorem off_of {B : List Int} {A : Option Addr} {g n : Nat} {w : World} (h : HeldB B A n w) (hg : w.heap.size ≤ g) : Off A g n := by
  intro h0 a ha
  unfold HeldB at h
  obtain ⟨b, o, rfl, hc⟩ := h h0
  have := World.block_lt_of_cell? w _ (hc 0 h0)
  have e := Option.some.inj ha
  subst e
  simp at this ⊢
  omega
theorem Fresh.off {A A2 : Option Addr} {g n : Nat} {w : World} (h : Fresh A A2 w) (ho : Off A g n) (hg : g < w.heap.size) : Off A2 g n := by
  intro h0 a ha
  rcases h with rfl | ⟨b, rfl, hb⟩
  · exact ho h0 a ha
  · have e := Option.some.inj ha
    subst e
    simp; omega
theorem Fresh.none {A A2 : Option Addr} {n : Nat} {w : World} (h : Fresh A A2 w) (hn : A = none → n = 0) : A2 = none → n = 0 := by
  rcases h with rfl | ⟨b, rfl, _⟩
  · exact hn
  · intro h; cases h

def swE (n : Nat) (a t : Int) : Int := if placeE n a 96 ≠ 0 then placeE n a 96 else if placeE n t 96 ≠ 0 then placeE n t 96 else if a - t < 96 ∧ t - a < 96 then 2 else 0
def swS (M : List Int) (a t : Int) : List Int := if swE M.length a t = 0 then swapC M a.toNat t.toNat else M
/-- The four ways. -/
theorem swap_ways (M : List Int) (a t : Int) : (placeE M.length a 96 ≠ 0 ∧ swE M.length a t = placeE M.length a 96 ∧ swS M a t = M) ∨
    (∃ q : Nat, a = q ∧ q + 96 ≤ M.length ∧ ((placeE M.length t 96 ≠ 0 ∧ swE M.length a t = placeE M.length t 96 ∧ swS M a t = M ∧ (a == t) = false) ∨
      ∃ r : Nat, t = r ∧ r + 96 ≤ M.length ∧ (((q < r + 96 ∧ r < q + 96) ∧ swE M.length a t = 2 ∧ swS M a t = M) ∨ ((q + 96 ≤ r ∨ r + 96 ≤ q) ∧ swE M.length a t = 0 ∧ swS M a t = swapC M q r)))) := by
  by_cases h1 : placeE M.length a 96 = 0
  · obtain ⟨q, rfl, hq⟩ := place_zero h1
    refine .inr ⟨q, rfl, by omega, ?_⟩
    by_cases h2 : placeE M.length t 96 = 0
    · obtain ⟨r, rfl, hr⟩ := place_zero h2
      refine .inr ⟨r, rfl, by omega, ?_⟩
      by_cases h3 : (q : Int) - r < 96 ∧ (r : Int) - q < 96
      · have e : swE M.length q r = 2 := by unfold swE; rw [if_neg (by simpa using h1), if_neg (by simpa using h2), if_pos h3]
        exact .inl ⟨by omega, e, by unfold swS; rw [e, if_neg (by decide)]⟩
      · have e : swE M.length q r = 0 := by unfold swE; rw [if_neg (by simpa using h1), if_neg (by simpa using h2), if_neg h3]
        exact .inr ⟨by omega, e, by unfold swS; rw [e, if_pos rfl]; rfl⟩
    · have e : swE M.length q t = placeE M.length t 96 := by unfold swE; rw [if_neg (by simpa using h1), if_pos h2]
      exact .inl ⟨h2, e, by unfold swS; rw [e, if_neg h2], by rw [beq_eq_false_iff_ne]; rintro rfl; exact h2 h1⟩
  · have e : swE M.length a t = placeE M.length a 96 := by unfold swE; rw [if_pos h1]
    exact .inl ⟨h1, e, by unfold swS; rw [e, if_neg h1]⟩

theorem RSwap_any (M : List Int) (hM : Bs M) (A : Option Addr) (c : Nat) (a t : Int) (ha : a ≤ 9223372036854775807) (ht : t ≤ 9223372036854775807) (w : World) (hH : HeldB M A M.length w) (hm : M.length ≤ 140737488355328) (hlc : M.length ≤ c) (hcm : c ≤ maxLen) :
    Calls Tryd.prog 67 #[.slice A M.length c, .int .i64 a, .int .i64 t] w fun e w' => ∃ A2 c2 x, e = .returned (.tuple #[.slice A2 M.length c2, .int .i64 (swE M.length a t)]) ∧
      w' = gx w x ∧ HeldB (swS M a t) A2 M.length (gx w x) ∧ Fresh A A2 w := by
  rcases swap_ways M a t with ⟨h1, e1, e2⟩ | ⟨q, rfl, hq, ⟨h2, e1, e2, _⟩ | ⟨r, rfl, hr, ⟨hn, e1, e2⟩ | ⟨hn, e1, e2⟩⟩⟩ <;> rw [e1, e2]
  · exact (RSwap_bad1 A M.length c a t (by omega) ha w _ rfl h1).mono fun e w' ⟨he, x, hx⟩ => ⟨A, c, x, he, hx, hH.gx, .inl rfl⟩
  · exact (RSwap_bad2 A M.length c q t (by omega) hq ht w _ rfl h2).mono fun e w' ⟨he, x, hx⟩ => ⟨A, c, x, he, hx, hH.gx, .inl rfl⟩
  · exact (RSwap_near A M.length c q r (by omega) hq hr hn w).mono fun e w' ⟨he, x, hx⟩ => ⟨A, c, x, he, hx, hH.gx, .inl rfl⟩
  · exact (RSwap_good M hM A c q r hq hr hn w hH hm hlc hcm).mono fun e w' ⟨g, C, x, he, hx, hg, hA, hs⟩ => ⟨_, _, x, he, hx, HeldB.part (C := C) (o := 0) hA (by have := hs.len; omega) (fun j hj => by rw [Nat.zero_add]; exact hs.at_ j hj), .inr ⟨g, rfl, hg⟩⟩

theorem Swap_any (M C : List Int) (hr : Around M C) (g c : Nat) (hc : c = C.length - 5) (a t : Int) (ha : a ≤ 9223372036854775807) (ht : t ≤ 9223372036854775807) (w : World) (hA : At w g (.cells (bc C) 5 (0, 0))) :
    Calls Tryd.prog 68 #[.slice (some ⟨g, 5, none⟩) M.length c, .int .i64 a, .int .i64 t] w fun e w' => ∃ C' x, e = .returned (.int .i64 (swE M.length a t)) ∧ w' = gx (w.setRow g (bc C')) x ∧ Left (swS M a t) C C' M.length := by
  have hl := hr.len
  have hx := hr.max
  simp only [maxLen] at hx
  rcases swap_ways M a t with ⟨h1, e1, e2⟩ | ⟨q, rfl, hq, ⟨h2, e1, e2, e3⟩ | ⟨r, rfl, hrr, ⟨hn, e1, e2⟩ | ⟨hn, e1, e2⟩⟩⟩ <;> rw [e1, e2]
  · exact (Swap_bad1 _ M.length c a t (by omega) ha w _ rfl h1).mono fun e w' ⟨he, x, hx⟩ => ⟨C, x, he, by rw [hA.self]; exact hx, .same hr⟩
  · exact (Swap_bad2 g 5 M.length c q t (by omega) (by omega) (by omega) hq ht w _ rfl h2 e3).mono fun e w' ⟨he, x, hx⟩ => ⟨C, x, he, by rw [hA.self]; exact hx, .same hr⟩
  · exact (Swap_near g 5 M.length c q r (by omega) (by omega) (by omega) hq hrr hn w).mono fun e w' ⟨he, x, hx⟩ => ⟨C, x, he, by rw [hA.self]; exact hx, .same hr⟩
  · refine (Swap_good C g 5 M.length c q r (by omega) (by omega) (by omega) hq hrr hn (by omega) w hA).mono fun e w' ⟨he, x, hx⟩ => ⟨_, x, he, hx, swapC_len _ _ _, fun j hj => ?_, fun j hj => ?_, fun j hj => ?_⟩
    · rw [gw_swapC C _ _ (by omega) (by omega), gw_swapC M _ _ (by omega) (by omega), hr.mid j hj]
      by_cases h1 : r ≤ j ∧ j < r + 96
      · rw [if_pos (by omega), if_pos h1, ← hr.mid _ (by omega)]; congr 1; omega
      · rw [if_neg (by omega), if_neg h1]
        by_cases h2 : q ≤ j ∧ j < q + 96
        · rw [if_pos (by omega), if_pos h2, ← hr.mid _ (by omega)]; congr 1; omega
        · rw [if_neg (by omega), if_neg h2]
    · rw [gw_swapC C _ _ (by omega) (by omega), if_neg (by omega), if_neg (by omega)]; exact hr.pre j hj
    · rw [gw_swapC C _ _ (by omega) (by omega), if_neg (by omega), if_neg (by omega)]; exact hr.post j hj

def clE (n : Nat) (a : Int) : Int := placeE n a 96
def clS (M : List Int) (a : Int) : List Int := if placeE M.length a 96 = 0 then putAt M a.toNat fillB else M
theorem clear_ways (M : List Int) (a : Int) : (placeE M.length a 96 ≠ 0 ∧ clE M.length a = placeE M.length a 96 ∧ clS M a = M) ∨ ∃ q : Nat, a = q ∧ q + 96 ≤ M.length ∧ clE M.length a = 0 ∧ clS M a = putAt M q fillB := by
  by_cases h : placeE M.length a 96 = 0
  · obtain ⟨q, rfl, hq⟩ := place_zero h
    exact .inr ⟨q, rfl, by omega, h, by unfold clS; rw [if_pos h]; rfl⟩
  · exact .inl ⟨h, rfl, by unfold clS; rw [if_neg h]⟩
theorem RClear_any (M : List Int) (hM : Bs M) (A : Option Addr) (c : Nat) (a : Int) (ha : a ≤ 9223372036854775807) (w : World) (hH : HeldB M A M.length w) (hm : M.length ≤ 140737488355328) :
    Calls Tryd.prog 69 #[.slice A M.length c, .int .i64 a] w fun e w' => ∃ A2 c2 x, e = .returned (.tuple #[.slice A2 M.length c2, .int .i64 (clE M.length a)]) ∧
      w' = gx w x ∧ HeldB (clS M a) A2 M.length (gx w x) ∧ Fresh A A2 w := by
  rcases clear_ways M a with ⟨h1, e1, e2⟩ | ⟨q, rfl, hq, e1, e2⟩ <;> rw [e1, e2]
  · exact (RClear_bad A M.length c a (by omega) ha w _ rfl h1).mono fun e w' ⟨he, x, hx⟩ => ⟨A, c, x, he, hx, hH.gx, .inl rfl⟩
  · exact (RClear_good M hM A c q hq w hH hm).mono fun e w' ⟨g, C, x, he, hx, hg, hA, hs⟩ => ⟨_, _, x, he, hx, HeldB.part (C := C) (o := 0) hA (by have := hs.len; omega) (fun j hj => by rw [Nat.zero_add]; exact hs.at_ j hj), .inr ⟨g, rfl, hg⟩⟩
theorem Clear_any (M C : List Int) (hr : Around M C) (g c : Nat) (hc : c = C.length - 5) (a : Int) (ha : a ≤ 9223372036854775807) (w : World) (hA : At w g (.cells (bc C) 5 (0, 0))) :
    Calls Tryd.prog 70 #[.slice (some ⟨g, 5, none⟩) M.length c, .int .i64 a] w fun e w' => ∃ C' x, e = .returned (.int .i64 (clE M.length a)) ∧ w' = gx (w.setRow g (bc C')) x ∧ Left (clS M a) C C' M.length := by
  have hl := hr.len
  have hx := hr.max
  simp only [maxLen] at hx
  rcases clear_ways M a with ⟨h1, e1, e2⟩ | ⟨q, rfl, hq, e1, e2⟩ <;> rw [e1, e2]
  · exact (Clear_bad _ M.length c a (by omega) ha w _ rfl h1).mono fun e w' ⟨he, x, hx⟩ => ⟨C, x, he, by rw [hA.self]; exact hx, .same hr⟩
  · have ha := clear_around hr hq
    exact (Clear_good C g 5 M.length c q (by omega) (by omega) (by omega) hq (by omega) w hA).mono fun e w' ⟨he, x, hx⟩ => ⟨_, x, he, hx, fillTo_len _ _ _, ha.1, ha.2.1, ha.2.2⟩

theorem Tab.row {w : World} {g : Nat} {cs : Array Value} (h : Tab w) (hg : 0 < g) : Tab (w.setRow g cs) := by
  refine ⟨by have := h.1; simpa using this, fun k hk => ?_⟩
  rw [← h.2 k hk]
  have hne : 0 ≠ g := by omega
  simp only [World.cell?, setRow_other _ _ _ _ hne]

set_option maxHeartbeats 2000000 in
set_option maxRecDepth 100000 in
theorem swapLaw (M : List Int) (hM : Bs M) (A : Option Addr) (c : Nat) (a t : Int) (ha : a ≤ 9223372036854775807) (ht : t ≤ 9223372036854775807) (w : World) (hT : Tab w) (hH : HeldB M A M.length w) (hN : A = none → M.length = 0) (hm : 12 + M.length ≤ 140737488355328) (hlc : M.length ≤ c) (hcm : c ≤ maxLen) :
    Calls Tryd.prog 14 #[.slice A M.length c, .int .i64 a, .int .i64 t] w fun e w' => e = .returned (.bool true) ∧ ∃ x, w' = gx w x := by
  have HN := Lib.hid hN
  have hml : M.length ≤ 140737488355328 := by omega
  clear hN
  have hp := hT.1
  go_enter Tryd.func14, Tryd.ntmps14
  go_wp2_with (first | (go_at_call 61; refine (inside_any M hM A c _ ?_ hm).mono ?_; (focus (repeat (first | (with_reducible exact hH) | (with_reducible refine HeldB.gx ?_) | (with_reducible refine HeldB.off ?_ hOA)))); rintro e w' ⟨g, C, z, rfl, rfl, hg0, hA, hr⟩; have hg : w.heap.size ≤ g := (by first | exact hg0 | (simp at hg0; omega)); have hOA := off_of hH hg; (try simp only [gx_gx] at hA)) | (go_at_call 67; refine (RSwap_any M hM A c a t ha ht _ ?_ hml hlc hcm).mono ?_; (focus (repeat (first | (with_reducible assumption) | (with_reducible refine HeldB.gx ?_) | (with_reducible refine HeldB.alloc ?_) | (with_reducible refine HeldB.drew ?_)))); rintro e w' ⟨A2, c2, z2, rfl, rfl, hH2, hf⟩; have hO := hf.off hOA hA.lt; have hAx := hA.gx (x := z2); simp only [gx_gx] at hH2 hAx) | (go_at_call 68; refine (Swap_any M C hr g _ rfl a t ha ht _ ?_).mono ?_; (focus (repeat (first | (with_reducible assumption) | (with_reducible exact At.new _ _) | (with_reducible refine At.row ?_) | (with_reducible refine At.app ?_) | (with_reducible refine At.tick ?_) | (with_reducible refine At.gx ?_) | ((with_reducible refine At.new' ?_); focus (simp; done)) | (with_reducible refine At.alloc ?_) | (with_reducible refine At.drew ?_) | (with_reducible exact Is.new _ _ _) | (with_reducible refine Is.row ?_) | (with_reducible refine Is.gx ?_) | ((with_reducible refine Is.new' ?_); focus (simp; done)) | (with_reducible refine Is.alloc ?_) | (with_reducible refine Is.drew ?_)))); rintro e w' ⟨C1, z3, rfl, rfl, hL⟩; have hA3 := (At.row (cs' := bc C1) ⟨_, hAx⟩).gx (x := z3)) | (go_at_call 69; refine (RClear_any M hM A c a ha _ ?_ hml).mono ?_; (focus (repeat (first | (with_reducible exact hH) | (with_reducible refine HeldB.gx ?_) | (with_reducible refine HeldB.off ?_ (by assumption))))); rintro e w' ⟨A2, c2, z2, rfl, rfl, hH2, hf⟩; have hO := hf.off hOA hA.lt; have hAx := hA.gx (x := z2); simp only [gx_gx] at hH2 hAx) | (go_at_call 70; refine (Clear_any M C hr g _ rfl a ha _ ?_).mono ?_; (focus (repeat (first | (with_reducible assumption) | (with_reducible exact At.new _ _) | (with_reducible refine At.row ?_) | (with_reducible refine At.app ?_) | (with_reducible refine At.tick ?_) | (with_reducible refine At.gx ?_) | ((with_reducible refine At.new' ?_); focus (simp; done)) | (with_reducible refine At.alloc ?_) | (with_reducible refine At.drew ?_) | (with_reducible exact Is.new _ _ _) | (with_reducible refine Is.row ?_) | (with_reducible refine Is.gx ?_) | ((with_reducible refine Is.new' ?_); focus (simp; done)) | (with_reducible refine Is.alloc ?_) | (with_reducible refine Is.drew ?_)))); rintro e w' ⟨C1, z3, rfl, rfl, hL⟩; have hA3 := (At.row (cs' := bc C1) ⟨_, hAx⟩).gx (x := z3)) | (go_at_call 46; refine (EqualB_same _ M.length _ _ _ _ _ (HeldB.part (C := C1) (o := 5) ?_ (by have := hr.len; rw [hL.len]; omega) hL.mid) (fun h => by cases h) (HeldB.gx (HeldB.off hH2 hO)) (hf.none HN.out)).mono ?_; (focus (repeat (first | (with_reducible assumption) | (with_reducible exact At.new _ _) | (with_reducible refine At.row ?_) | (with_reducible refine At.app ?_) | (with_reducible refine At.tick ?_) | (with_reducible refine At.gx ?_) | ((with_reducible refine At.new' ?_); focus (simp; done)) | (with_reducible refine At.alloc ?_) | (with_reducible refine At.drew ?_) | (with_reducible exact Is.new _ _ _) | (with_reducible refine Is.row ?_) | (with_reducible refine Is.gx ?_) | ((with_reducible refine Is.new' ?_); focus (simp; done)) | (with_reducible refine Is.alloc ?_) | (with_reducible refine Is.drew ?_)))); rintro e w' ⟨rfl, rfl⟩) | (go_at_call 64; refine (kept_cap M.length g C.length C1 hL.len (by rw [hL.len]; exact hr.max) (by rw [hL.len]; exact hr.len) hL.pre hL.post _ ?_).mono ?_; (focus (repeat (first | (with_reducible assumption) | (with_reducible exact At.new _ _) | (with_reducible refine At.row ?_) | (with_reducible refine At.app ?_) | (with_reducible refine At.tick ?_) | (with_reducible refine At.gx ?_) | ((with_reducible refine At.new' ?_); focus (simp; done)) | (with_reducible refine At.alloc ?_) | (with_reducible refine At.drew ?_) | (with_reducible exact Is.new _ _ _) | (with_reducible refine Is.row ?_) | (with_reducible refine Is.gx ?_) | ((with_reducible refine Is.new' ?_); focus (simp; done)) | (with_reducible refine Is.alloc ?_) | (with_reducible refine Is.drew ?_)))); rintro e w' ⟨rfl, z4, rfl⟩) | (go_at_call 22; refine (framed_any _ ?_).mono ?_; (focus (repeat (first | (with_reducible exact hT) | (with_reducible refine Tab.gx ?_ _) | (with_reducible refine Tab.alloc ?_ _) | (with_reducible refine Tab.row ?_ (by omega))))); rintro e w' ⟨rfl, z, rfl⟩))
  go_ret
  exact ⟨rfl, by repeat (first | exact Gx.refl _ | refine Gx.gx ?_ | refine Gx.setRow ?_ (by omega))⟩
end Go.Proofs.YtemgjiajpgepiaaDoor
