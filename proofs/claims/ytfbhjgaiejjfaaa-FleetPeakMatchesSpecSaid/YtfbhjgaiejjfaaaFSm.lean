/-
  Samples: what Part and Range of a series need (put together out of the series' texts).
-/
import Derived.Test.YtfbhjgaiejjfaaaSRSer
import Derived.Test.YtfbhjgaiejjfaaaSSearch
import Derived.BigRegion
import Derived.Deep.RegionLaw
import Derived.Deep.RegionHeld3
namespace Go.Proofs.Ytfbhjgaiejjfaaa
open Go.RowKit
-- AT2
-- AT3

theorem own_ne_at {b : Nat} {W : World} {e t : TypeId} {size n : Nat} {v : Value} {xs : List Value} {K : Nat} {cs : Array Value} (h : Own b W e size v n xs) (hA : At W K (.cells cs t (0, 0))) (hne : e ≠ t) : v.ownBlock ≠ some K := by
  rcases h.out.2 with ⟨rfl, _⟩ | ⟨g, cap, cur, rfl, _, hg, _⟩
  · simp [Value.ownBlock]
  · intro he
    simp only [Value.ownBlock, Option.some.injEq] at he
    subst he
    unfold At at hA
    rw [hg] at hA
    simp at hA
    exact hne hA.2
theorem grown_setc (W : World) (K o : Nat) (u : Value) : W.grownBy (W.setCell ⟨K, o, none⟩ u) (some K) :=
  ⟨rfl, rfl, rfl, by simp, fun k _ hk => by
    have hne : K ≠ k := fun e => hk (by rw [e])
    simp only [World.setCell]
    rw [Array.getElem?_modify, if_neg hne]⟩
theorem Own.setc {b : Nat} {W : World} {e : TypeId} {size n : Nat} {v u : Value} {xs : List Value} {K o : Nat} (h : Own b W e size v n xs) (hne : v.ownBlock ≠ some K) : Own b (W.setCell ⟨K, o, none⟩ u) e size v n xs :=
  h.kept (grown_setc W K o u) (.inr hne)
theorem At.frz {W : World} {K o : Nat} {cs : Array Value} {t : TypeId} (h : At W K (.cells cs t (0, 0))) : W.frozen? ⟨K, o, none⟩ = false := by
  unfold At at h
  simp [World.frozen?, h]
/-- What Calibrate returns: a series, and an error. -/
def SerPost (w : World) (den : Int) (g : Nat → Sm) (n : Nat) (er : Int) (e : Ending) (w' : World) : Prop := ∃ A c x, e = .returned (.tuple #[serV den A n c, .int .i64 er]) ∧ w' = gx w x ∧ SmAt w' g n A
theorem SerPost.mk {w w' : World} {den er : Int} {g : Nat → Sm} {n c : Nat} {A : Option Addr} (hw : ∃ x, w' = gx w x) (h : SmAt w' g n A) : SerPost w den g n er (.returned (.tuple #[serV den A n c, .int .i64 er])) w' := by
  obtain ⟨x, rfl⟩ := hw
  exact ⟨A, c, x, rfl, rfl, h⟩
theorem SmAt.none (w : World) (g : Nat → Sm) (A : Option Addr) : SmAt w g 0 A := SmAt.mk fun h => by omega
/-- The cells of the first k samples. -/
def smC (f : Nat → Sm) : Nat → List Value
  | 0 => []
  | k + 1 => smC f k ++ [.int .i64 (f k).t, .int .i64 (f k).n, .int .i64 (f k).m]
theorem smC_len (f : Nat → Sm) : ∀ k, (smC f k).length = k * 3
  | 0 => rfl
  | k + 1 => by show (smC f k ++ _).length = _; rw [List.length_append, smC_len f k]; simp; omega
theorem smC_at (f : Nat → Sm) : ∀ k i, i < k → (smC f k)[i * 3]? = some (.int .i64 (f i).t) ∧ (smC f k)[i * 3 + 1]? = some (.int .i64 (f i).n) ∧ (smC f k)[i * 3 + 2]? = some (.int .i64 (f i).m)
  | 0, i, h => by omega
  | k + 1, i, h => by
    show (smC f k ++ [.int .i64 (f k).t, .int .i64 (f k).n, .int .i64 (f k).m])[i * 3]? = _ ∧ (smC f k ++ [.int .i64 (f k).t, .int .i64 (f k).n, .int .i64 (f k).m])[i * 3 + 1]? = _ ∧ (smC f k ++ [.int .i64 (f k).t, .int .i64 (f k).n, .int .i64 (f k).m])[i * 3 + 2]? = _
    have hl := smC_len f k
    rcases Nat.lt_or_ge i k with h1 | h1
    · obtain ⟨e1, e2, e3⟩ := smC_at f k i h1
      rw [List.getElem?_append_left (by omega), List.getElem?_append_left (by omega), List.getElem?_append_left (by omega)]
      exact ⟨e1, e2, e3⟩
    · obtain rfl : i = k := by omega
      rw [List.getElem?_append_right (by omega), List.getElem?_append_right (by omega), List.getElem?_append_right (by omega), hl]
      rw [show i * 3 - i * 3 = 0 by omega, show i * 3 + 1 - i * 3 = 1 by omega, show i * 3 + 2 - i * 3 = 2 by omega]
      exact ⟨rfl, rfl, rfl⟩
theorem smC_succ (f : Nat → Sm) (k : Nat) : smC f (k + 1) = smC f k ++ [.int .i64 (f k).t, .int .i64 (f k).n, .int .i64 (f k).m] := rfl
theorem Own.sm {b : Nat} {W : World} {A : Option Addr} {k c : Nat} {f : Nat → Sm} (h : Own b W 69 3 (.slice A k c) k (smC f k)) : SmAt W f k A := by
  refine SmAt.mk fun h0 => ?_
  obtain ⟨A', c', e, _, _, _, hsh⟩ := h.is
  injection e with e1 e2 e3
  subst e1
  unfold Shows at hsh
  obtain ⟨g, o, rfl, hc⟩ := hsh (by rw [smC_len]; omega)
  refine ⟨g, o, rfl, fun i hi => ?_⟩
  obtain ⟨e1, e2, e3⟩ := smC_at f k i hi
  have h1 := hc _ _ e1
  have h2 := hc _ _ e2
  have h3 := hc _ _ e3
  rw [← Nat.add_assoc] at h2 h3
  exact ⟨h1, h2, h3⟩
theorem el_sample : Elem 58 69 3 24 := elem_of Try.underlying58 (by decide) (z := .agg #[.int .i64 0, .int .i64 0, .int .i64 0]) (by kernel_rfl) rfl
theorem SerPost.zero {w w' : World} {er : Int} {g : Nat → Sm} (hw : ∃ x, w' = gx w x) : SerPost w 0 g 0 er (.returned (.tuple #[serV 0 none 0 0, .int .i64 er])) w' := SerPost.mk hw (SmAt.none _ _ _)
theorem cell_swap (W : World) (o o' : Obj) (x : Ext) (p : Addr) (h : p.block ≠ W.heap.size) : (gx (W.alloc o') x).cell? p = (gx (W.alloc o) x).cell? p := by
  have e : (gx (W.alloc o') x).heap[p.block]? = (gx (W.alloc o) x).heap[p.block]? := by
    show ((W.alloc o').heap ++ x.blocks)[p.block]? = ((W.alloc o).heap ++ x.blocks)[p.block]?
    rcases Nat.lt_or_ge p.block (W.heap.size + 1) with h1 | h1
    · rw [Array.getElem?_append_left (by simp; omega), Array.getElem?_append_left (by simp; omega)]
      simp only [World.alloc, Array.getElem?_push, if_neg h]
    · rw [Array.getElem?_append_right (by simp; omega), Array.getElem?_append_right (by simp; omega)]
      simp
  unfold World.cell?
  rw [e]
theorem smAt_swap {W : World} {d d' : Int} {A : Option Addr} {n : Nat} {t : TypeId} {x : Ext} {f : Nat → Sm} {S : Value} (h : SmAt (gx (W.alloc (.cells #[.int .i64 d, .slice none 0 0] t)) x) f n A) : SmAt (gx (W.alloc (.cells #[.int .i64 d', S] t)) x) f n A := by
  refine SmAt.mk fun h0 => ?_
  unfold SmAt at h
  obtain ⟨b, o, e, hc⟩ := h h0
  have hA : At (gx (W.alloc (.cells #[.int .i64 d, .slice none 0 0] t)) x) W.heap.size (.cells #[.int .i64 d, .slice none 0 0] t (0, 0)) := (At.new W _).gx
  have hb : b ≠ W.heap.size := by
    intro eb
    subst eb
    obtain ⟨c1, c2, _⟩ := hc 0 h0
    rw [cell_of_row _ _ _ _ _ _ hA] at c1 c2
    rcases (by omega : o = 0 ∨ o = 1 ∨ 2 ≤ o) with rfl | rfl | h2
    · simp at c2
    · simp at c1
    · rw [Array.getElem?_eq_none (by simp; omega)] at c1; cases c1
  refine ⟨b, o, e, fun k hk => ?_⟩
  obtain ⟨c1, c2, c3⟩ := hc k hk
  exact ⟨(cell_swap W _ _ x _ hb).trans c1, (cell_swap W _ _ x _ hb).trans c2, (cell_swap W _ _ x _ hb).trans c3⟩
theorem setc_other {W : World} {p q : Addr} {u v : Value} (h : W.cell? q = some v) (hne : p ≠ q) : (W.setCell p u).cell? q = some v := (World.cell?_setCell_other _ _ _ _ hne).trans h
theorem At.setc_other {W : World} {g K o : Nat} {u : Value} {ob : Obj} (h : At W g ob) (hne : K ≠ g) : At (W.setCell ⟨K, o, none⟩ u) g ob := by
  unfold At at *
  simp only [World.setCell]
  rw [Array.getElem?_modify, if_neg hne]
  exact h
theorem Is.setc {W : World} {g K o : Nat} {u : Value} {t : TypeId} (h : Is W g t) : Is (W.setCell ⟨K, o, none⟩ u) g t := by
  obtain ⟨cs, h⟩ := h
  by_cases e : K = g
  · subst e
    unfold At at h
    refine ⟨cs.setIfInBounds o u, ?_⟩
    unfold At
    simp [World.setCell, Array.getElem?_modify, h]
  · exact ⟨cs, At.setc_other h e⟩

theorem SmAt.shows {W : World} {g : Nat → Sm} {n : Nat} {A : Option Addr} (h : SmAt W g n A) : Shows (smC g n) A W := by
  unfold Shows
  intro hl
  rw [smC_len] at hl
  unfold SmAt at h
  obtain ⟨b, o, rfl, hc⟩ := h (by omega)
  refine ⟨b, o, rfl, fun j u hu => ?_⟩
  have hj := (List.getElem?_eq_some_iff.1 hu).1
  rw [smC_len] at hj
  obtain ⟨i, r, hr, rfl⟩ : ∃ i r, r < 3 ∧ j = i * 3 + r := ⟨j / 3, j % 3, by omega, by omega⟩
  obtain ⟨e1, e2, e3⟩ := smC_at g n i (by omega)
  obtain ⟨c1, c2, c3⟩ := hc i (by omega)
  rw [← Nat.add_assoc]
  rcases (by omega : r = 0 ∨ r = 1 ∨ r = 2) with rfl | rfl | rfl
  · rw [Nat.add_zero] at hu ⊢; rw [e1] at hu; rw [c1, hu]
  · rw [e2] at hu; rw [c2, hu]
  · rw [e3] at hu; rw [c3, hu]
theorem smC_one (g : Nat → Sm) : ∀ n, ∀ u ∈ smC g n, u.oneCell' = true
  | 0, u, h => by cases h
  | n + 1, u, h => by
    rw [smC_succ, List.mem_append] at h
    rcases h with h | h
    · exact smC_one g n u h
    · simp only [List.mem_cons, List.not_mem_nil, or_false] at h
      rcases h with rfl | rfl | rfl <;> rfl
theorem Own.smz {b : Nat} {W : World} {A : Option Addr} {n c : Nat} {f : Nat → Sm} (h : Own b W 69 3 (.slice A (0 + n) c) (0 + n) ([] ++ smC f n)) : Own b W 69 3 (.slice A n c) n (smC f n) := by
  rw [Nat.zero_add, List.nil_append] at h; exact h
theorem Own.empty {b g : Nat} {W : World} (hA : At W g (.cells #[] 69 (0, 0))) (hb : b ≤ g) : Own b W 69 3 (.slice (some ⟨g, 0, none⟩) 0 0) 0 [] :=
  Own.mk' ⟨rfl, .inr ⟨g, 0, #[], rfl, hb, hA, Nat.le_refl _, by simp only [maxLen]; omega, rfl, rfl⟩⟩
set_option maxHeartbeats 1000000 in
set_option maxRecDepth 100000 in
theorem Clone_any (g : Nat → Sm) (n c : Nat) (A : Option Addr) (w : World) (hL : SmAt w g n A) (hN : A = none → n = 0 ∧ c = 0) (hn : n ≤ 20000) :
    Calls Try.prog 40 #[.slice A n c] w fun e w' => ∃ A' c' x, e = .returned (.slice A' n c') ∧ w' = gx w x ∧ Own w.heap.size w' 69 3 (.slice A' n c') n (smC g n) := by
  cases A with
  | none =>
    obtain ⟨rfl, rfl⟩ := hN rfl
    clear hN
    have he : ∀ w : World, (binOp .eql 58 (.slice none 0 0) (.slice none 0 0)).run Try.prog w = .ok (.bool true) w := fun _ => rfl
    go_enter Try.func40, Try.ntmps40
    go_wp2
    go_ret
    exact ⟨none, 0, _, rfl, (gx_none w).symm, Own.nil _ _ _ _⟩
  | some ad =>
    have he : ∀ w : World, (binOp .eql 58 (.slice (some ad) n c) (.slice none 0 0)).run Try.prog w = .ok (.bool false) w := fun _ => rfl
    have hsh := hL.shows
    clear hN
    go_enter Try.func40, Try.ntmps40
    go_wp2_with (at_builtin; (with_reducible apply append_all (o := ⟨some 7, _, _, _, _, _⟩) el_sample w w.heap.size (v := .slice (some ⟨w.heap.size, 0, none⟩) 0 0) (n := 0) (xs := []) (A := some ad) (m := n) (c := c) (news := smC g n)); go_loud (exact rfl; exact rfl; exact rfl; exact rfl; exact (fun h => by cases h); (focus omega); exact Own.empty (At.new w _) (Nat.le_refl _); exact (by repeat (first | (with_reducible exact Gx.refl _) | (with_reducible assumption) | (with_reducible refine Gx.gx ?_) | (with_reducible refine Gx.alloc ?_) | (with_reducible refine Gx.drew ?_) | (with_reducible refine Gx.drewN ?_) | (with_reducible refine Gx.setRow ?_ (by first | omega | (simp; done) | (simp <;> omega))) | (with_reducible refine Gx.setCell ?_ (by first | omega | (simp; done) | (simp <;> omega))))); (focus (simp <;> omega)); exact smC_len g n; exact hL.alloc.shows; exact smC_one g n; (focus (simp only [maxLen]; omega)); (focus omega); rintro v' W3 hG3 hO3 hg3; obtain ⟨A3, c3, rfl, -⟩ := hO3.is; have hO4 := hO3.smz))
    go_ret
    obtain ⟨x, hx⟩ := hG3
    exact ⟨A3, c3, x, rfl, hx, hO4⟩
/-- The closure of ahead. -/
theorem ahead1_any (b o n c ba bx : Nat) (y t : Int) (i : Nat) (W : World) (hi : i < n)
    (ha : W.cell? ⟨ba, 0, none⟩ = some (.slice (some ⟨b, o, none⟩) n c)) (hx : W.cell? ⟨bx, 0, none⟩ = some (.int .i64 t)) (hc : W.cell? ⟨b, o + i * 3, none⟩ = some (.int .i64 y)) :
    Calls Try.prog 51 (#[.int .i64 i] ++ #[.pointer (some ⟨ba, 0, none⟩), .pointer (some ⟨bx, 0, none⟩)]) W fun e w' => e = .returned (.bool (decide (t ≤ y))) ∧ ∃ q os, w' = Go.Sort.grow (W.drewN q) os := by
  have hiz : (i : Int) < (n : Int) := by omega
  go_enter Try.func51, Try.ntmps51
  go_wp2
  go_quiet (fail)
  go_wp2
  go_ret
  exact ⟨rfl, nq, #[], by rw [Go.Sort.grow_empty]⟩
set_option maxHeartbeats 1000000 in
theorem ahead_any (g : Nat → Sm) (n c : Nat) (A : Option Addr) (t : Int) (w : World) (hL : SmAt w g n A) (hn : n ≤ 20000) (hG : GoodS g n) :
    Calls Try.prog 39 #[.slice A n c, .int .i64 t] w fun e w' => e = .returned (.int .i64 (aheadN g t n)) ∧ ∃ x, w' = gx w x := by
  obtain ⟨W0, hW0⟩ : ∃ W0, W0 = (w.alloc (.cells #[.slice A n c] 58)).alloc (.cells #[.int .i64 t] 3) := ⟨_, rfl⟩
  have hsize : W0.heap.size = w.heap.size + 1 + 1 := by rw [hW0]; simp
  have eg : ∀ args w, (callFunc 51 args).run Try.prog w = .ok (.enter 51 args) w := enters_of Try.func51 (by kernel_rfl) rfl
  have h1 : W0.cell? ⟨w.heap.size, 0, none⟩ = some (.slice A n c) := by rw [hW0]; exact Go.Proofs.cell_alloc_sl _ (Go.Proofs.cell_new_sl w _ _)
  have h2 : W0.cell? ⟨w.heap.size + 1, 0, none⟩ = some (.int .i64 t) := by
    rw [hW0]; have := Go.Proofs.cell_new_sl (w.alloc (.cells #[.slice A n c] 58)) (.int .i64 t) 3; rwa [World.size_alloc] at this
  have h3 : SmAt W0 g n A := by rw [hW0]; exact hL.alloc.alloc
  have hS := Search_any 51 #[.pointer (some ⟨w.heap.size, 0, none⟩), .pointer (some ⟨w.heap.size + 1, 0, none⟩)] n (fun i => decide (t ≤ (g i).t)) W0 eg (by omega)
    (fun W hW i hi => by
      obtain ⟨x, rfl⟩ := hW
      obtain ⟨b, o, rfl, hbw, HC⟩ := h3.get (by omega)
      exact ahead1_any b o n c w.heap.size (w.heap.size + 1) (g i).t t i _ hi (cell_keep_gx h1) (cell_keep_gx h2) (cell_keep_gx (HC.out i hi).1))
    (fun a b hab hb h => by have := hG.le hab hb; simp only [decide_eq_true_eq] at h ⊢; omega)
  rw [aheadN_countP] at hS
  clear h1 h2 h3 eg
  generalize aheadN g t n = r at hS ⊢
  go_enter Try.func39, Try.ntmps39
  go_wp2_with (go_at_call 50; rw [← hW0]; refine hS.mono ?_; rintro e w' ⟨rfl, x, rfl⟩)
  go_ret
  exact ⟨rfl, (by repeat (first | (with_reducible exact Gx.refl _) | (with_reducible assumption) | (with_reducible refine Gx.gx ?_) | (with_reducible refine Gx.alloc ?_) | (with_reducible refine Gx.drew ?_) | (with_reducible refine Gx.drewN ?_) | (with_reducible refine Gx.setRow ?_ (by first | omega | (simp; done) | (simp <;> omega))) | (with_reducible refine Gx.setCell ?_ (by first | omega | (simp; done) | (simp <;> omega)))))⟩
theorem Check_any (den : Int) (g : Nat → Sm) (n c : Nat) (A : Option Addr) (w : World) (hL : SmAt w g n A) :
    Calls Try.prog 35 #[serV den A n c] w fun e w' => e = .returned (.int .i64 (serE den g n)) ∧ ∃ x, w' = gx w x := by
  have hlw : SmAt (w.alloc (.cells #[.int .i64 den, .slice A n c] 60)) g n A := hL.alloc
  have HC := fun W h => check_any den g n c A W h
  go_enter Try.func35, Try.ntmps35
  go_wp2_with (go_at_call 49; refine (HC _ hlw).mono ?_; rintro e w' ⟨rfl, x, rfl⟩)
  go_ret
  exact ⟨rfl, (by repeat (first | (with_reducible exact Gx.refl _) | (with_reducible assumption) | (with_reducible refine Gx.gx ?_) | (with_reducible refine Gx.alloc ?_) | (with_reducible refine Gx.drew ?_) | (with_reducible refine Gx.drewN ?_) | (with_reducible refine Gx.setRow ?_ (by first | omega | (simp; done) | (simp <;> omega))) | (with_reducible refine Gx.setCell ?_ (by first | omega | (simp; done) | (simp <;> omega)))))⟩

/-- What is wrong with a series and a part of it. -/
def ptE (den : Int) (g : Nat → Sm) (n : Nat) (fr to : Int) : Int := if serE den g n ≠ 0 then serE den g n else if 0 ≤ fr ∧ fr ≤ to ∧ to ≤ 1099511627777 then 0 else 9
theorem ptE_1 {den : Int} {g : Nat → Sm} {n : Nat} {fr to : Int} (h : serE den g n ≠ 0) : ptE den g n fr to = serE den g n := by unfold ptE; rw [if_pos h]
theorem ptE_2 {den : Int} {g : Nat → Sm} {n : Nat} {fr to : Int} (h : serE den g n = 0) (h2 : ¬ (0 ≤ fr ∧ fr ≤ to ∧ to ≤ 1099511627777)) : ptE den g n fr to = 9 := by unfold ptE; rw [if_neg (fun k => k h), if_neg h2]
theorem ptE_3 {den : Int} {g : Nat → Sm} {n : Nat} {fr to : Int} (h : serE den g n = 0) (h2 : 0 ≤ fr ∧ fr ≤ to ∧ to ≤ 1099511627777) : ptE den g n fr to = 0 := by unfold ptE; rw [if_neg (fun k => k h), if_pos h2]
attribute [irreducible] ptE
theorem aheadN_mono (g : Nat → Sm) {a b : Int} (h : a ≤ b) : ∀ n, aheadN g a n ≤ aheadN g b n
  | 0 => by unfold aheadN; exact Nat.le_refl _
  | n + 1 => by
    have := aheadN_mono g h n
    unfold aheadN
    by_cases h1 : (g n).t < a
    · rw [if_pos h1, if_pos (by omega)]; omega
    · rw [if_neg h1]; split <;> omega
/-- The part of the samples from the i-th one on. -/
def ptF (g : Nat → Sm) (i : Nat) : Nat → Sm := fun k => g (i + k)
def subA (A : Option Addr) (i : Nat) : Option Addr := A.map fun a => a.add (i * 3)
theorem smAt_sub {W : World} {g : Nat → Sm} {n i j : Nat} {ad : Addr} (h : SmAt W g n (some ad)) (hj : j ≤ n) : SmAt W (ptF g i) (j - i) (some (ad.add (i * 3))) := by
  refine SmAt.mk fun h0 => ?_
  unfold SmAt at h
  obtain ⟨b, o, e, hc⟩ := h (by omega)
  obtain rfl : ad = ⟨b, o, none⟩ := by simpa using e
  refine ⟨b, o + i * 3, by rw [Addr.add_lit], fun k hk => ?_⟩
  have := hc (i + k) (by omega)
  rw [show o + (i + k) * 3 = o + i * 3 + k * 3 by omega] at this
  exact this
theorem smAt_sub' {W : World} {g : Nat → Sm} {n c i j : Nat} {ad : Addr} (h : SmAt W g n (some ad)) (hj : j ≤ n) (hc : n ≤ c) : SmAt W (ptF g i) (j - i) (if c = i then some ad else some (ad.add (i * 3))) := by
  by_cases e : c = i
  · rw [if_pos e]; exact SmAt.mk fun h => by omega
  · rw [if_neg e]; exact smAt_sub h hj
theorem smAt_of {w W : World} {g : Nat → Sm} {n : Nat} {A : Option Addr} (h : SmAt w g n A) (hW : ∃ x, W = gx w x) : SmAt W g n A := by
  obtain ⟨x, rfl⟩ := hW; exact h.gx
theorem Part_end {w : World} {o1 : Obj} {t : TypeId} {den : Int} {f : Nat → Sm} {n c2 : Nat} {A2 : Option Addr} {x : Ext} (h : SmAt (gx ((w.alloc o1).alloc (.cells #[.int .i64 0, .slice none 0 0] t)) x) f n A2) :
    SerPost w den f n 0 (.returned (.tuple #[serV den A2 n c2, .int .i64 0])) (gx ((w.alloc o1).alloc (.cells #[.int .i64 den, .slice A2 n c2] t)) x) := SerPost.mk (by repeat (first | (with_reducible exact Gx.refl _) | (with_reducible assumption) | (with_reducible refine Gx.gx ?_) | (with_reducible refine Gx.alloc ?_) | (with_reducible refine Gx.drew ?_) | (with_reducible refine Gx.drewN ?_) | (with_reducible refine Gx.setRow ?_ (by first | omega | (simp; done) | (simp <;> omega))) | (with_reducible refine Gx.setCell ?_ (by first | omega | (simp; done) | (simp <;> omega))))) (smAt_swap h)
theorem Part_fin {w W6 : World} {K b m c7 : Nat} {den : Int} {f : Nat → Sm} {A7 : Option Addr} {u v : Value} {x7 : Ext} (hG : ∃ x, W6 = gx w x) (hK : w.heap.size ≤ K) (R6 : At W6 K (.cells #[.int .i64 0, .slice none 0 0] 60 (0, 0)))
    (hO : Own b (gx W6 x7) 69 3 (.slice A7 m c7) m (smC f m)) : SerPost w den f m 0 (.returned (.tuple #[serV den A7 m c7, .int .i64 0])) (gx ((W6.setCell ⟨K, 0, none⟩ u).setCell ⟨K, 1, none⟩ v) x7) := by
  have hl := R6.lt
  have ne := own_ne_at hO R6.gx (by decide)
  have e : gx ((W6.setCell ⟨K, 0, none⟩ u).setCell ⟨K, 1, none⟩ v) x7 = ((gx W6 x7).setCell ⟨K, 0, none⟩ u).setCell ⟨K, 1, none⟩ v := by
    rw [setCell_gx _ _ _ _ _ _ hl, setCell_gx _ _ _ _ _ _ (by simpa using hl)]
  rw [e]
  exact SerPost.mk (Gx.setCell (Gx.setCell (Gx.gx hG) (by omega)) (by omega)) ((hO.setc ne).setc ne).sm
set_option maxHeartbeats 4000000 in
set_option maxRecDepth 100000 in
theorem Part_go (den : Int) (g : Nat → Sm) (n c : Nat) (A : Option Addr) (hN : A = none → n = 0 ∧ c = 0) (hnc : n ≤ c) (fr to : Int) (w : World) (hL : SmAt w g n A)
    (h0 : serE den g n = 0) (h1 : 0 ≤ fr) (h2 : fr ≤ to) (h3 : to ≤ 1099511627777) :
    Calls Try.prog 22 #[serV den A n c, .int .i64 fr, .int .i64 to] w (SerPost w den (ptF g (aheadN g fr n)) (aheadN g to n - aheadN g fr n) 0) := by
  obtain ⟨_, hn, hG⟩ := goodS_of h0
  have hLw : SmAt ((w.alloc (.cells #[.int .i64 den, .slice A n c] 60)).alloc (.cells #[.int .i64 0, .slice none 0 0] 60)) g n A := hL.alloc.alloc
  have HC := fun W h => Check_any den g n c A W h
  rw [h0] at HC
  clear h0
  have HA := Lib.hid (fun W t (h : SmAt W g n A) => ahead_any g n c A t W h hn hG)
  have m1 := aheadN_le g to n
  have m2 := aheadN_mono g h2 n
  have k1 : decide (fr < 0) = false := decide_eq_false (by omega)
  have k2 : decide (to < fr) = false := decide_eq_false (by omega)
  have k3 : decide (1099511627777 < to) = false := decide_eq_false (by omega)
  have HA1 := Lib.hid (fun W (h : SmAt W g n A) => HA.out W fr h)
  have HA2 := Lib.hid (fun W (h : SmAt W g n A) => HA.out W to h)
  clear HA
  generalize aheadN g fr n = i at *
  generalize aheadN g to n = j at *
  cases A with
  | none =>
    obtain ⟨rfl, rfl⟩ := hN rfl
    obtain ⟨rfl, rfl⟩ : i = 0 ∧ j = 0 := by omega
    go_enter Try.func22, Try.ntmps22
    go_wp2_with (go_at_call 35; refine (HC _ hLw).mono ?_; rintro e w' ⟨rfl, z1, rfl⟩)
    obtain ⟨W1, hW1⟩ : ∃ W1, W1 = gx ((w.alloc (.cells #[.int .i64 den, .slice none 0 0] 60)).alloc (.cells #[.int .i64 0, .slice none 0 0] 60)) z1 := ⟨_, rfl⟩
    rw [← hW1]
    have G1 : ∃ x, W1 = gx w x := by rw [hW1]; exact (by repeat (first | (with_reducible exact Gx.refl _) | (with_reducible assumption) | (with_reducible refine Gx.gx ?_) | (with_reducible refine Gx.alloc ?_) | (with_reducible refine Gx.drew ?_) | (with_reducible refine Gx.drewN ?_) | (with_reducible refine Gx.setRow ?_ (by first | omega | (simp; done) | (simp <;> omega))) | (with_reducible refine Gx.setCell ?_ (by first | omega | (simp; done) | (simp <;> omega)))))
    have S1 : At W1 w.heap.size (.cells #[.int .i64 den, .slice none 0 0] 60 (0, 0)) := by rw [hW1]; (focus (repeat (first | (with_reducible assumption) | (with_reducible exact At.new _ _) | (with_reducible refine At.row ?_) | ((with_reducible refine At.row_other ?_ ?_); rotate_left; (focus (simp <;> omega))) | (with_reducible refine At.app ?_) | (with_reducible refine At.tick ?_) | (with_reducible refine At.gx ?_) | ((with_reducible refine At.new' ?_); focus (simp; done)) | (with_reducible refine At.alloc ?_) | (with_reducible refine At.drew ?_) | (with_reducible exact Is.new _ _ _) | (with_reducible refine Is.row ?_) | ((with_reducible refine Is.row_other ?_ ?_); rotate_left; (focus (simp <;> omega))) | (with_reducible refine Is.gx ?_) | ((with_reducible refine Is.new' ?_); focus (simp; done)) | (with_reducible refine Is.alloc ?_) | (with_reducible refine Is.drew ?_))))
    have R1 : At W1 (w.heap.size + 1) (.cells #[.int .i64 0, .slice none 0 0] 60 (0, 0)) := by rw [hW1]; (focus (repeat (first | (with_reducible assumption) | (with_reducible exact At.new _ _) | (with_reducible refine At.row ?_) | ((with_reducible refine At.row_other ?_ ?_); rotate_left; (focus (simp <;> omega))) | (with_reducible refine At.app ?_) | (with_reducible refine At.tick ?_) | (with_reducible refine At.gx ?_) | ((with_reducible refine At.new' ?_); focus (simp; done)) | (with_reducible refine At.alloc ?_) | (with_reducible refine At.drew ?_) | (with_reducible exact Is.new _ _ _) | (with_reducible refine Is.row ?_) | ((with_reducible refine Is.row_other ?_ ?_); rotate_left; (focus (simp <;> omega))) | (with_reducible refine Is.gx ?_) | ((with_reducible refine Is.new' ?_); focus (simp; done)) | (with_reducible refine Is.alloc ?_) | (with_reducible refine Is.drew ?_))))
    clear hW1 hLw HC
    have s0 : W1.cell? ⟨w.heap.size, 0, none⟩ = some (.int .i64 den) := by rw [cell_of_row W1 _ _ _ _ _ S1]; rfl
    have s1 : W1.cell? ⟨w.heap.size, 1, none⟩ = some (.slice none 0 0) := by rw [cell_of_row W1 _ _ _ _ _ S1]; rfl
    go_region_held3 (fun W => (∃ x, W = gx w x) ∧ W.cell? ⟨w.heap.size, 1, none⟩ = some (.slice none 0 0))
      (refine ⟨(by repeat (first | (with_reducible exact Gx.refl _) | (with_reducible assumption) | (with_reducible refine Gx.gx ?_) | (with_reducible refine Gx.alloc ?_) | (with_reducible refine Gx.drew ?_) | (with_reducible refine Gx.drewN ?_) | (with_reducible refine Gx.setRow ?_ (by first | omega | (simp; done) | (simp <;> omega))) | (with_reducible refine Gx.setCell ?_ (by first | omega | (simp; done) | (simp <;> omega))))), ?_⟩ <;> first | assumption | exact cell_keep_gx ‹_› | go_keep | (simp [go_sem]; done))
      (first
      | (go_at_call 39; (with_reducible refine (HA1.out _ (smAt_of hL (by repeat (first | (with_reducible exact Gx.refl _) | (with_reducible assumption) | (with_reducible refine Gx.gx ?_) | (with_reducible refine Gx.alloc ?_) | (with_reducible refine Gx.drew ?_) | (with_reducible refine Gx.drewN ?_) | (with_reducible refine Gx.setRow ?_ (by first | omega | (simp; done) | (simp <;> omega))) | (with_reducible refine Gx.setCell ?_ (by first | omega | (simp; done) | (simp <;> omega))))))).mono ?_); rintro e W2 ⟨rfl, x1, rfl⟩)
      | (go_at_call 39; (with_reducible refine (HA2.out _ (smAt_of hL (by repeat (first | (with_reducible exact Gx.refl _) | (with_reducible assumption) | (with_reducible refine Gx.gx ?_) | (with_reducible refine Gx.alloc ?_) | (with_reducible refine Gx.drew ?_) | (with_reducible refine Gx.drewN ?_) | (with_reducible refine Gx.setRow ?_ (by first | omega | (simp; done) | (simp <;> omega))) | (with_reducible refine Gx.setCell ?_ (by first | omega | (simp; done) | (simp <;> omega))))))).mono ?_); rintro e W2 ⟨rfl, x2, rfl⟩))
    have L5 : SmAt w (ptF g 0) 0 none := SmAt.mk fun h => by omega
    go_wp2
    obtain ⟨W6, hW6⟩ : ∃ W6, W6 = gx W1 (x1.app x2) := ⟨_, rfl⟩
    rw [← hW6]
    have G6 : ∃ x, W6 = gx w x := by rw [hW6]; exact (by repeat (first | (with_reducible exact Gx.refl _) | (with_reducible assumption) | (with_reducible refine Gx.gx ?_) | (with_reducible refine Gx.alloc ?_) | (with_reducible refine Gx.drew ?_) | (with_reducible refine Gx.drewN ?_) | (with_reducible refine Gx.setRow ?_ (by first | omega | (simp; done) | (simp <;> omega))) | (with_reducible refine Gx.setCell ?_ (by first | omega | (simp; done) | (simp <;> omega)))))
    have S6 : At W6 w.heap.size (.cells #[.int .i64 den, .slice none 0 0] 60 (0, 0)) := by rw [hW6]; exact S1.gx
    have R6 : At W6 (w.heap.size + 1) (.cells #[.int .i64 0, .slice none 0 0] 60 (0, 0)) := by rw [hW6]; exact R1.gx
    have L6 : SmAt W6 (ptF g 0) 0 none := by obtain ⟨x, hx⟩ := G6; rw [hx]; exact L5.gx
    clear hW6 S1 R1 s0 s1 L5
    have s0 : W6.cell? ⟨w.heap.size, 0, none⟩ = some (.int .i64 den) := by rw [cell_of_row W6 _ _ _ _ _ S6]; rfl
    have r0 : W6.cell? ⟨w.heap.size + 1, 0, none⟩ = some (.int .i64 0) := by rw [cell_of_row W6 _ _ _ _ _ R6]; rfl
    have r1 : W6.cell? ⟨w.heap.size + 1, 1, none⟩ = some (.slice none 0 0) := by rw [cell_of_row W6 _ _ _ _ _ R6]; rfl
    have f0 : W6.frozen? ⟨w.heap.size + 1, 0, none⟩ = false := R6.frz
    have f1 : W6.frozen? ⟨w.heap.size + 1, 1, none⟩ = false := R6.frz
    have l6 : w.heap.size + 1 < W6.heap.size := R6.lt
    go_region_held3 (fun W => (∃ x, W = gx w x) ∧ W.cell? ⟨w.heap.size, 0, none⟩ = some (.int .i64 den))
      (refine ⟨(by repeat (first | (with_reducible exact Gx.refl _) | (with_reducible assumption) | (with_reducible refine Gx.gx ?_) | (with_reducible refine Gx.alloc ?_) | (with_reducible refine Gx.drew ?_) | (with_reducible refine Gx.drewN ?_) | (with_reducible refine Gx.setRow ?_ (by first | omega | (simp; done) | (simp <;> omega))) | (with_reducible refine Gx.setCell ?_ (by first | omega | (simp; done) | (simp <;> omega))))), ?_⟩ <;> first | assumption | exact cell_keep_gx (setc_other (setc_other s0 (fun e => by injection e with e1; omega)) (fun e => by injection e with e1; omega)) | exact cell_keep_gx ‹_› | exact setc_other (setc_other (by assumption) (fun e => by injection e with e1; omega)) (fun e => by injection e with e1; omega) | exact setc_other (setc_other (cell_keep_gx (by assumption)) (fun e => by injection e with e1; omega)) (fun e => by injection e with e1; omega) | go_keep | (simp [go_sem]; done))
      (first
      | (go_at_call 40; refine (Clone_any _ _ _ _ _ (smAt_of L6 (by first | exact Gx.refl _ | exact Gx.drew (Gx.refl _))) (fun _ => ⟨rfl, rfl⟩) (by omega)).mono ?_; rintro e W7 ⟨A7, c7, x7, rfl, rfl, hO⟩))
    all_goals go_wp2
    all_goals refine bodyPost_ret (v := .tuple #[serV den A7 0 c7, .int .i64 0]) (by simp [results, Try.results22, go_sem, l6, r0, r1]) rfl ?_
    all_goals exact Part_fin G6 (by omega) R6 (by simpa only [gx_drew] using hO)
  | some ad =>
    have hij : i ≤ j := m2
    have hjn : j ≤ n := m1
    have y1 : (0 : Int) ≤ (i : Int) := by omega
    have y2 : (i : Int) ≤ (j : Int) := by omega
    have y3 : (j : Int) ≤ (c : Int) := by omega
    have y4 : (0 : Int) ≤ (j : Int) := by omega
    have y5 : (i : Int) ≤ (c : Int) := by omega
    go_enter Try.func22, Try.ntmps22
    go_wp2_with (go_at_call 35; refine (HC _ hLw).mono ?_; rintro e w' ⟨rfl, z1, rfl⟩)
    obtain ⟨W1, hW1⟩ : ∃ W1, W1 = gx ((w.alloc (.cells #[.int .i64 den, .slice (some ad) n c] 60)).alloc (.cells #[.int .i64 0, .slice none 0 0] 60)) z1 := ⟨_, rfl⟩
    rw [← hW1]
    have G1 : ∃ x, W1 = gx w x := by rw [hW1]; exact (by repeat (first | (with_reducible exact Gx.refl _) | (with_reducible assumption) | (with_reducible refine Gx.gx ?_) | (with_reducible refine Gx.alloc ?_) | (with_reducible refine Gx.drew ?_) | (with_reducible refine Gx.drewN ?_) | (with_reducible refine Gx.setRow ?_ (by first | omega | (simp; done) | (simp <;> omega))) | (with_reducible refine Gx.setCell ?_ (by first | omega | (simp; done) | (simp <;> omega)))))
    have S1 : At W1 w.heap.size (.cells #[.int .i64 den, .slice (some ad) n c] 60 (0, 0)) := by rw [hW1]; (focus (repeat (first | (with_reducible assumption) | (with_reducible exact At.new _ _) | (with_reducible refine At.row ?_) | ((with_reducible refine At.row_other ?_ ?_); rotate_left; (focus (simp <;> omega))) | (with_reducible refine At.app ?_) | (with_reducible refine At.tick ?_) | (with_reducible refine At.gx ?_) | ((with_reducible refine At.new' ?_); focus (simp; done)) | (with_reducible refine At.alloc ?_) | (with_reducible refine At.drew ?_) | (with_reducible exact Is.new _ _ _) | (with_reducible refine Is.row ?_) | ((with_reducible refine Is.row_other ?_ ?_); rotate_left; (focus (simp <;> omega))) | (with_reducible refine Is.gx ?_) | ((with_reducible refine Is.new' ?_); focus (simp; done)) | (with_reducible refine Is.alloc ?_) | (with_reducible refine Is.drew ?_))))
    have R1 : At W1 (w.heap.size + 1) (.cells #[.int .i64 0, .slice none 0 0] 60 (0, 0)) := by rw [hW1]; (focus (repeat (first | (with_reducible assumption) | (with_reducible exact At.new _ _) | (with_reducible refine At.row ?_) | ((with_reducible refine At.row_other ?_ ?_); rotate_left; (focus (simp <;> omega))) | (with_reducible refine At.app ?_) | (with_reducible refine At.tick ?_) | (with_reducible refine At.gx ?_) | ((with_reducible refine At.new' ?_); focus (simp; done)) | (with_reducible refine At.alloc ?_) | (with_reducible refine At.drew ?_) | (with_reducible exact Is.new _ _ _) | (with_reducible refine Is.row ?_) | ((with_reducible refine Is.row_other ?_ ?_); rotate_left; (focus (simp <;> omega))) | (with_reducible refine Is.gx ?_) | ((with_reducible refine Is.new' ?_); focus (simp; done)) | (with_reducible refine Is.alloc ?_) | (with_reducible refine Is.drew ?_))))
    clear hW1 hLw HC
    have s0 : W1.cell? ⟨w.heap.size, 0, none⟩ = some (.int .i64 den) := by rw [cell_of_row W1 _ _ _ _ _ S1]; rfl
    have s1 : W1.cell? ⟨w.heap.size, 1, none⟩ = some (.slice (some ad) n c) := by rw [cell_of_row W1 _ _ _ _ _ S1]; rfl
    go_region_held3 (fun W => (∃ x, W = gx w x) ∧ W.cell? ⟨w.heap.size, 1, none⟩ = some (.slice (some ad) n c))
      (refine ⟨(by repeat (first | (with_reducible exact Gx.refl _) | (with_reducible assumption) | (with_reducible refine Gx.gx ?_) | (with_reducible refine Gx.alloc ?_) | (with_reducible refine Gx.drew ?_) | (with_reducible refine Gx.drewN ?_) | (with_reducible refine Gx.setRow ?_ (by first | omega | (simp; done) | (simp <;> omega))) | (with_reducible refine Gx.setCell ?_ (by first | omega | (simp; done) | (simp <;> omega))))), ?_⟩ <;> first | assumption | exact cell_keep_gx ‹_› | go_keep | (simp [go_sem]; done))
      (first
      | (go_at_call 39; (with_reducible refine (HA1.out _ (smAt_of hL (by repeat (first | (with_reducible exact Gx.refl _) | (with_reducible assumption) | (with_reducible refine Gx.gx ?_) | (with_reducible refine Gx.alloc ?_) | (with_reducible refine Gx.drew ?_) | (with_reducible refine Gx.drewN ?_) | (with_reducible refine Gx.setRow ?_ (by first | omega | (simp; done) | (simp <;> omega))) | (with_reducible refine Gx.setCell ?_ (by first | omega | (simp; done) | (simp <;> omega))))))).mono ?_); rintro e W2 ⟨rfl, x1, rfl⟩)
      | (go_at_call 39; (with_reducible refine (HA2.out _ (smAt_of hL (by repeat (first | (with_reducible exact Gx.refl _) | (with_reducible assumption) | (with_reducible refine Gx.gx ?_) | (with_reducible refine Gx.alloc ?_) | (with_reducible refine Gx.drew ?_) | (with_reducible refine Gx.drewN ?_) | (with_reducible refine Gx.setRow ?_ (by first | omega | (simp; done) | (simp <;> omega))) | (with_reducible refine Gx.setCell ?_ (by first | omega | (simp; done) | (simp <;> omega))))))).mono ?_); rintro e W2 ⟨rfl, x2, rfl⟩))
    have L5 := smAt_sub' (i := i) hL hjn hnc
    obtain ⟨A5, hA5⟩ : ∃ A5, A5 = (if c = i then some ad else some (ad.add (i * 3))) := ⟨_, rfl⟩
    rw [← hA5] at L5 ⊢
    have hN5 : Hid (A5 = none → j - i = 0 ∧ c - i = 0) := by rw [hA5]; exact Lib.hid (by split <;> (intro h; cases h))
    clear hA5
    go_wp2
    obtain ⟨W6, hW6⟩ : ∃ W6, W6 = gx W1 (x1.app x2) := ⟨_, rfl⟩
    rw [← hW6]
    have G6 : ∃ x, W6 = gx w x := by rw [hW6]; exact (by repeat (first | (with_reducible exact Gx.refl _) | (with_reducible assumption) | (with_reducible refine Gx.gx ?_) | (with_reducible refine Gx.alloc ?_) | (with_reducible refine Gx.drew ?_) | (with_reducible refine Gx.drewN ?_) | (with_reducible refine Gx.setRow ?_ (by first | omega | (simp; done) | (simp <;> omega))) | (with_reducible refine Gx.setCell ?_ (by first | omega | (simp; done) | (simp <;> omega)))))
    have S6 : At W6 w.heap.size (.cells #[.int .i64 den, .slice (some ad) n c] 60 (0, 0)) := by rw [hW6]; exact S1.gx
    have R6 : At W6 (w.heap.size + 1) (.cells #[.int .i64 0, .slice none 0 0] 60 (0, 0)) := by rw [hW6]; exact R1.gx
    have L6 : SmAt W6 (ptF g i) (j - i) A5 := by obtain ⟨x, hx⟩ := G6; rw [hx]; exact L5.gx
    clear hW6 S1 R1 s0 s1 L5
    have s0 : W6.cell? ⟨w.heap.size, 0, none⟩ = some (.int .i64 den) := by rw [cell_of_row W6 _ _ _ _ _ S6]; rfl
    have r0 : W6.cell? ⟨w.heap.size + 1, 0, none⟩ = some (.int .i64 0) := by rw [cell_of_row W6 _ _ _ _ _ R6]; rfl
    have r1 : W6.cell? ⟨w.heap.size + 1, 1, none⟩ = some (.slice none 0 0) := by rw [cell_of_row W6 _ _ _ _ _ R6]; rfl
    have f0 : W6.frozen? ⟨w.heap.size + 1, 0, none⟩ = false := R6.frz
    have f1 : W6.frozen? ⟨w.heap.size + 1, 1, none⟩ = false := R6.frz
    have l6 : w.heap.size + 1 < W6.heap.size := R6.lt
    go_region_held3 (fun W => (∃ x, W = gx w x) ∧ W.cell? ⟨w.heap.size, 0, none⟩ = some (.int .i64 den))
      (refine ⟨(by repeat (first | (with_reducible exact Gx.refl _) | (with_reducible assumption) | (with_reducible refine Gx.gx ?_) | (with_reducible refine Gx.alloc ?_) | (with_reducible refine Gx.drew ?_) | (with_reducible refine Gx.drewN ?_) | (with_reducible refine Gx.setRow ?_ (by first | omega | (simp; done) | (simp <;> omega))) | (with_reducible refine Gx.setCell ?_ (by first | omega | (simp; done) | (simp <;> omega))))), ?_⟩ <;> first | assumption | exact cell_keep_gx (setc_other (setc_other s0 (fun e => by injection e with e1; omega)) (fun e => by injection e with e1; omega)) | exact cell_keep_gx ‹_› | exact setc_other (setc_other (by assumption) (fun e => by injection e with e1; omega)) (fun e => by injection e with e1; omega) | exact setc_other (setc_other (cell_keep_gx (by assumption)) (fun e => by injection e with e1; omega)) (fun e => by injection e with e1; omega) | go_keep | (simp [go_sem]; done))
      (first
      | (go_at_call 40; refine (Clone_any _ _ _ _ _ (smAt_of L6 (by first | exact Gx.refl _ | exact Gx.drew (Gx.refl _))) hN5.out (by omega)).mono ?_; rintro e W7 ⟨A7, c7, x7, rfl, rfl, hO⟩))
    all_goals go_wp2
    all_goals refine bodyPost_ret (v := .tuple #[serV den A7 (j - i) c7, .int .i64 0]) (by simp [results, Try.results22, go_sem, l6, r0, r1]) rfl ?_
    all_goals exact Part_fin G6 (by omega) R6 (by simpa only [gx_drew] using hO)
set_option maxHeartbeats 2000000 in
set_option maxRecDepth 100000 in
theorem Part_any (den : Int) (g : Nat → Sm) (n c : Nat) (A : Option Addr) (hN : A = none → n = 0 ∧ c = 0) (hnc : n ≤ c) (fr to : Int) (w : World) (hL : SmAt w g n A) :
    Calls Try.prog 22 #[serV den A n c, .int .i64 fr, .int .i64 to] w (SerPost w (if ptE den g n fr to = 0 then den else 0) (ptF g (aheadN g fr n)) (if ptE den g n fr to = 0 then aheadN g to n - aheadN g fr n else 0) (ptE den g n fr to)) := by
  have hLw : SmAt ((w.alloc (.cells #[.int .i64 den, .slice A n c] 60)).alloc (.cells #[.int .i64 0, .slice none 0 0] 60)) g n A := hL.alloc.alloc
  have HC := fun W h => Check_any den g n c A W h
  by_cases h0 : serE den g n = 0
  · by_cases h1 : 0 ≤ fr ∧ fr ≤ to ∧ to ≤ 1099511627777
    · rw [ptE_3 h0 h1, if_pos rfl, if_pos rfl]
      exact Part_go den g n c A hN hnc fr to w hL h0 h1.1 h1.2.1 h1.2.2
    · rw [ptE_2 h0 h1, if_neg (by decide), if_neg (by decide)]
      rw [h0] at HC
      have hs : (decide (fr < 0) = true) ∨ (decide (fr < 0) = false ∧ decide (to < fr) = true) ∨ (decide (fr < 0) = false ∧ decide (to < fr) = false ∧ decide (1099511627777 < to) = true) := by
        simp only [decide_eq_true_eq, decide_eq_false_iff_not]
        omega
      clear h0 h1
      rcases hs with k1 | ⟨k1, k2⟩ | ⟨k1, k2, k3⟩
      all_goals go_enter Try.func22, Try.ntmps22
      all_goals go_wp2_with (go_at_call 35; refine (HC _ hLw).mono ?_; rintro e w' ⟨rfl, z1, rfl⟩)
      all_goals refine bodyPost_ret (v := .tuple #[serV 0 none 0 0, .int .i64 9]) (by simp [results, Try.results22, go_sem]) rfl ?_
      all_goals exact SerPost.zero (by repeat (first | (with_reducible exact Gx.refl _) | (with_reducible assumption) | (with_reducible refine Gx.gx ?_) | (with_reducible refine Gx.alloc ?_) | (with_reducible refine Gx.drew ?_) | (with_reducible refine Gx.drewN ?_) | (with_reducible refine Gx.setRow ?_ (by first | omega | (simp; done) | (simp <;> omega))) | (with_reducible refine Gx.setCell ?_ (by first | omega | (simp; done) | (simp <;> omega)))))
  · rw [ptE_1 h0, if_neg h0, if_neg h0]
    have n1 := ne0 h0
    have n2 := ne0' h0
    clear h0
    generalize serE den g n = q at *
    go_enter Try.func22, Try.ntmps22
    go_wp2_with (go_at_call 35; refine (HC _ hLw).mono ?_; rintro e w' ⟨rfl, z1, rfl⟩)
    refine bodyPost_ret (v := .tuple #[serV 0 none 0 0, .int .i64 q]) (by simp [results, Try.results22, go_sem]) rfl ?_
    exact SerPost.zero (by repeat (first | (with_reducible exact Gx.refl _) | (with_reducible assumption) | (with_reducible refine Gx.gx ?_) | (with_reducible refine Gx.alloc ?_) | (with_reducible refine Gx.drew ?_) | (with_reducible refine Gx.drewN ?_) | (with_reducible refine Gx.setRow ?_ (by first | omega | (simp; done) | (simp <;> omega))) | (with_reducible refine Gx.setCell ?_ (by first | omega | (simp; done) | (simp <;> omega)))))

/-- The numbers of the solid samples among the first k. -/
def solL (g : Nat → Sm) : Nat → List Nat
  | 0 => []
  | k + 1 => solL g k ++ if 3 ≤ (g k).m then [k] else []
theorem solL_yes {g : Nat → Sm} {k : Nat} (h : 3 ≤ (g k).m) : solL g (k + 1) = solL g k ++ [k] := by show solL g k ++ (if 3 ≤ (g k).m then [k] else []) = _; rw [if_pos h]
theorem solL_no {g : Nat → Sm} {k : Nat} (h : ¬ 3 ≤ (g k).m) : solL g (k + 1) = solL g k := by show solL g k ++ (if 3 ≤ (g k).m then [k] else []) = _; rw [if_neg h, List.append_nil]
theorem solL_len (g : Nat → Sm) : ∀ k, (solL g k).length ≤ k
  | 0 => Nat.le_refl _
  | k + 1 => by
    have := solL_len g k
    by_cases h : 3 ≤ (g k).m
    · rw [solL_yes h, List.length_append]; simp; omega
    · rw [solL_no h]; omega
theorem solL_lt (g : Nat → Sm) : ∀ k, ∀ i ∈ solL g k, i < k
  | 0, i, h => by cases h
  | k + 1, i, h => by
    by_cases h3 : 3 ≤ (g k).m
    · rw [solL_yes h3, List.mem_append] at h
      rcases h with h | h
      · have := solL_lt g k i h; omega
      · have : i = k := by simpa using h
        omega
    · rw [solL_no h3] at h; have := solL_lt g k i h; omega
/-- The cells of solid samples with their numbers. -/
def slC (g : Nat → Sm) (L : List Nat) : List Value := L.flatMap fun i => [.int .i64 (g i).t, .int .i64 (g i).n, .int .i64 (g i).m, .int .i64 (i : Int)]
theorem slC_len (g : Nat → Sm) : ∀ L : List Nat, (slC g L).length = L.length * 4
  | [] => rfl
  | i :: L => by
    have := slC_len g L
    unfold slC at *
    rw [List.flatMap_cons, List.length_append, this]
    simp; omega
theorem slC_app (g : Nat → Sm) (L : List Nat) (k : Nat) : slC g (L ++ [k]) = slC g L ++ [.int .i64 (g k).t, .int .i64 (g k).n, .int .i64 (g k).m, .int .i64 (k : Int)] := by
  unfold slC
  rw [List.flatMap_append]
  simp
theorem slC_at (g : Nat → Sm) : ∀ (L : List Nat) k, k < L.length → (slC g L)[k * 4]? = some (.int .i64 (g (L.getD k 0)).t) ∧ (slC g L)[k * 4 + 1]? = some (.int .i64 (g (L.getD k 0)).n) ∧ (slC g L)[k * 4 + 2]? = some (.int .i64 (g (L.getD k 0)).m) ∧ (slC g L)[k * 4 + 3]? = some (.int .i64 ((L.getD k 0 : Nat) : Int))
  | [], k, h => absurd h (by simp)
  | i :: L, 0, _ => ⟨rfl, rfl, rfl, rfl⟩
  | i :: L, k + 1, h => by
    obtain ⟨e1, e2, e3, e4⟩ := slC_at g L k (by simpa using h)
    have hc : slC g (i :: L) = [.int .i64 (g i).t, .int .i64 (g i).n, .int .i64 (g i).m, .int .i64 (i : Int)] ++ slC g L := rfl
    rw [hc, List.getElem?_append_right (by simp; omega), List.getElem?_append_right (by simp; omega), List.getElem?_append_right (by simp; omega), List.getElem?_append_right (by simp; omega)]
    rw [show (k + 1) * 4 - _ = k * 4 from by simp; omega, show (k + 1) * 4 + 1 - _ = k * 4 + 1 from by simp; omega, show (k + 1) * 4 + 2 - _ = k * 4 + 2 from by simp; omega, show (k + 1) * 4 + 3 - _ = k * 4 + 3 from by simp; omega]
    exact ⟨e1, e2, e3, e4⟩
theorem el_solid : Elem 83 86 4 32 := elem_of Try.underlying83 (by decide) (z := .agg #[.int .i64 0, .int .i64 0, .int .i64 0, .int .i64 0]) (by kernel_rfl) rfl
set_option maxHeartbeats 4000000 in
set_option maxRecDepth 100000 in
theorem solids_any (g : Nat → Sm) (n c : Nat) (A : Option Addr) (w : World) (hL : SmAt w g n A) (hn : n ≤ 20000) :
    Calls Try.prog 41 #[.slice A n c] w fun e w' => ∃ A' c' x, e = .returned (.slice A' (solL g n).length c') ∧ w' = gx w x ∧ Own w.heap.size w' 86 4 (.slice A' (solL g n).length c') (solL g n).length (slC g (solL g n)) := by
  go_enter Try.func41, Try.ntmps41
  go_wp2
  go_loopw [8, 3] (fun i s wr => ∃ (k : Nat) (A1 : Option Addr) (c1 : Nat), k ≤ n ∧ i = .int .i64 k ∧ s = .slice A1 (solL g k).length c1 ∧ (∃ x, wr = gx w x) ∧ Own w.heap.size wr 86 4 (.slice A1 (solL g k).length c1) (solL g k).length (slC g (solL g k))) (fun i _ _ => n - (intOf i).toNat)
  case atStart => exact ⟨0, none, 0, Nat.zero_le _, rfl, rfl, (by repeat (first | (with_reducible exact Gx.refl _) | (with_reducible assumption) | (with_reducible refine Gx.gx ?_) | (with_reducible refine Gx.alloc ?_) | (with_reducible refine Gx.drew ?_) | (with_reducible refine Gx.drewN ?_) | (with_reducible refine Gx.setRow ?_ (by first | omega | (simp; done) | (simp <;> omega))) | (with_reducible refine Gx.setCell ?_ (by first | omega | (simp; done) | (simp <;> omega))))), Own.nil _ _ _ _⟩
  case round =>
    obtain ⟨k, A1, c1, hk, rfl, rfl, hG, hO⟩ := hrel
    by_cases hlt : k < n
    · have hkz : (k : Int) < (n : Int) := by omega
      obtain ⟨b, o, rfl, hbw, HCs⟩ := hL.get (by omega)
      obtain ⟨s2, s3, s4⟩ := HCs.out k hlt
      obtain ⟨x, hx⟩ := id hG
      have d1 : wr.cell? ⟨b, o + k * 3, none⟩ = some (.int .i64 (g k).t) := by rw [hx]; exact cell_keep_gx s2
      have d2 : wr.cell? ⟨b, o + k * 3 + 1, none⟩ = some (.int .i64 (g k).n) := by rw [hx]; exact cell_keep_gx s3
      have d3 : wr.cell? ⟨b, o + k * 3 + 2, none⟩ = some (.int .i64 (g k).m) := by rw [hx]; exact cell_keep_gx s4
      have hb0 : b < wr.heap.size := World.block_lt_of_cell? wr _ d1
      have hq := solL_len g k
      have hwr : w.heap.size ≤ wr.heap.size := by rw [hx, size_gx]; omega
      have HO := Lib.hid hO
      have HG := Lib.hid hG
      clear hx s2 s3 s4 hO hG
      by_cases h3 : 3 ≤ (g k).m
      · have p3 : decide (3 ≤ (g k).m) = true := decide_eq_true h3
        have hs := Lib.hid (solL_yes h3)
        have ha := Lib.hid (slC_app g (solL g k) k)
        clear h3
        generalize solL g k = L at *
        generalize slC g L = xs at *
        generalize hgk : g k = X at *
        obtain ⟨xt, xn, xm⟩ := X
        simp only at d1 d2 d3 p3
        go_wp2_with first
          | (go_at_call 52; refine (isSolid_any _ _ _ _).mono ?_; rw [p3]; rintro e w' ⟨rfl, y, rfl⟩)
          | (at_builtin; (with_reducible apply append_new (o := ⟨some 20, _, _, _, _, _⟩) el_solid w w.heap.size (v := .slice A1 L.length c1) (n := L.length) (xs := xs) (m := 1) (news := [.int .i64 xt, .int .i64 xn, .int .i64 xm, .int .i64 (k : Int)])); go_loud (exact rfl; exact rfl; exact rfl; exact rfl; (focus omega); exact ((HO.out.alloc (o := (.cells #[.int .i64 xt, .int .i64 xn, .int .i64 xm] 69))).gx (x := y)).alloc (o := (.cells #[.int .i64 xt, .int .i64 xn, .int .i64 xm, .int .i64 (k : Int)] 86)); exact Gx.alloc (o := (.cells #[.int .i64 xt, .int .i64 xn, .int .i64 xm, .int .i64 (k : Int)] 86)) (Gx.gx (y := y) (Gx.alloc (o := (.cells #[.int .i64 xt, .int .i64 xn, .int .i64 xm] 69)) HG.out)); (focus (simp <;> omega)); exact rfl; (focus (repeat (first | (with_reducible assumption) | ((with_reducible apply Shows.whole); focus ((focus (repeat (first | (with_reducible assumption) | (with_reducible exact At.new _ _) | (with_reducible refine At.row ?_) | ((with_reducible refine At.row_other ?_ ?_); rotate_left; (focus (simp <;> omega))) | (with_reducible refine At.app ?_) | (with_reducible refine At.tick ?_) | (with_reducible refine At.gx ?_) | ((with_reducible refine At.new' ?_); focus (simp; done)) | (with_reducible refine At.alloc ?_) | (with_reducible refine At.drew ?_) | (with_reducible exact Is.new _ _ _) | (with_reducible refine Is.row ?_) | ((with_reducible refine Is.row_other ?_ ?_); rotate_left; (focus (simp <;> omega))) | (with_reducible refine Is.gx ?_) | ((with_reducible refine Is.new' ?_); focus (simp; done)) | (with_reducible refine Is.alloc ?_) | (with_reducible refine Is.drew ?_)))); done)) | (with_reducible refine Shows.app ?_) | (with_reducible refine Shows.tick ?_) | (with_reducible refine Shows.gx ?_) | (with_reducible refine Shows.alloc ?_) | (with_reducible refine Shows.drew ?_)))); (focus (simp [Value.oneCell']; done)); (focus (simp only [maxLen]; omega)); (focus omega); rintro v2 W2 hW2 hO2 hg; obtain ⟨A2, c2, rfl, -⟩ := hO2.is; have HO2 := Lib.hid hO2; clear hg hO2))
        go_roundw
        case rel => exact ⟨k + 1, A2, c2, by omega, by go_num, by rw [hs.out, List.length_append]; rfl, hW2, by rw [hs.out, ha.out, List.length_append]; exact HO2.out⟩
        case measure => simp [intOf]; omega
      · have p3 : decide (3 ≤ (g k).m) = false := decide_eq_false h3
        have hs := Lib.hid (solL_no h3)
        clear h3
        go_wp2_with (go_at_call 52; refine (isSolid_any _ _ _ _).mono ?_; rw [p3]; rintro e w' ⟨rfl, y, rfl⟩)
        go_roundw
        case rel => exact ⟨k + 1, A1, c1, by omega, by go_num, by rw [hs.out], Gx.gx (Gx.alloc HG.out), by rw [hs.out]; exact HO.out.alloc.gx⟩
        case measure => simp [intOf]; omega
    · obtain rfl : k = n := by omega
      go_wp2
      go_ret
      obtain ⟨x, hx⟩ := hG
      exact ⟨A1, c1, x, rfl, hx, hO⟩

/-- The least and the greatest number of the first k of some samples. -/
def rgLo (g : Nat → Sm) (L : List Nat) : Nat → Int
  | 0 => (g (L.getD 0 0)).n
  | k + 1 => min (rgLo g L k) (g (L.getD k 0)).n
def rgHi (g : Nat → Sm) (L : List Nat) : Nat → Int
  | 0 => (g (L.getD 0 0)).n
  | k + 1 => max (rgHi g L k) (g (L.getD k 0)).n
def rgE (den : Int) (g : Nat → Sm) (n : Nat) : Int := if serE den g n ≠ 0 then serE den g n else if (solL g n).length = 0 then 13 else 0
def rgA (den : Int) (g : Nat → Sm) (n : Nat) : Int := if rgE den g n = 0 then rgLo g (solL g n) (solL g n).length else 0
def rgB (den : Int) (g : Nat → Sm) (n : Nat) : Int := if rgE den g n = 0 then rgHi g (solL g n) (solL g n).length else 0
theorem rg_1 {den : Int} {g : Nat → Sm} {n : Nat} (h : serE den g n ≠ 0) : rgE den g n = serE den g n ∧ rgA den g n = 0 ∧ rgB den g n = 0 := by
  have : rgE den g n = serE den g n := by unfold rgE; rw [if_pos h]
  unfold rgA rgB; rw [this, if_neg h, if_neg h]; exact ⟨rfl, rfl, rfl⟩
theorem rg_2 {den : Int} {g : Nat → Sm} {n : Nat} (h : serE den g n = 0) (h2 : (solL g n).length = 0) : rgE den g n = 13 ∧ rgA den g n = 0 ∧ rgB den g n = 0 := by
  have : rgE den g n = 13 := by unfold rgE; rw [if_neg (fun k => k h), if_pos h2]
  unfold rgA rgB; rw [this, if_neg (by decide), if_neg (by decide)]; exact ⟨rfl, rfl, rfl⟩
theorem rg_3 {den : Int} {g : Nat → Sm} {n : Nat} (h : serE den g n = 0) (h2 : (solL g n).length ≠ 0) : rgE den g n = 0 ∧ rgA den g n = rgLo g (solL g n) (solL g n).length ∧ rgB den g n = rgHi g (solL g n) (solL g n).length := by
  have : rgE den g n = 0 := by unfold rgE; rw [if_neg (fun k => k h), if_neg h2]
  unfold rgA rgB; rw [this, if_pos rfl, if_pos rfl]; exact ⟨rfl, rfl, rfl⟩
attribute [irreducible] rgE rgA rgB
theorem sol_cells {b : Nat} {W : World} {g : Nat → Sm} {L : List Nat} {A : Option Addr} {c : Nat} (h : Own b W 86 4 (.slice A L.length c) L.length (slC g L)) (hl : 0 < L.length) :
    ∃ gS, A = some ⟨gS, 0, none⟩ ∧ gS < W.heap.size ∧ ∀ k, k < L.length → W.cell? ⟨gS, k * 4, none⟩ = some (.int .i64 (g (L.getD k 0)).t) ∧ W.cell? ⟨gS, k * 4 + 1, none⟩ = some (.int .i64 (g (L.getD k 0)).n) ∧ W.cell? ⟨gS, k * 4 + 2, none⟩ = some (.int .i64 (g (L.getD k 0)).m) ∧ W.cell? ⟨gS, k * 4 + 3, none⟩ = some (.int .i64 ((L.getD k 0 : Nat) : Int)) := by
  obtain ⟨A', c', e, _, _, _, hsh⟩ := h.is
  injection e with e1 e2 e3
  subst e1
  unfold Shows at hsh
  obtain ⟨gS, o, rfl, hc⟩ := hsh (by rw [slC_len]; omega)
  have ho : o = 0 := by
    rcases h.out.2 with ⟨e, h0⟩ | ⟨g', cap, cur, e, _⟩
    · omega
    · simp only [Value.slice.injEq, Option.some.injEq, Addr.mk.injEq] at e
      exact e.1.2.1
  subst ho
  have hcz : ∀ j u, (slC g L)[j]? = some u → W.cell? ⟨gS, j, none⟩ = some u := fun j u hu => by have := hc j u hu; rwa [Nat.zero_add] at this
  refine ⟨gS, rfl, World.block_lt_of_cell? W _ (hcz 0 _ (by have := (slC_at g L 0 hl).1; simpa using this)), fun k hk => ?_⟩
  obtain ⟨e1, e2, e3, e4⟩ := slC_at g L k hk
  exact ⟨hcz _ _ e1, hcz _ _ e2, hcz _ _ e3, hcz _ _ e4⟩
/-- The block gS holds solid samples. -/
def SolAt (W : World) (g : Nat → Sm) (L : List Nat) (gS : Nat) : Prop := gS < W.heap.size ∧ ∀ k, k < L.length → W.cell? ⟨gS, k * 4, none⟩ = some (.int .i64 (g (L.getD k 0)).t) ∧ W.cell? ⟨gS, k * 4 + 1, none⟩ = some (.int .i64 (g (L.getD k 0)).n) ∧ W.cell? ⟨gS, k * 4 + 2, none⟩ = some (.int .i64 (g (L.getD k 0)).m) ∧ W.cell? ⟨gS, k * 4 + 3, none⟩ = some (.int .i64 ((L.getD k 0 : Nat) : Int))
theorem SolAt.onx {W : World} {g : Nat → Sm} {L : List Nat} {gS : Nat} {x : Ext} (h : SolAt W g L gS) : SolAt (gx W x) g L gS :=
  ⟨by rw [size_gx]; have := h.1; omega, fun k hk => by obtain ⟨a, b, c, d⟩ := h.2 k hk; exact ⟨cell_keep_gx a, cell_keep_gx b, cell_keep_gx c, cell_keep_gx d⟩⟩
theorem SolAt.onalloc {W : World} {g : Nat → Sm} {L : List Nat} {gS : Nat} {o : Obj} (h : SolAt W g L gS) : SolAt (W.alloc o) g L gS := by rw [alloc_is]; exact h.onx
theorem SolAt.ondrew {W : World} {g : Nat → Sm} {L : List Nat} {gS : Nat} (h : SolAt W g L gS) : SolAt W.drew g L gS := h
theorem SolAt.ondrewN {W : World} {g : Nat → Sm} {L : List Nat} {gS k : Nat} (h : SolAt W g L gS) : SolAt (W.drewN k) g L gS := h
theorem SolAt.ontick {w : World} {x : Ext} {g : Nat → Sm} {L : List Nat} {gS k : Nat} (h : SolAt (gx w x) g L gS) : SolAt (gx w (x.tick k)) g L gS := by rw [← drewN_gx]; exact h
set_option maxHeartbeats 4000000 in
set_option maxRecDepth 100000 in
theorem Range_go (den : Int) (g : Nat → Sm) (n c : Nat) (A : Option Addr) (w : World) (hL : SmAt w g n A) (h0 : serE den g n = 0) (hl : (solL g n).length ≠ 0) :
    Calls Try.prog 23 #[serV den A n c] w fun e w' => e = .returned (.tuple #[.int .i64 (rgLo g (solL g n) (solL g n).length), .int .i64 (rgHi g (solL g n) (solL g n).length), .int .i64 0]) ∧ ∃ x, w' = gx w x := by
  obtain ⟨_, hn, hG⟩ := goodS_of h0
  have hLw : SmAt (w.alloc (.cells #[.int .i64 den, .slice A n c] 60)) g n A := hL.alloc
  have HC := fun W h => Check_any den g n c A W h
  rw [h0] at HC
  clear h0
  have HS := Lib.hid (fun W (h : SmAt W g n A) => solids_any g n c A W h hn)
  have hle := solL_len g n
  generalize solL g n = L at *
  have hl0 : 0 < L.length := by omega
  have hl1 : (0 : Int) < (L.length : Int) := by omega
  have hl2 : decide (L.length = 0) = false := decide_eq_false hl
  go_enter Try.func23, Try.ntmps23
  go_wp2_with first
    | (go_at_call 35; refine (HC _ hLw).mono ?_; rintro e w' ⟨rfl, z1, rfl⟩)
    | (go_at_call 41; refine (HS.out _ hLw.gx).mono ?_; rintro e w' ⟨A2, c2, x2, rfl, rfl, hO⟩; obtain ⟨gS, rfl, hgS, hcS⟩ := sol_cells hO hl0; rw [gx_gx] at hcS hgS; obtain ⟨e1, e2, e3, e4⟩ := hcS 0 hl0; simp only [Nat.zero_mul, Nat.zero_add] at e1 e2 e3 e4; obtain ⟨X0, hX0⟩ : ∃ X0, g (L.getD 0 0) = X0 := ⟨_, rfl⟩; rw [hX0] at e1 e2 e3; clear e4; have HX := Lib.hid hX0; clear hX0; have HCS : Hid (SolAt _ g L gS) := Lib.hid ⟨hgS, hcS⟩; clear hcS hO)
  have G8 : ∃ x, gx (w.alloc (.cells #[.int .i64 den, .slice A n c] 60)) (z1.app x2) = gx w x := (by repeat (first | (with_reducible exact Gx.refl _) | (with_reducible assumption) | (with_reducible refine Gx.gx ?_) | (with_reducible refine Gx.alloc ?_) | (with_reducible refine Gx.drew ?_) | (with_reducible refine Gx.drewN ?_) | (with_reducible refine Gx.setRow ?_ (by first | omega | (simp; done) | (simp <;> omega))) | (with_reducible refine Gx.setCell ?_ (by first | omega | (simp; done) | (simp <;> omega)))))
  generalize gx (w.alloc (.cells #[.int .i64 den, .slice A n c] 60)) (z1.app x2) = W8 at *
  go_quiet (fail)
  go_wp2
  go_loopw [32, 2, 3] (fun i lo hi wr => ∃ k : Nat, k ≤ L.length ∧ i = .int .i64 k ∧ lo = .int .i64 (rgLo g L k) ∧ hi = .int .i64 (rgHi g L k) ∧ (∃ x, wr = gx w x) ∧ SolAt wr g L gS) (fun i _ _ _ => L.length - (intOf i).toNat)
  case atStart => exact ⟨0, Nat.zero_le _, rfl, by show _ = Value.int _ (g (L.getD 0 0)).n; rw [HX.out], by show _ = Value.int _ (g (L.getD 0 0)).n; rw [HX.out], (by repeat (first | (with_reducible exact Gx.refl _) | (with_reducible assumption) | (with_reducible refine Gx.gx ?_) | (with_reducible refine Gx.alloc ?_) | (with_reducible refine Gx.drew ?_) | (with_reducible refine Gx.drewN ?_) | (with_reducible refine Gx.setRow ?_ (by first | omega | (simp; done) | (simp <;> omega))) | (with_reducible refine Gx.setCell ?_ (by first | omega | (simp; done) | (simp <;> omega))))), by first | exact HCS.out | exact HCS.out.ondrew | exact HCS.out.ontick | exact HCS.out.ondrewN⟩
  case round =>
    obtain ⟨k, hk, rfl, rfl, rfl, hG', hS⟩ := hrel
    have lS := hS.1
    by_cases hlt : k < L.length
    · have hkz : (k : Int) < (L.length : Int) := by omega
      obtain ⟨e1, e2, e3, e4⟩ := hS.2 k hlt
      have HN := Lib.hid hS
      have H1 : Hid (rgLo g L (k + 1) = min (rgLo g L k) (g (L.getD k 0)).n) := Lib.hid rfl
      have H2 : Hid (rgHi g L (k + 1) = max (rgHi g L k) (g (L.getD k 0)).n) := Lib.hid rfl
      clear hS
      generalize g (L.getD k 0) = X at *
      generalize L.getD k 0 = m at *
      generalize rgLo g L k = lo at *
      generalize rgHi g L k = hi at *
      go_wp2
      go_region
      go_wp2
      go_roundw
      case rel => exact ⟨k + 1, by omega, by go_num, by rw [H1.out], by rw [H2.out], (by repeat (first | (with_reducible exact Gx.refl _) | (with_reducible assumption) | (with_reducible refine Gx.gx ?_) | (with_reducible refine Gx.alloc ?_) | (with_reducible refine Gx.drew ?_) | (with_reducible refine Gx.drewN ?_) | (with_reducible refine Gx.setRow ?_ (by first | omega | (simp; done) | (simp <;> omega))) | (with_reducible refine Gx.setCell ?_ (by first | omega | (simp; done) | (simp <;> omega))))), by first | exact HN.out.onalloc | exact HN.out.onalloc.ondrew⟩
      case measure => simp [intOf]; omega
    · obtain rfl : k = L.length := by omega
      go_wp2
      refine bodyPost_ret (v := .tuple #[.int .i64 (rgLo g L L.length), .int .i64 (rgHi g L L.length), .int .i64 0]) (by simp [results, Try.results23, go_sem]) rfl ⟨rfl, (by repeat (first | (with_reducible exact Gx.refl _) | (with_reducible assumption) | (with_reducible refine Gx.gx ?_) | (with_reducible refine Gx.alloc ?_) | (with_reducible refine Gx.drew ?_) | (with_reducible refine Gx.drewN ?_) | (with_reducible refine Gx.setRow ?_ (by first | omega | (simp; done) | (simp <;> omega))) | (with_reducible refine Gx.setCell ?_ (by first | omega | (simp; done) | (simp <;> omega)))))⟩
set_option maxHeartbeats 4000000 in
set_option maxRecDepth 100000 in
theorem Range_any (den : Int) (g : Nat → Sm) (n c : Nat) (A : Option Addr) (w : World) (hL : SmAt w g n A) :
    Calls Try.prog 23 #[serV den A n c] w fun e w' => e = .returned (.tuple #[.int .i64 (rgA den g n), .int .i64 (rgB den g n), .int .i64 (rgE den g n)]) ∧ ∃ x, w' = gx w x := by
  have hLw : SmAt (w.alloc (.cells #[.int .i64 den, .slice A n c] 60)) g n A := hL.alloc
  have HC := fun W h => Check_any den g n c A W h
  by_cases h0 : serE den g n = 0
  · by_cases hl : (solL g n).length = 0
    · obtain ⟨E1, E2, E3⟩ := rg_2 h0 hl
      rw [E1, E2, E3]
      obtain ⟨_, hn, hG⟩ := goodS_of h0
      rw [h0] at HC
      have HS := Lib.hid (fun W (h : SmAt W g n A) => solids_any g n c A W h hn)
      rw [hl] at HS
      clear h0 E1 E2 E3 hl
      go_enter Try.func23, Try.ntmps23
      go_wp2_with first
        | (go_at_call 35; refine (HC _ hLw).mono ?_; rintro e w' ⟨rfl, z1, rfl⟩)
        | (go_at_call 41; refine (HS.out _ hLw.gx).mono ?_; rintro e w' ⟨A2, c2, x2, rfl, rfl, hO⟩; clear hO)
      exact bodyPost_ret (v := .tuple #[.int .i64 0, .int .i64 0, .int .i64 13]) (by simp [results, Try.results23, go_sem]) rfl ⟨rfl, (by repeat (first | (with_reducible exact Gx.refl _) | (with_reducible assumption) | (with_reducible refine Gx.gx ?_) | (with_reducible refine Gx.alloc ?_) | (with_reducible refine Gx.drew ?_) | (with_reducible refine Gx.drewN ?_) | (with_reducible refine Gx.setRow ?_ (by first | omega | (simp; done) | (simp <;> omega))) | (with_reducible refine Gx.setCell ?_ (by first | omega | (simp; done) | (simp <;> omega)))))⟩
    · obtain ⟨E1, E2, E3⟩ := rg_3 h0 hl
      rw [E1, E2, E3]
      exact Range_go den g n c A w hL h0 hl
  · obtain ⟨E1, E2, E3⟩ := rg_1 h0
    rw [E1, E2, E3]
    have n1 := ne0 h0
    have n2 := ne0' h0
    clear h0 E1 E2 E3
    generalize serE den g n = q at *
    go_enter Try.func23, Try.ntmps23
    go_wp2_with (go_at_call 35; refine (HC _ hLw).mono ?_; rintro e w' ⟨rfl, z1, rfl⟩)
    exact bodyPost_ret (v := .tuple #[.int .i64 0, .int .i64 0, .int .i64 q]) (by simp [results, Try.results23, go_sem]) rfl ⟨rfl, (by repeat (first | (with_reducible exact Gx.refl _) | (with_reducible assumption) | (with_reducible refine Gx.gx ?_) | (with_reducible refine Gx.alloc ?_) | (with_reducible refine Gx.drew ?_) | (with_reducible refine Gx.drewN ?_) | (with_reducible refine Gx.setRow ?_ (by first | omega | (simp; done) | (simp <;> omega))) | (with_reducible refine Gx.setCell ?_ (by first | omega | (simp; done) | (simp <;> omega)))))⟩
end Go.Proofs.Ytfbhjgaiejjfaaa
