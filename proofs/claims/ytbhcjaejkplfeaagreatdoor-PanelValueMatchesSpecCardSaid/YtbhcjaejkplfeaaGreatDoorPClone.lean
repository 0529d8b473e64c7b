/-
  slices.Clone of samples, of one track and of no zone.
-/
import Derived.Test.YtbhcjaejkplfeaaGreatDoorPGau
import Derived.BigRegion
namespace Go.Proofs.YtbhcjaejkplfeaaGreatDoor
open Go.RowKit
-- AT2
-- AT3

theorem own_ne_at {b : Nat} {W : World} {e t : TypeId} {size n : Nat} {v : Value} {xs : List Value} {K : Nat} {cs : Array Value} (h : Own b W e size v n xs) (hA : At W K (.cells cs t (0, 0))) (hne : e ≠ t) : v.ownBlock ≠ some K := by
  rcases h.out.2 with ⟨rfl, _⟩ | ⟨g, cap, cur, rfl, _, hg, _⟩
  · simp [Value.ownBlock]
  · intro he
    simp only [Value.ownBlock, Option.some.injEq] at he
    subst he
    unfold At at hA
    rw [hg] at hA
    simp at hA
    exact hne hA.2
theorem At.setc {W : World} {K : Nat} {v u : Value} {t : TypeId} (h : At W K (.cells #[v] t (0, 0))) : At (W.setCell ⟨K, 0, none⟩ u) K (.cells #[u] t (0, 0)) := by
  unfold At at *
  simp [World.setCell, Array.getElem?_modify, h]
theorem grown_setc (W : World) (K o : Nat) (u : Value) : W.grownBy (W.setCell ⟨K, o, none⟩ u) (some K) :=
  ⟨rfl, rfl, rfl, by simp, fun k _ hk => by
    have hne : K ≠ k := fun e => hk (by rw [e])
    simp only [World.setCell]
    rw [Array.getElem?_modify, if_neg hne]⟩
theorem Own.setc {b : Nat} {W : World} {e : TypeId} {size n : Nat} {v u : Value} {xs : List Value} {K o : Nat} (h : Own b W e size v n xs) (hne : v.ownBlock ≠ some K) : Own b (W.setCell ⟨K, o, none⟩ u) e size v n xs :=
  h.kept (grown_setc W K o u) (.inr hne)
theorem At.cell {W : World} {K : Nat} {v : Value} {t : TypeId} (h : At W K (.cells #[v] t (0, 0))) : W.cell? ⟨K, 0, none⟩ = some v := by
  rw [cell_of_row W K 0 _ _ _ h]; rfl
theorem At.frz {W : World} {K o : Nat} {cs : Array Value} {t : TypeId} (h : At W K (.cells cs t (0, 0))) : W.frozen? ⟨K, o, none⟩ = false := by
  unfold At at h
  simp [World.frozen?, h]
theorem setc_other {W : World} {p q : Addr} {u v : Value} (h : W.cell? q = some v) (hne : p ≠ q) : (W.setCell p u).cell? q = some v := (World.cell?_setCell_other _ _ _ _ hne).trans h
theorem At.setc_other {W : World} {g K o : Nat} {u : Value} {ob : Obj} (h : At W g ob) (hne : K ≠ g) : At (W.setCell ⟨K, o, none⟩ u) g ob := by
  unfold At at *
  simp only [World.setCell]
  rw [Array.getElem?_modify, if_neg hne]
  exact h
theorem Is.setc {W : World} {g K o : Nat} {u : Value} {t : TypeId} (h : Is W g t) : Is (W.setCell ⟨K, o, none⟩ u) g t := by
  obtain ⟨cs, h⟩ := h
  by_cases e : K = g
  · subst e
    unfold At at h
    refine ⟨cs.setIfInBounds o u, ?_⟩
    unfold At
    simp [World.setCell, Array.getElem?_modify, h]
  · exact ⟨cs, At.setc_other h e⟩
/-- The cells of the first k samples. -/
def smC (f : Nat → Sm) : Nat → List Value
  | 0 => []
  | k + 1 => smC f k ++ [.int .i64 (f k).t, .int .i64 (f k).n, .int .i64 (f k).m]
theorem smC_len (f : Nat → Sm) : ∀ k, (smC f k).length = k * 3
  | 0 => rfl
  | k + 1 => by show (smC f k ++ _).length = _; rw [List.length_append, smC_len f k]; simp; omega
theorem smC_at (f : Nat → Sm) : ∀ k i, i < k → (smC f k)[i * 3]? = some (.int .i64 (f i).t) ∧ (smC f k)[i * 3 + 1]? = some (.int .i64 (f i).n) ∧ (smC f k)[i * 3 + 2]? = some (.int .i64 (f i).m)
  | 0, i, h => by omega
  | k + 1, i, h => by
    show (smC f k ++ [.int .i64 (f k).t, .int .i64 (f k).n, .int .i64 (f k).m])[i * 3]? = _ ∧ (smC f k ++ [.int .i64 (f k).t, .int .i64 (f k).n, .int .i64 (f k).m])[i * 3 + 1]? = _ ∧ (smC f k ++ [.int .i64 (f k).t, .int .i64 (f k).n, .int .i64 (f k).m])[i * 3 + 2]? = _
    have hl := smC_len f k
    rcases Nat.lt_or_ge i k with h1 | h1
    · obtain ⟨e1, e2, e3⟩ := smC_at f k i h1
      rw [List.getElem?_append_left (by omega), List.getElem?_append_left (by omega), List.getElem?_append_left (by omega)]
      exact ⟨e1, e2, e3⟩
    · obtain rfl : i = k := by omega
      rw [List.getElem?_append_right (by omega), List.getElem?_append_right (by omega), List.getElem?_append_right (by omega), hl]
      rw [show i * 3 - i * 3 = 0 by omega, show i * 3 + 1 - i * 3 = 1 by omega, show i * 3 + 2 - i * 3 = 2 by omega]
      exact ⟨rfl, rfl, rfl⟩
theorem smC_succ (f : Nat → Sm) (k : Nat) : smC f (k + 1) = smC f k ++ [.int .i64 (f k).t, .int .i64 (f k).n, .int .i64 (f k).m] := rfl
theorem Own.sm {b : Nat} {W : World} {A : Option Addr} {k c : Nat} {f : Nat → Sm} (h : Own b W 45 3 (.slice A k c) k (smC f k)) : SmAt W f k A := by
  refine SmAt.mk fun h0 => ?_
  obtain ⟨A', c', e, _, _, _, hsh⟩ := h.is
  injection e with e1 e2 e3
  subst e1
  unfold Shows at hsh
  obtain ⟨g, o, rfl, hc⟩ := hsh (by rw [smC_len]; omega)
  refine ⟨g, o, rfl, fun i hi => ?_⟩
  obtain ⟨e1, e2, e3⟩ := smC_at f k i hi
  have h1 := hc _ _ e1
  have h2 := hc _ _ e2
  have h3 := hc _ _ e3
  rw [← Nat.add_assoc] at h2 h3
  exact ⟨h1, h2, h3⟩
theorem el_sample : Elem 39 45 3 24 := elem_of Tryz.underlying39 (by decide) (z := .agg #[.int .i64 0, .int .i64 0, .int .i64 0]) (by kernel_rfl) rfl

theorem SmAt.shows {W : World} {g : Nat → Sm} {n : Nat} {A : Option Addr} (h : SmAt W g n A) : Shows (smC g n) A W := by
  unfold Shows
  intro hl
  rw [smC_len] at hl
  unfold SmAt at h
  obtain ⟨b, o, rfl, hc⟩ := h (by omega)
  refine ⟨b, o, rfl, fun j u hu => ?_⟩
  have hj := (List.getElem?_eq_some_iff.1 hu).1
  rw [smC_len] at hj
  obtain ⟨i, r, hr, rfl⟩ : ∃ i r, r < 3 ∧ j = i * 3 + r := ⟨j / 3, j % 3, by omega, by omega⟩
  obtain ⟨e1, e2, e3⟩ := smC_at g n i (by omega)
  obtain ⟨c1, c2, c3⟩ := hc i (by omega)
  rw [← Nat.add_assoc]
  rcases (by omega : r = 0 ∨ r = 1 ∨ r = 2) with rfl | rfl | rfl
  · rw [Nat.add_zero] at hu ⊢; rw [e1] at hu; rw [c1, hu]
  · rw [e2] at hu; rw [c2, hu]
  · rw [e3] at hu; rw [c3, hu]
theorem smC_one (g : Nat → Sm) : ∀ n, ∀ u ∈ smC g n, u.oneCell' = true
  | 0, u, h => by cases h
  | n + 1, u, h => by
    rw [smC_succ, List.mem_append] at h
    rcases h with h | h
    · exact smC_one g n u h
    · simp only [List.mem_cons, List.not_mem_nil, or_false] at h
      rcases h with rfl | rfl | rfl <;> rfl
theorem Own.smz {b : Nat} {W : World} {A : Option Addr} {n c : Nat} {f : Nat → Sm} (h : Own b W 45 3 (.slice A (0 + n) c) (0 + n) ([] ++ smC f n)) : Own b W 45 3 (.slice A n c) n (smC f n) := by
  rw [Nat.zero_add, List.nil_append] at h; exact h
theorem Own.empty {b g : Nat} {W : World} (hA : At W g (.cells #[] 45 (0, 0))) (hb : b ≤ g) : Own b W 45 3 (.slice (some ⟨g, 0, none⟩) 0 0) 0 [] :=
  Own.mk' ⟨rfl, .inr ⟨g, 0, #[], rfl, hb, hA, Nat.le_refl _, by simp only [maxLen]; omega, rfl, rfl⟩⟩
set_option maxHeartbeats 1000000 in
set_option maxRecDepth 100000 in
theorem Clone_any (g : Nat → Sm) (n c : Nat) (A : Option Addr) (w : World) (hL : SmAt w g n A) (hN : A = none → n = 0 ∧ c = 0) (hn : n ≤ 20000) :
    Calls Tryz.prog 90 #[.slice A n c] w fun e w' => ∃ A' c' x, e = .returned (.slice A' n c') ∧ w' = gx w x ∧ Own w.heap.size w' 45 3 (.slice A' n c') n (smC g n) := by
  cases A with
  | none =>
    obtain ⟨rfl, rfl⟩ := hN rfl
    clear hN
    have he : ∀ w : World, (binOp .eql 39 (.slice none 0 0) (.slice none 0 0)).run Tryz.prog w = .ok (.bool true) w := fun _ => rfl
    go_enter Tryz.func90, Tryz.ntmps90
    go_wp2
    go_ret
    exact ⟨none, 0, _, rfl, (gx_none w).symm, Own.nil _ _ _ _⟩
  | some ad =>
    have he : ∀ w : World, (binOp .eql 39 (.slice (some ad) n c) (.slice none 0 0)).run Tryz.prog w = .ok (.bool false) w := fun _ => rfl
    have hsh := hL.shows
    clear hN
    go_enter Tryz.func90, Tryz.ntmps90
    go_wp2_with (at_builtin; (with_reducible apply append_all (o := ⟨some 7, _, _, _, _, _⟩) el_sample w w.heap.size (v := .slice (some ⟨w.heap.size, 0, none⟩) 0 0) (n := 0) (xs := []) (A := some ad) (m := n) (c := c) (news := smC g n)); go_loud (exact rfl; exact rfl; exact rfl; exact rfl; exact (fun h => by cases h); (focus omega); exact Own.empty (At.new w _) (Nat.le_refl _); exact (by repeat (first | (with_reducible exact Gx.refl _) | (with_reducible assumption) | (with_reducible refine Gx.gx ?_) | (with_reducible refine Gx.alloc ?_) | (with_reducible refine Gx.drew ?_) | (with_reducible refine Gx.drewN ?_) | (with_reducible refine Gx.setRow ?_ (by first | omega | (simp; done) | (simp <;> omega))) | (with_reducible refine Gx.setCell ?_ (by first | omega | (simp; done) | (simp <;> omega))))); (focus (simp <;> omega)); exact smC_len g n; exact hL.alloc.shows; exact smC_one g n; (focus (simp only [maxLen]; omega)); (focus omega); rintro v' W3 hG3 hO3 hg3; obtain ⟨A3, c3, rfl, -⟩ := hO3.is; have hO4 := hO3.smz))
    go_ret
    obtain ⟨x, hx⟩ := hG3
    exact ⟨A3, c3, x, rfl, hx, hO4⟩
theorem el_track : Elem 70 43 4 56 := elem_of Tryz.underlying70 (by decide) (z := .agg #[.string ⟨#[]⟩, .int .i64 0, .slice none 0 0, .int .i64 0]) (by kernel_rfl) rfl
/-- The cells of a track. -/
def trC (den : Int) (A : Option Addr) (n c : Nat) (lg : Int) : List Value := [.string ⟨#[116]⟩, .int .i64 den, .slice A n c, .int .i64 lg]
theorem TrAt.shows {w : World} {b : Nat} {den : Int} {A : Option Addr} {n c : Nat} {lg : Int} (h : TrAt w b 0 den A n c lg) : Shows (trC den A n c lg) (some ⟨b, 0, none⟩) w := by
  unfold Shows
  intro _
  refine ⟨b, 0, rfl, fun j u hu => ?_⟩
  unfold trC at hu
  rw [Nat.zero_add]
  have hj := (List.getElem?_eq_some_iff.1 hu).1
  simp only [List.length_cons, List.length_nil] at hj
  rcases (by omega : j = 0 ∨ j = 1 ∨ j = 2 ∨ j = 3) with rfl | rfl | rfl | rfl
  · simp at hu; subst hu; exact h.c0
  · simp at hu; subst hu; exact h.c1
  · simp at hu; subst hu; exact h.c2
  · simp at hu; subst hu; exact h.c3
theorem Own.emptyT {b g : Nat} {W : World} (hA : At W g (.cells #[] 43 (0, 0))) (hb : b ≤ g) : Own b W 43 4 (.slice (some ⟨g, 0, none⟩) 0 0) 0 [] :=
  Own.mk' ⟨rfl, .inr ⟨g, 0, #[], rfl, hb, hA, Nat.le_refl _, by simp only [maxLen]; omega, rfl, rfl⟩⟩
theorem Own.smT {b : Nat} {W : World} {A : Option Addr} {c : Nat} {xs : List Value} (h : Own b W 43 4 (.slice A (0 + 1) c) (0 + 1) ([] ++ xs)) : Own b W 43 4 (.slice A 1 c) 1 xs := by
  rw [Nat.zero_add, List.nil_append] at h; exact h
set_option maxHeartbeats 1000000 in
set_option maxRecDepth 100000 in
theorem CloneT_one (b c : Nat) (den : Int) (A : Option Addr) (n ct : Nat) (lg : Int) (w : World) (hT : TrAt w b 0 den A n ct lg) :
    Calls Tryz.prog 89 #[.slice (some ⟨b, 0, none⟩) 1 c] w fun e w' => ∃ A' c', e = .returned (.slice A' 1 c') ∧ (∃ x, w' = gx w x) ∧ Own w.heap.size w' 43 4 (.slice A' 1 c') 1 (trC den A n ct lg) := by
  have he : ∀ w : World, (binOp .eql 70 (.slice (some ⟨b, 0, none⟩) 1 c) (.slice none 0 0)).run Tryz.prog w = .ok (.bool false) w := fun _ => rfl
  have hsh := (hT.on (Gx.alloc (Gx.refl w) : ∃ x, w.alloc (.cells #[] 43) = gx w x)).shows
  go_enter Tryz.func89, Tryz.ntmps89
  go_wp2_with (at_builtin; (with_reducible apply append_all (o := ⟨some 7, _, _, _, _, _⟩) el_track w w.heap.size (v := .slice (some ⟨w.heap.size, 0, none⟩) 0 0) (n := 0) (xs := []) (A := some ⟨b, 0, none⟩) (m := 1) (c := c) (news := trC den A n ct lg)); go_loud (exact rfl; exact rfl; exact rfl; exact rfl; exact (fun h => by cases h); (focus omega); exact Own.emptyT (At.new w _) (Nat.le_refl _); exact (by repeat (first | (with_reducible exact Gx.refl _) | (with_reducible assumption) | (with_reducible refine Gx.gx ?_) | (with_reducible refine Gx.alloc ?_) | (with_reducible refine Gx.drew ?_) | (with_reducible refine Gx.drewN ?_) | (with_reducible refine Gx.setRow ?_ (by first | omega | (simp; done) | (simp <;> omega))) | (with_reducible refine Gx.setCell ?_ (by first | omega | (simp; done) | (simp <;> omega))))); (focus (simp <;> omega)); exact rfl; exact hsh; (focus (intro u hu; simp [trC] at hu; rcases hu with rfl | rfl | rfl | rfl <;> rfl)); (focus (simp only [maxLen]; omega)); (focus omega); rintro v' W3 hG3 hO3 hg3; obtain ⟨A3, c3, rfl, -⟩ := hO3.is; have hO4 := hO3.smT))
  go_ret
  exact ⟨A3, c3, rfl, hG3, hO4⟩
set_option maxRecDepth 100000 in
theorem CloneZ_none (w : World) : Calls Tryz.prog 92 #[.slice none 0 0] w fun e w' => e = .returned (.slice none 0 0) ∧ ∃ x, w' = gx w x := by
  have he : ∀ w : World, (binOp .eql 25 (.slice none 0 0) (.slice none 0 0)).run Tryz.prog w = .ok (.bool true) w := fun _ => rfl
  go_enter Tryz.func92, Tryz.ntmps92
  go_wp2
  go_ret
  exact ⟨rfl, (by repeat (first | (with_reducible exact Gx.refl _) | (with_reducible assumption) | (with_reducible refine Gx.gx ?_) | (with_reducible refine Gx.alloc ?_) | (with_reducible refine Gx.drew ?_) | (with_reducible refine Gx.drewN ?_) | (with_reducible refine Gx.setRow ?_ (by first | omega | (simp; done) | (simp <;> omega))) | (with_reducible refine Gx.setCell ?_ (by first | omega | (simp; done) | (simp <;> omega)))))⟩
end Go.Proofs.YtbhcjaejkplfeaaGreatDoor
