/-
  slices.Clone of samples: the contract.
-/
import Derived.Test.YtmpokfbliacmoaaDoorSCalb2
namespace Go.Proofs.YtmpokfbliacmoaaDoor
open Go.RowKit
-- AT2
-- AT3

theorem SmAt.shows {W : World} {g : Nat → Sm} {n : Nat} {A : Option Addr} (h : SmAt W g n A) : Shows (smC g n) A W := by
  unfold Shows
  intro hl
  rw [smC_len] at hl
  unfold SmAt at h
  obtain ⟨b, o, rfl, hc⟩ := h (by omega)
  refine ⟨b, o, rfl, fun j u hu => ?_⟩
  have hj := (List.getElem?_eq_some_iff.1 hu).1
  rw [smC_len] at hj
  obtain ⟨i, r, hr, rfl⟩ : ∃ i r, r < 3 ∧ j = i * 3 + r := ⟨j / 3, j % 3, by omega, by omega⟩
  obtain ⟨e1, e2, e3⟩ := smC_at g n i (by omega)
  obtain ⟨c1, c2, c3⟩ := hc i (by omega)
  rw [← Nat.add_assoc]
  rcases (by omega : r = 0 ∨ r = 1 ∨ r = 2) with rfl | rfl | rfl
  · rw [Nat.add_zero] at hu ⊢; rw [e1] at hu; rw [c1, hu]
  · rw [e2] at hu; rw [c2, hu]
  · rw [e3] at hu; rw [c3, hu]
theorem smC_one (g : Nat → Sm) : ∀ n, ∀ u ∈ smC g n, u.oneCell' = true
  | 0, u, h => by cases h
  | n + 1, u, h => by
    rw [smC_succ, List.mem_append] at h
    rcases h with h | h
    · exact smC_one g n u h
    · simp only [List.mem_cons, List.not_mem_nil, or_false] at h
      rcases h with rfl | rfl | rfl <;> rfl
theorem Own.smz {b : Nat} {W : World} {A : Option Addr} {n c : Nat} {f : Nat → Sm} (h : Own b W 38 3 (.slice A (0 + n) c) (0 + n) ([] ++ smC f n)) : Own b W 38 3 (.slice A n c) n (smC f n) := by
  rw [Nat.zero_add, List.nil_append] at h; exact h
theorem Own.empty {b g : Nat} {W : World} (hA : At W g (.cells #[] 38 (0, 0))) (hb : b ≤ g) : Own b W 38 3 (.slice (some ⟨g, 0, none⟩) 0 0) 0 [] :=
  Own.mk' ⟨rfl, .inr ⟨g, 0, #[], rfl, hb, hA, Nat.le_refl _, by simp only [maxLen]; omega, rfl, rfl⟩⟩
set_option maxHeartbeats 1000000 in
set_option maxRecDepth 100000 in
theorem Clone_any (g : Nat → Sm) (n c : Nat) (A : Option Addr) (w : World) (hL : SmAt w g n A) (hN : A = none → n = 0 ∧ c = 0) (hn : n ≤ 20000) :
    Calls Tryd.prog 11 #[.slice A n c] w fun e w' => ∃ A' c' x, e = .returned (.slice A' n c') ∧ w' = gx w x ∧ Own w.heap.size w' 38 3 (.slice A' n c') n (smC g n) := by
  cases A with
  | none =>
    obtain ⟨rfl, rfl⟩ := hN rfl
    clear hN
    have he : ∀ w : World, (binOp .eql 22 (.slice none 0 0) (.slice none 0 0)).run Tryd.prog w = .ok (.bool true) w := fun _ => rfl
    go_enter Tryd.func11, Tryd.ntmps11
    go_wp2
    go_ret
    exact ⟨none, 0, _, rfl, (gx_none w).symm, Own.nil _ _ _ _⟩
  | some ad =>
    have he : ∀ w : World, (binOp .eql 22 (.slice (some ad) n c) (.slice none 0 0)).run Tryd.prog w = .ok (.bool false) w := fun _ => rfl
    have hsh := hL.shows
    clear hN
    go_enter Tryd.func11, Tryd.ntmps11
    go_wp2_with (at_builtin; (with_reducible apply append_all (o := ⟨some 7, _, _, _, _, _⟩) el_sample w w.heap.size (v := .slice (some ⟨w.heap.size, 0, none⟩) 0 0) (n := 0) (xs := []) (A := some ad) (m := n) (c := c) (news := smC g n)); go_loud (exact rfl; exact rfl; exact rfl; exact rfl; exact (fun h => by cases h); (focus omega); exact Own.empty (At.new w _) (Nat.le_refl _); exact (by repeat (first | (with_reducible exact Gx.refl _) | (with_reducible assumption) | (with_reducible refine Gx.gx ?_) | (with_reducible refine Gx.alloc ?_) | (with_reducible refine Gx.drew ?_) | (with_reducible refine Gx.drewN ?_) | (with_reducible refine Gx.setRow ?_ (by first | omega | (simp; done) | (simp <;> omega))) | (with_reducible refine Gx.setCell ?_ (by first | omega | (simp; done) | (simp <;> omega))))); (focus (simp <;> omega)); exact smC_len g n; exact hL.alloc.shows; exact smC_one g n; (focus (simp only [maxLen]; omega)); (focus omega); rintro v' W3 hG3 hO3 hg3; obtain ⟨A3, c3, rfl, -⟩ := hO3.is; have hO4 := hO3.smz))
    go_ret
    obtain ⟨x, hx⟩ := hG3
    exact ⟨A3, c3, x, rfl, hx, hO4⟩
end Go.Proofs.YtmpokfbliacmoaaDoor
