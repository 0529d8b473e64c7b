/-
  Ints in memory, and what a function that returns ints with an error leaves.
-/
import Derived.Test.YtjlokobgdkkppaaDoorSRPart
import Derived.Test.YtjlokobgdkkppaaDoorSRRange
namespace Go.Proofs.YtjlokobgdkkppaaDoor
open Go.RowKit
-- AT2
-- AT3

theorem Own.ofx {b : Nat} {W W' : World} {e : TypeId} {size : Nat} {v : Value} {n : Nat} {xs : List Value} (h : Own b W e size v n xs) (hW : ∃ x, W' = Go.Proofs.YtjlokobgdkkppaaDoor.gx W x) : Own b W' e size v n xs := by
  obtain ⟨x, rfl⟩ := hW; exact h.gx
/-- m ints lie at B. -/
@[irreducible] def IAt (W : World) (z : Nat → Int) (m : Nat) (B : Option Addr) : Prop := 0 < m → ∃ b o, B = some ⟨b, o, none⟩ ∧ ∀ k, k < m → W.cell? ⟨b, o + k, none⟩ = some (.int .i64 (z k))
theorem IAt.out {W : World} {z : Nat → Int} {m : Nat} {B : Option Addr} (h : IAt W z m B) : 0 < m → ∃ b o, B = some ⟨b, o, none⟩ ∧ ∀ k, k < m → W.cell? ⟨b, o + k, none⟩ = some (.int .i64 (z k)) := by unfold IAt at h; exact h
theorem IAt.mk {W : World} {z : Nat → Int} {m : Nat} {B : Option Addr} (h : 0 < m → ∃ b o, B = some ⟨b, o, none⟩ ∧ ∀ k, k < m → W.cell? ⟨b, o + k, none⟩ = some (.int .i64 (z k))) : IAt W z m B := by unfold IAt; exact h
theorem IAt.onx {W : World} {z : Nat → Int} {m : Nat} {B : Option Addr} {x : Ext} (h : IAt W z m B) : IAt (gx W x) z m B :=
  IAt.mk fun h0 => by obtain ⟨b, o, e, hc⟩ := h.out h0; exact ⟨b, o, e, fun k hk => cell_keep_gx (hc k hk)⟩
theorem iAt_of {w W : World} {z : Nat → Int} {m : Nat} {B : Option Addr} (h : IAt w z m B) (hW : ∃ x, W = gx w x) : IAt W z m B := by
  obtain ⟨x, rfl⟩ := hW; exact h.onx
def zL (L : List Nat) : List Int := L.map fun i : Nat => (i : Int)
theorem zL_len (L : List Nat) : (zL L).length = L.length := by unfold zL; simp
theorem zL_at {L : List Nat} {k : Nat} (h : k < L.length) : gw (zL L) k = ((L.getD k 0 : Nat) : Int) := by
  unfold gw zL
  simp [List.getD, h]
/-- Numbers of samples that a call has made. -/
theorem iAt_own {b : Nat} {W : World} {L : List Nat} {A : Option Addr} {c : Nat} (h : Own b W 3 1 (.slice A L.length c) L.length (numI L)) : IAt W (gw (zL L)) L.length A := by
  refine IAt.mk fun h0 => ?_
  obtain ⟨gS, e, hc⟩ := num_cells h h0
  exact ⟨gS, 0, e, fun k hk => by rw [Nat.zero_add, zL_at hk]; exact hc k hk⟩
def IntPost (w : World) (L : List Nat) (er : Int) (e : Ending) (w' : World) : Prop := ∃ A c x, e = .returned (.tuple #[.slice A L.length c, .int .i64 er]) ∧ w' = gx w x ∧ IAt w' (gw (zL L)) L.length A
theorem Own.apart {b b' : Nat} {W : World} {e e' : TypeId} {s s' n n' : Nat} {v v' : Value} {xs xs' : List Value} (h : Own b W e s v n xs) (h' : Own b' W e' s' v' n' xs') (hne : e ≠ e') : v.ownBlock = none ∨ v.ownBlock ≠ v'.ownBlock := by
  rcases h.out.2 with ⟨rfl, _⟩ | ⟨g, cap, cur, rfl, _, hg, _⟩
  · exact .inl rfl
  · rcases h'.out.2 with ⟨rfl, _⟩ | ⟨g', cap', cur', rfl, _, hg', _⟩
    · exact .inr (by simp [Value.ownBlock])
    · refine .inr fun e => hne ?_
      simp only [Value.ownBlock, Option.some.injEq] at e
      subst e
      rw [hg] at hg'
      simp at hg'
      exact hg'.2
theorem Own.kept2 {b b' : Nat} {W W' : World} {e e' : TypeId} {s s' n n' : Nat} {v v' : Value} {xs xs' : List Value} (h : Own b W e s v n xs) (h' : Own b' W e' s' v' n' xs') (hg : W.grownBy W' v'.ownBlock) (hne : e ≠ e') : Own b W' e s v n xs := h.kept hg (h.apart h' hne)
end Go.Proofs.YtjlokobgdkkppaaDoor
