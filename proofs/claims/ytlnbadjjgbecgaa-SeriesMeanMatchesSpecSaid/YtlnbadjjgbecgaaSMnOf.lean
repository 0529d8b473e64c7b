/-
  meanOf of the program: the mean of what is held.
-/
import Derived.Test.YtlnbadjjgbecgaaSStr
import Derived.Test.YtlnbadjjgbecgaaSFlo
import Derived.Test.YtlnbadjjgbecgaaSLine
namespace Go.Proofs.Ytlnbadjjgbecgaa
open Go.RowKit
-- AT2
-- AT3

theorem sumT_append (L M : List (Int × Nat)) : sumT (L ++ M) = sumT L + sumT M := by
  induction L with
  | nil => simp [sumT]
  | cons y L ih => rw [List.cons_append, sumT, sumT, ih]; omega
theorem sumT_take (L : List (Int × Nat)) (k : Nat) : sumT (L.take k) ≤ sumT L := by
  have := sumT_append (L.take k) (L.drop k)
  rw [List.take_append_drop] at this
  omega
theorem SmallL.take {L : List (Int × Nat)} (h : SmallL L) (k : Nat) : SmallL (L.take k) := fun x hx => h x (List.mem_of_mem_take hx)
theorem take_next {α : Type} (L : List α) (k : Nat) (h : k < L.length) : L.take (k + 1) = L.take k ++ [L.get ⟨k, h⟩] := by
  rw [List.take_add_one, List.getElem?_eq_getElem h]
  rfl
theorem ticks_one {L : List (Int × Nat)} {k : Nat} (h : k < L.length) : (L.get ⟨k, h⟩).2 ≤ sumT L := by
  have := sumT_take L (k + 1)
  rw [take_next L k h, sumT_app] at this
  omega
/-- The cells of stretches. -/
def MnAt (W : World) (L : List (Int × Nat)) (b o : Nat) : Prop := ∀ k (h : k < L.length), W.cell? ⟨b, o + k * 2, none⟩ = some (.int .i64 (L.get ⟨k, h⟩).1) ∧ W.cell? ⟨b, o + k * 2 + 1, none⟩ = some (.int .i64 ((L.get ⟨k, h⟩).2 : Int))
theorem MnAt.gx {W : World} {L : List (Int × Nat)} {b o : Nat} {x : Ext} (h : MnAt W L b o) : MnAt (gx W x) L b o := fun k hk => ⟨cell_keep_gx (h k hk).1, cell_keep_gx (h k hk).2⟩
theorem MnAt.alloc {W : World} {L : List (Int × Nat)} {b o : Nat} {ob : Obj} (h : MnAt W L b o) : MnAt (W.alloc ob) L b o := fun k hk => ⟨cell_keep_alloc (h k hk).1, cell_keep_alloc (h k hk).2⟩
theorem mn_cells {b0 : Nat} {W : World} {L : List (Int × Nat)} {A : Option Addr} {c : Nat} (h : Own b0 W 58 2 (.slice A L.length c) L.length (mnC L)) (hl : 0 < L.length) : ∃ b o, A = some ⟨b, o, none⟩ ∧ MnAt W L b o := by
  obtain ⟨A', c', e, _, _, _, hsh⟩ := h.is
  injection e with e1 e2 e3
  subst e1
  unfold Shows at hsh
  obtain ⟨gS, o, rfl, hc⟩ := hsh (by have := mnC_len L; omega)
  refine ⟨gS, o, rfl, fun k hk => ?_⟩
  obtain ⟨e1, e2⟩ := mnC_at L k hk
  exact ⟨hc _ _ e1, by rw [Nat.add_assoc]; exact hc _ _ e2⟩
/-- The program's parts give the mean in lowest terms. -/
theorem mean_parts {S w l T : Int} (hT : 0 < T) (h : T * w + l = S) (hl : 0 ≤ l) : (w + l.tdiv T) * lowD (l.tmod T) T + lowN (l.tmod T) T = lowN S T ∧ lowD (l.tmod T) T = lowD S T := by
  obtain ⟨e1, e2⟩ := mean_low (W := w + l.tdiv T) (l := l.tmod T) hT
  have e3 : T * (w + l.tdiv T) + l.tmod T = S := by
    have := Int.tmod_add_mul_tdiv l T
    rw [Int.mul_add]
    omega
  rw [e3] at e1 e2
  exact ⟨e1, e2⟩
/-- The tests of meanOf. -/
theorem big_test {W p d : Int} (hd : 0 < d) (hp : 0 ≤ p) (hp2 : p ≤ 4611686018427387904) :
    (¬ (4611686018427387904 - p).tdiv d < W ∧ ¬ W < -((4611686018427387904 + p).tdiv d)) ↔ (W * d + p).natAbs ≤ 4611686018427387904 := by
  have a1 := Int.tmod_add_mul_tdiv (4611686018427387904 - p) d
  have a2 := Int.tmod_nonneg d (a := 4611686018427387904 - p) (by omega)
  have a3 := Int.tmod_lt_of_pos (4611686018427387904 - p) hd
  have b1 := Int.tmod_add_mul_tdiv (4611686018427387904 + p) d
  have b2 := Int.tmod_nonneg d (a := 4611686018427387904 + p) (by omega)
  have b3 := Int.tmod_lt_of_pos (4611686018427387904 + p) hd
  generalize (4611686018427387904 - p).tdiv d = u at *
  generalize (4611686018427387904 - p).tmod d = r at *
  generalize (4611686018427387904 + p).tdiv d = v at *
  generalize (4611686018427387904 + p).tmod d = s at *
  have k1 : d * (u + 1) = d * u + d := by rw [Int.mul_add, Int.mul_one]
  have k2 : d * (-v - 1) = -(d * v) - d := by rw [Int.mul_sub, Int.mul_neg, Int.mul_one]
  have k3 : d * (-v) = -(d * v) := Int.mul_neg ..
  rw [Int.mul_comm W d]
  constructor
  · rintro ⟨h1, h2⟩
    have e1 : d * W ≤ d * u := Int.mul_le_mul_of_nonneg_left (by omega) (by omega)
    have e2 : d * (-v) ≤ d * W := Int.mul_le_mul_of_nonneg_left (by omega) (by omega)
    omega
  · intro h
    constructor
    · intro h1
      have e1 : d * (u + 1) ≤ d * W := Int.mul_le_mul_of_nonneg_left (by omega) (by omega)
      omega
    · intro h1
      have e1 : d * W ≤ d * (-v - 1) := Int.mul_le_mul_of_nonneg_left (by omega) (by omega)
      omega
end Go.Proofs.Ytlnbadjjgbecgaa
