/-
  Calibrate of anything, the program's; samples that are appended.
-/
import Derived.Test.YtmpokfbliacmoaaDoorSCalb
namespace Go.Proofs.YtmpokfbliacmoaaDoor
open Go.RowKit
-- AT2
-- AT3

/-- What is wrong with a series and a calibration. -/
def calbE (den : Int) (g : Nat → Sm) (n : Nat) (cden : Int) (L : Nat → Ln) (nl : Nat) (lo hi : Int) : Int := if serE den g n ≠ 0 then serE den g n else if calE cden L nl lo hi ≠ 0 then calE cden L nl lo hi else if den ≠ 1 then 2 else 0
theorem calbE_1 {den : Int} {g : Nat → Sm} {n : Nat} {cden : Int} {L : Nat → Ln} {nl : Nat} {lo hi : Int} (h : serE den g n ≠ 0) : calbE den g n cden L nl lo hi = serE den g n := by unfold calbE; rw [if_pos h]
theorem calbE_2 {den : Int} {g : Nat → Sm} {n : Nat} {cden : Int} {L : Nat → Ln} {nl : Nat} {lo hi : Int} (h : serE den g n = 0) (h2 : calE cden L nl lo hi ≠ 0) : calbE den g n cden L nl lo hi = calE cden L nl lo hi := by unfold calbE; rw [if_neg (fun k => k h), if_pos h2]
theorem calbE_3 {den : Int} {g : Nat → Sm} {n : Nat} {cden : Int} {L : Nat → Ln} {nl : Nat} {lo hi : Int} (h : serE den g n = 0) (h2 : calE cden L nl lo hi = 0) (h3 : den ≠ 1) : calbE den g n cden L nl lo hi = 2 := by unfold calbE; rw [if_neg (fun k => k h), if_neg (fun k => k h2), if_pos h3]
theorem calbE_4 {den : Int} {g : Nat → Sm} {n : Nat} {cden : Int} {L : Nat → Ln} {nl : Nat} {lo hi : Int} (h : serE den g n = 0) (h2 : calE cden L nl lo hi = 0) (h3 : den = 1) : calbE den g n cden L nl lo hi = 0 := by unfold calbE; rw [if_neg (fun k => k h), if_neg (fun k => k h2), if_neg (fun k => k h3)]
attribute [irreducible] calbE
/-- The cells of the first k samples. -/
def smC (f : Nat → Sm) : Nat → List Value
  | 0 => []
  | k + 1 => smC f k ++ [.int .i64 (f k).t, .int .i64 (f k).n, .int .i64 (f k).m]
theorem smC_len (f : Nat → Sm) : ∀ k, (smC f k).length = k * 3
  | 0 => rfl
  | k + 1 => by show (smC f k ++ _).length = _; rw [List.length_append, smC_len f k]; simp; omega
theorem smC_at (f : Nat → Sm) : ∀ k i, i < k → (smC f k)[i * 3]? = some (.int .i64 (f i).t) ∧ (smC f k)[i * 3 + 1]? = some (.int .i64 (f i).n) ∧ (smC f k)[i * 3 + 2]? = some (.int .i64 (f i).m)
  | 0, i, h => by omega
  | k + 1, i, h => by
    show (smC f k ++ [.int .i64 (f k).t, .int .i64 (f k).n, .int .i64 (f k).m])[i * 3]? = _ ∧ (smC f k ++ [.int .i64 (f k).t, .int .i64 (f k).n, .int .i64 (f k).m])[i * 3 + 1]? = _ ∧ (smC f k ++ [.int .i64 (f k).t, .int .i64 (f k).n, .int .i64 (f k).m])[i * 3 + 2]? = _
    have hl := smC_len f k
    rcases Nat.lt_or_ge i k with h1 | h1
    · obtain ⟨e1, e2, e3⟩ := smC_at f k i h1
      rw [List.getElem?_append_left (by omega), List.getElem?_append_left (by omega), List.getElem?_append_left (by omega)]
      exact ⟨e1, e2, e3⟩
    · obtain rfl : i = k := by omega
      rw [List.getElem?_append_right (by omega), List.getElem?_append_right (by omega), List.getElem?_append_right (by omega), hl]
      rw [show i * 3 - i * 3 = 0 by omega, show i * 3 + 1 - i * 3 = 1 by omega, show i * 3 + 2 - i * 3 = 2 by omega]
      exact ⟨rfl, rfl, rfl⟩
theorem smC_succ (f : Nat → Sm) (k : Nat) : smC f (k + 1) = smC f k ++ [.int .i64 (f k).t, .int .i64 (f k).n, .int .i64 (f k).m] := rfl
theorem Own.sm {b : Nat} {W : World} {A : Option Addr} {k c : Nat} {f : Nat → Sm} (h : Own b W 38 3 (.slice A k c) k (smC f k)) : SmAt W f k A := by
  refine SmAt.mk fun h0 => ?_
  obtain ⟨A', c', e, _, _, _, hsh⟩ := h.is
  injection e with e1 e2 e3
  subst e1
  unfold Shows at hsh
  obtain ⟨g, o, rfl, hc⟩ := hsh (by rw [smC_len]; omega)
  refine ⟨g, o, rfl, fun i hi => ?_⟩
  obtain ⟨e1, e2, e3⟩ := smC_at f k i hi
  have h1 := hc _ _ e1
  have h2 := hc _ _ e2
  have h3 := hc _ _ e3
  rw [← Nat.add_assoc] at h2 h3
  exact ⟨h1, h2, h3⟩
theorem el_sample : Elem 22 38 3 24 := elem_of Tryd.underlying22 (by decide) (z := .agg #[.int .i64 0, .int .i64 0, .int .i64 0]) (by kernel_rfl) rfl
theorem SerPost.zero {w w' : World} {er : Int} {g : Nat → Sm} (hw : ∃ x, w' = gx w x) : SerPost w 0 g 0 er (.returned (.tuple #[serV 0 none 0 0, .int .i64 er])) w' := SerPost.mk hw (SmAt.none _ _ _)

end Go.Proofs.YtmpokfbliacmoaaDoor
