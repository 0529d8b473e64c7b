/-
  The bytes of a frame, one by one; written and read again they are the frame.
-/
import Derived.Test.YtllahhmonoedmaaDoorPut
namespace Go.Proofs.YtllahhmonoedmaaDoor
open Go.RowKit

/-- The byte j of a frame's 96. -/
def byI (F : List Int) (j : Nat) : Int :=
  if j % 3 = 0 then gw F (j / 3 * 2) / 16 else if j % 3 = 1 then gw F (j / 3 * 2) % 16 * 16 + gw F (j / 3 * 2 + 1) / 256 else gw F (j / 3 * 2 + 1) % 256
theorem wrPair (D : List Int) (q p : Nat) (hq : q + p * 3 + 2 < D.length) (a b : Int) (x : Nat) :
    gw (wrI (wrI D q (2 * p) a) q (2 * p + 1) b) x = if x = q + p * 3 then a / 16 else if x = q + (p * 3 + 1) then a % 16 * 16 + b / 256 else if x = q + (p * 3 + 2) then b % 256 else gw D x := by
  have e1 : 2 * p / 2 = p := by omega
  have e2 : (2 * p + 1) / 2 = p := by omega
  have h1 : wrI D q (2 * p) a = (D.set (q + p * 3) (a / 16)).set (q + (p * 3 + 1)) (a % 16 * 16 + gw D (q + (p * 3 + 1)) % 16) := by
    unfold wrI; rw [if_pos (by omega), e1]
  generalize hD1 : wrI D q (2 * p) a = D1 at *
  have l1 : D1.length = D.length := by rw [h1]; simp
  have g1 : gw D1 (q + (p * 3 + 1)) / 16 * 16 = a % 16 * 16 := by
    rw [h1, gw_set _ _ _ _ (by simp; omega), if_pos rfl]; omega
  have h2 : wrI D1 q (2 * p + 1) b = (D1.set (q + (p * 3 + 1)) (a % 16 * 16 + b / 256)).set (q + (p * 3 + 2)) (b % 256) := by
    unfold wrI; rw [if_neg (by omega), e2, g1]
  rw [h2, gw_set _ _ _ _ (by simp; omega), gw_set _ _ _ _ (by omega), h1, gw_set _ _ _ _ (by simp; omega), gw_set _ _ _ _ (by omega)]
  repeat' split
  all_goals first | rfl | (exfalso; omega)
theorem byI_0 (F : List Int) (p : Nat) : byI F (p * 3) = gw F (2 * p) / 16 := by
  have e : p * 3 / 3 * 2 = 2 * p := by omega
  unfold byI; rw [if_pos (by omega), e]
theorem byI_1 (F : List Int) (p : Nat) : byI F (p * 3 + 1) = gw F (2 * p) % 16 * 16 + gw F (2 * p + 1) / 256 := by
  have e : (p * 3 + 1) / 3 * 2 = 2 * p := by omega
  unfold byI; rw [if_neg (by omega), if_pos (by omega), e]
theorem byI_2 (F : List Int) (p : Nat) : byI F (p * 3 + 2) = gw F (2 * p + 1) % 256 := by
  have e : (p * 3 + 2) / 3 * 2 + 1 = 2 * p + 1 := by omega
  unfold byI; rw [if_neg (by omega), if_neg (by omega), e]
theorem gw_wrTo (C : List Int) (q : Nat) (F : List Int) (hq : q + 96 ≤ C.length) : ∀ p, p ≤ 32 → ∀ x, gw (wrTo C q F (2 * p)) x = if q ≤ x ∧ x < q + p * 3 then byI F (x - q) else gw C x
  | 0, _, x => by rw [if_neg (by omega)]; rfl
  | p + 1, hp, x => by
    have e : wrTo C q F (2 * (p + 1)) = wrI (wrI (wrTo C q F (2 * p)) q (2 * p) (gw F (2 * p))) q (2 * p + 1) (gw F (2 * p + 1)) := rfl
    rw [e, wrPair _ _ _ (by rw [wrTo_len]; omega)]
    by_cases c0 : x = q + p * 3
    · rw [if_pos c0, if_pos (by omega), show x - q = p * 3 by omega, byI_0]
    · rw [if_neg c0]
      by_cases c1 : x = q + (p * 3 + 1)
      · rw [if_pos c1, if_pos (by omega), show x - q = p * 3 + 1 by omega, byI_1]
      · rw [if_neg c1]
        by_cases c2 : x = q + (p * 3 + 2)
        · rw [if_pos c2, if_pos (by omega), show x - q = p * 3 + 2 by omega, byI_2]
        · rw [if_neg c2, gw_wrTo C q F hq p (by omega) x]
          by_cases h : q ≤ x ∧ x < q + p * 3
          · rw [if_pos h, if_pos (by omega)]
          · rw [if_neg h, if_neg (show ¬ (q ≤ x ∧ x < q + (p + 1) * 3) by omega)]
theorem gw_wrF (C : List Int) (q : Nat) (F : List Int) (hq : q + 96 ≤ C.length) (x : Nat) : gw (wrF C q F) x = if q ≤ x ∧ x < q + 96 then byI F (x - q) else gw C x :=
  (congrArg (fun D => gw D x) (wrF_eq C q F)).symm.trans (gw_wrTo C q F hq 32 (by omega) x)
theorem gw_rdTo (Z B : List Int) (hZ : Z.length = 64) : ∀ k, k ≤ 64 → ∀ i, gw (rdTo Z B k) i = if i < k then rdI B i else gw Z i
  | 0, _, i => by rw [if_neg (by omega)]; rfl
  | k + 1, hk, i => by
    have e : rdTo Z B (k + 1) = (rdTo Z B k).set k (rdI B k) := rfl
    rw [e, gw_set _ _ _ _ (by rw [rdTo_len]; omega), gw_rdTo Z B hZ k (by omega) i]
    by_cases c : i = k
    · subst c; rw [if_pos rfl, if_pos (by omega)]
    · rw [if_neg c]
      by_cases h : i < k
      · rw [if_pos h, if_pos (by omega)]
      · rw [if_neg h, if_neg (by omega)]
theorem gw_rdF (B : List Int) (i : Nat) (hi : i < 64) : gw (rdF B) i = rdI B i := by
  rw [← rdF_eq, gw_rdTo zeroF B zeroF_len 64 (by omega) i, if_pos hi]
theorem rd_by {B F : List Int} (hF : Fr F) (hn : Narrow F) (h : ∀ j, j < 96 → gw B j = byI F j) (i : Nat) (hi : i < 64) : rdI B i = gw F i := by
  have a0 := (hF.bd (2 * (i / 2))).1
  have a1 := hn (2 * (i / 2)) (by omega)
  have b0 := (hF.bd (2 * (i / 2) + 1)).1
  have b1 := hn (2 * (i / 2) + 1) (by omega)
  unfold rdI
  rw [h _ (by omega), h _ (by omega), h _ (by omega), byI_0, byI_1, byI_2]
  by_cases c : i % 2 = 0
  · rw [if_pos c]
    rw [show gw F i = gw F (2 * (i / 2)) by rw [show 2 * (i / 2) = i by omega]]
    omega
  · rw [if_neg c]
    rw [show gw F i = gw F (2 * (i / 2) + 1) by rw [show 2 * (i / 2) + 1 = i by omega]]
    omega
/-- What is written is read again. -/
theorem rdF_by {B F : List Int} (hF : Fr F) (hn : Narrow F) (h : ∀ j, j < 96 → gw B j = byI F j) : rdF B = F :=
  ext_gw (by rw [rdF_len, hF.len]) fun k hk => by
    rw [rdF_len] at hk
    rw [gw_rdF B k hk, rd_by hF hn h k hk]
theorem byI_bd {F : List Int} (hF : Fr F) (hn : Narrow F) (j : Nat) (hj : j < 96) : 0 ≤ byI F j ∧ byI F j ≤ 255 := by
  have a0 := (hF.bd (j / 3 * 2)).1
  have a1 := hn (j / 3 * 2) (by omega)
  have b0 := (hF.bd (j / 3 * 2 + 1)).1
  have b1 := hn (j / 3 * 2 + 1) (by omega)
  unfold byI
  split
  · omega
  · split <;> omega
/-- Four bits of a frame: the piece n, from the first word's highest bits on. -/
def halfI (F : List Int) (n : Nat) : Int := gw F (n / 3) / 2 ^ (8 - n % 3 * 4) % 16
theorem half_by {F : List Int} (hF : Fr F) (hn : Narrow F) (j : Nat) (hj : j < 96) : halfI F (2 * j) * 16 + halfI F (2 * j + 1) = byI F j := by
  have a0 := (hF.bd (j / 3 * 2)).1
  have a1 := hn (j / 3 * 2) (by omega)
  have b0 := (hF.bd (j / 3 * 2 + 1)).1
  have b1 := hn (j / 3 * 2 + 1) (by omega)
  have c : j % 3 = 0 ∨ j % 3 = 1 ∨ j % 3 = 2 := by omega
  unfold halfI byI
  rcases c with c | c | c
  · rw [if_pos c, show 2 * j / 3 = j / 3 * 2 by omega, show (2 * j + 1) / 3 = j / 3 * 2 by omega, show 2 * j % 3 = 0 by omega, show (2 * j + 1) % 3 = 1 by omega]
    have e0 : (2 : Int) ^ (8 - 0 * 4) = 256 := rfl
    have e1 : (2 : Int) ^ (8 - 1 * 4) = 16 := rfl
    rw [e0, e1]
    omega
  · rw [if_neg (by omega), if_pos c, show 2 * j / 3 = j / 3 * 2 by omega, show (2 * j + 1) / 3 = j / 3 * 2 + 1 by omega, show 2 * j % 3 = 2 by omega, show (2 * j + 1) % 3 = 0 by omega]
    have e0 : (2 : Int) ^ (8 - 2 * 4) = 1 := rfl
    have e1 : (2 : Int) ^ (8 - 0 * 4) = 256 := rfl
    rw [e0, e1]
    omega
  · rw [if_neg (by omega), if_neg (by omega), show 2 * j / 3 = j / 3 * 2 + 1 by omega, show (2 * j + 1) / 3 = j / 3 * 2 + 1 by omega, show 2 * j % 3 = 1 by omega, show (2 * j + 1) % 3 = 2 by omega]
    have e0 : (2 : Int) ^ (8 - 1 * 4) = 16 := rfl
    have e1 : (2 : Int) ^ (8 - 2 * 4) = 1 := rfl
    rw [e0, e1]
    omega
theorem halfI_bd (F : List Int) (n : Nat) : 0 ≤ halfI F n ∧ halfI F n ≤ 15 := by unfold halfI; omega
theorem halfI_is (F : List Int) (n : Nat) : halfI F n = gw F (n / 3) / 2 ^ (8 - n % 3 * 4) % 16 := rfl
attribute [irreducible] halfI byI
end Go.Proofs.YtllahhmonoedmaaDoor
