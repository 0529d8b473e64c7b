/-
  How Div64 lays its numbers out, as mathematics.
-/
import Derived.Test.YtlnbadjjgbecgaaSDivP
namespace Go.Proofs.Ytlnbadjjgbecgaa

structure DivNs (y h l s Y yn1 yn0 H L1 U LL u1 u0 : Nat) : Prop where
  eY : y * 2 ^ s = Y
  eY1 : Y / 4294967296 = yn1
  eY0 : Y % 4294967296 = yn0
  sumY : yn1 * 4294967296 + yn0 = Y
  bY : Y < 18446744073709551616
  b1 : 2147483648 ≤ yn1
  b2 : yn1 < 4294967296
  b3 : yn0 < 4294967296
  eH : h * 2 ^ s = H
  eL1 : l / 2 ^ (64 - s) = L1
  bL1 : L1 < 2 ^ s
  eU : H + L1 = U
  bU : U < Y
  eLL : l * 2 ^ s % 18446744073709551616 = LL
  eu1 : LL / 4294967296 = u1
  eu0 : LL % 4294967296 = u0
  c1 : u1 < 4294967296
  c0 : u0 < 4294967296
  fin1 : (U * 4294967296 + u1) / Y * 4294967296 + ((U * 4294967296 + u1) % Y * 4294967296 + u0) / Y = (h * 18446744073709551616 + l) / y
  fin2 : ((U * 4294967296 + u1) % Y * 4294967296 + u0) % Y / 2 ^ s = (h * 18446744073709551616 + l) % y
theorem div_gen {b W p r y h l : Nat} (hb : 0 < b) (hWb : b * b = W) (hpr : p * r = W) (hp : 0 < p) (hr : 0 < r) (hh : h < y) (hl : l < W) :
    l / r < p ∧ h * p + l / r < y * p ∧
    ((h * p + l / r) * b + l * p % W / b) / (y * p) * b + (((h * p + l / r) * b + l * p % W / b) % (y * p) * b + l * p % W % b) / (y * p) = (h * W + l) / y ∧
    (((h * p + l / r) * b + l * p % W / b) % (y * p) * b + l * p % W % b) % (y * p) / p = (h * W + l) % y := by
  have hW0 : 0 < W := by rw [← hWb]; exact Nat.mul_pos hb hb
  have eL : l * p / W = l / r := by
    rw [← hpr, Nat.mul_comm p r, Nat.mul_div_mul_right _ _ hp]
  have hdm := Nat.div_add_mod (l * p) W
  rw [eL] at hdm
  have bL : l / r < p := by rw [Nat.div_lt_iff_lt_mul hr, hpr]; exact hl
  have hsum : (h * p + l / r) * W + l * p % W = (h * W + l) * p := by
    rw [Nat.add_mul, Nat.add_mul, Nat.mul_right_comm h p W, Nat.mul_comm (l / r) W, Nat.add_assoc, hdm]
  have hlt : h * W + l < y * W := by
    have : (h + 1) * W ≤ y * W := Nat.mul_le_mul_right W hh
    rw [Nat.add_mul, Nat.one_mul] at this
    omega
  have hlt2 : (h * W + l) * p < y * W * p := Nat.mul_lt_mul_of_pos_right hlt hp
  have hsc := div_scaled (h := h) (l := l) (y := y) (p := p) (W := W) hp
  rw [← hsum] at hsc hlt2
  rw [Nat.mul_right_comm y W p] at hlt2
  have hU : h * p + l / r < y * p := by
    refine Nat.lt_of_not_le fun hc => ?_
    have := Nat.mul_le_mul_right W hc
    omega
  have hYp : 0 < y * p := Nat.mul_pos (by omega) hp
  have ht := div_two (b := b) (y := y * p) (u := h * p + l / r) (u1 := l * p % W / b) (u0 := l * p % W % b) hYp
  have e3 : (h * p + l / r) * (b * b) + l * p % W / b * b + l * p % W % b = (h * p + l / r) * W + l * p % W := by
    rw [hWb, Nat.add_assoc, Nat.mul_comm (l * p % W / b) b, Nat.div_add_mod]
  rw [e3] at ht
  exact ⟨bL, hU, by rw [ht.1]; exact hsc.1, by rw [ht.2]; exact hsc.2⟩
theorem div_halves {Y LL : Nat} (hy1 : 9223372036854775808 ≤ Y) (hy2 : Y < 18446744073709551616) (hLb : LL < 18446744073709551616) : Y / 4294967296 * 4294967296 + Y % 4294967296 = Y ∧ 2147483648 ≤ Y / 4294967296 ∧ Y / 4294967296 < 4294967296 ∧ Y % 4294967296 < 4294967296 ∧ LL / 4294967296 < 4294967296 ∧ LL % 4294967296 < 4294967296 := by omega
theorem div_setup {y h l s : Nat} (hs : s ≤ 64) (hy1 : 9223372036854775808 ≤ y * 2 ^ s) (hy2 : y * 2 ^ s < 18446744073709551616) (hh : h < y) (hl : l < 18446744073709551616) : ∃ Y yn1 yn0 H L1 U LL u1 u0, DivNs y h l s Y yn1 yn0 H L1 U LL u1 u0 := by
  have hW : 2 ^ s * 2 ^ (64 - s) = 18446744073709551616 := by rw [← Nat.pow_add, show s + (64 - s) = 64 by omega]
  obtain ⟨k1, k2, k3, k4⟩ := div_gen (b := 4294967296) (W := 18446744073709551616) (y := y) (h := h) (l := l) (by decide) (by decide) hW (Nat.two_pow_pos s) (Nat.two_pow_pos _) hh hl
  obtain ⟨a1, a2, a3, a4, a5, a6⟩ := div_halves hy1 hy2 (Nat.mod_lt (l * 2 ^ s) (by decide : 0 < 18446744073709551616))
  exact ⟨_, _, _, _, _, _, _, _, _, DivNs.mk rfl rfl rfl a1 hy2 a2 a3 a4 rfl rfl k1 rfl k2 rfl rfl rfl a5 a6 k3 k4⟩
end Go.Proofs.Ytlnbadjjgbecgaa
