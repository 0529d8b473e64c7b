/-
  A frame that is made up or sealed is sound; sealing it once more changes nothing.
-/
import Derived.Test.YtemgjiajpgepiaaDoorNew
import Derived.Test.YtemgjiajpgepiaaDoorFlaw
namespace Go.Proofs.YtemgjiajpgepiaaDoor
open Go.RowKit

theorem oddI_wordI (a : Int) : oddI (wordI a) = true := by
  have h0 : 0 ≤ a % 2048 := by omega
  have h1 : a % 2048 < 2048 := by omega
  unfold wordI
  generalize a % 2048 = m at *
  by_cases h : oddI m = true
  · rw [if_pos h]; exact h
  · rw [if_neg h]
    unfold oddI at *
    have e : onesI (m + 2048) = onesI m + 1 := by
      unfold onesI ones
      have t : (m + 2048).toNat = m.toNat + 2048 := by omega
      rw [t, pop_add 11 5 (m.toNat + 2048), pop_add 11 5 m.toNat]
      have a1 : pop 11 (m.toNat + 2048) = pop 11 m.toNat := by
        have a0 : (m.toNat + 2048) % 2 ^ 11 = m.toNat % 2 ^ 11 := Nat.add_mod_right _ _
        rw [← pop_mod 11 (m.toNat + 2048), ← pop_mod 11 m.toNat, a0]
      have a2 : (m.toNat + 2048) / 2 ^ 11 = 1 := by omega
      have a3 : m.toNat / 2 ^ 11 = 0 := by omega
      rw [a1, a2, a3]
      have : pop 5 1 = 1 := rfl
      have : pop 5 0 = 0 := rfl
      omega
    rw [e]
    have := onesI_bd m
    simp at *
    omega
theorem wordI_mod' (a : Int) : wordI a % 2048 = a % 2048 := wordI_mod a
theorem wordI_idem (a : Int) : wordI (wordI a) = wordI a := wordI_cong _ _ (wordI_mod a)

/-- The words of a sealed frame. -/
theorem gw_sealI (G : List Int) (hl : G.length = 64) (j : Nat) : gw (sealI G) j = if j = 63 then loI (sumW (parTo G 60)) else if j = 62 then hiI (sumW (parTo G 60)) else if j = 61 then wordI (sumI (parTo G 60)) else gw (parTo G 60) j := by
  have l0 : (parTo G 60).length = 64 := by rw [parTo_len, hl]
  have l1 : (sumW (parTo G 60)).length = 64 := by unfold sumW; rw [List.length_set, l0]
  unfold sealI chkW
  rw [gw_set _ _ _ _ (by rw [List.length_set, l1]; decide), gw_set _ _ _ _ (by rw [l1]; decide)]
  unfold sumW
  rw [gw_set _ _ _ _ (by rw [l0]; decide)]
theorem sumTo_cong {F G : List Int} : ∀ k, (∀ j, 1 ≤ j → j ≤ k → gw F j = gw G j) → sumTo F k = sumTo G k
  | 0, _ => rfl
  | k + 1, h => by
    simp only [sumTo]
    rw [sumTo_cong k fun j h1 h2 => h j h1 (by omega), h (k + 1) (by omega) (by omega)]
theorem sumI_cong {F G : List Int} (h : ∀ j, 1 ≤ j → j ≤ 60 → gw F j = gw G j) : sumI F = sumI G := by unfold sumI; exact sumTo_cong 60 h
theorem chkI_cong {F G : List Int} (hl : F.length = 64) (hl' : G.length = 64) (h : ∀ j, j < 62 → gw F j = gw G j) : chkI F = chkI G := by
  have e : F.take 62 = G.take 62 := by
    apply List.ext_getElem (by simp [hl, hl'])
    intro k h1 h2
    have hk : k < 62 := by simp at h1; omega
    have := h k hk
    unfold gw at this
    simpa [List.getD, List.getElem?_eq_getElem (show k < F.length by omega), List.getElem?_eq_getElem (show k < G.length by omega)] using this
  unfold chkI crcTo
  rw [e]
theorem numI_cong {F G : List Int} (h1 : gw F 1 % 2048 = gw G 1 % 2048) (h2 : gw F 2 % 2048 = gw G 2 % 2048) : numI F = numI G := by unfold numI; rw [h1, h2]

section
variable (G : List Int) (hl : G.length = 64)
include hl
theorem seal_word (j : Nat) (h0 : 1 ≤ j) (h1 : j ≤ 60) : gw (sealI G) j = wordI (gw G j) := by
  rw [gw_sealI G hl j, if_neg (by omega), if_neg (by omega), if_neg (by omega), gw_parTo G hl 60 (by omega) j, if_neg (by omega), if_pos h1]
theorem seal_sync : gw (sealI G) 0 = syncI (numI G) := by
  rw [gw_sealI G hl 0, if_neg (by omega), if_neg (by omega), if_neg (by omega), gw_parTo G hl 60 (by omega) 0, if_pos rfl]
theorem seal_num : numI (sealI G) = numI G := numI_cong (by rw [seal_word G hl 1 (by omega) (by omega), wordI_mod]) (by rw [seal_word G hl 2 (by omega) (by omega), wordI_mod])
theorem seal_sum : sumI (sealI G) = sumI (parTo G 60) := sumI_cong fun j _ h1 => by rw [gw_sealI G hl j, if_neg (by omega), if_neg (by omega), if_neg (by omega)]
theorem seal_chk : chkI (sealI G) = chkI (sumW (parTo G 60)) := by
  have l0 : (parTo G 60).length = 64 := by rw [parTo_len, hl]
  refine chkI_cong (by rw [sealI_len, hl]) (by unfold sumW; rw [List.length_set, l0]) fun j hj => ?_
  rw [gw_sealI G hl j, if_neg (by omega), if_neg (by omega)]
  unfold sumW
  rw [gw_set _ _ _ _ (by rw [l0]; decide)]
theorem seal_hi : hiI (sealI G) = gw (sealI G) 62 := by
  rw [gw_sealI G hl 62, if_neg (by omega), if_pos rfl]; unfold hiI; rw [seal_chk G hl]
theorem seal_lo : loI (sealI G) = gw (sealI G) 63 := by
  rw [gw_sealI G hl 63, if_pos rfl]; unfold loI; rw [seal_chk G hl]
theorem seal_61 : gw (sealI G) 61 = wordI (sumI (parTo G 60)) := by
  rw [gw_sealI G hl 61, if_neg (by omega), if_neg (by omega), if_pos rfl]
theorem seal_odd (j : Nat) (h0 : 1 ≤ j) (h1 : j ≤ 63) : oddI (gw (sealI G) j) = true := by
  rcases Nat.lt_or_ge 60 j with h | h
  · have : j = 61 ∨ j = 62 ∨ j = 63 := by omega
    rcases this with rfl | rfl | rfl
    · rw [seal_61 G hl]; exact oddI_wordI _
    · rw [← seal_hi G hl]; unfold hiI; exact oddI_wordI _
    · rw [← seal_lo G hl]; unfold loI; exact oddI_wordI _
  · rw [seal_word G hl j h0 h]; exact oddI_wordI _
theorem seal_sound : soundB (sealI G) = true := by
  rw [soundB_true]
  refine ⟨?_, (parOk_true _ 63).2 fun j h1 h2 => seal_odd G hl j h1 h2, ?_, ?_⟩
  · unfold syncOk; rw [seal_sync G hl, seal_num G hl]; exact beq_self_eq_true _
  · unfold sumOk
    rw [seal_61 G hl, wordI_mod, seal_sum G hl, beq_iff_eq]
    have := sumI_bd (parTo G 60)
    omega
  · unfold chkOk hiOk loOk
    rw [seal_hi G hl, seal_lo G hl]
    simp
theorem seal_idem : sealI (sealI G) = sealI G := by
  have l0 : (sealI G).length = 64 := by rw [sealI_len, hl]
  have p : parTo (sealI G) 60 = sealI G := by
    refine ext_gw (by rw [parTo_len]) fun k hk => ?_
    rw [gw_parTo (sealI G) l0 60 (by omega) k]
    split
    · rename_i h; subst h; rw [seal_num G hl, seal_sync G hl]
    · split
      · rename_i h h'; rw [seal_word G hl k (by omega) h', wordI_idem]
      · rfl
  have s : sumW (sealI G) = sealI G := by
    refine ext_gw (by unfold sumW; rw [List.length_set]) fun k hk => ?_
    unfold sumW
    rw [gw_set _ _ _ _ (by rw [l0]; decide)]
    split
    · rename_i h; subst h; rw [seal_sum G hl, seal_61 G hl]
    · rfl
  have c : chkW (sealI G) = sealI G := by
    refine ext_gw (by unfold chkW; rw [List.length_set, List.length_set]) fun k hk => ?_
    unfold chkW
    rw [gw_set _ _ _ _ (by rw [List.length_set, l0]; decide), gw_set _ _ _ _ (by rw [l0]; decide)]
    split
    · rename_i h; subst h; rw [seal_lo G hl]
    · split
      · rename_i h h'; subst h'; rw [seal_hi G hl]
      · rfl
  rw [show sealI (sealI G) = chkW (sumW (parTo (sealI G) 60)) from rfl, p, s, c]
end

/-! What New returns. -/
theorem gw_newTo (Z : List Int) (hZ : Z.length = 64) (number : Int) (D : List Int) : ∀ k, k ≤ 58 → ∀ j, gw (newTo Z number D k) j = if 3 ≤ j ∧ j < 3 + k then gw D (j - 3) else if j = 2 then number / 2048 else if j = 1 then number % 2048 else gw Z j
  | 0, _, j => by
    unfold newTo
    rw [gw_set _ _ _ _ (by rw [List.length_set, hZ]; decide), gw_set _ _ _ _ (by rw [hZ]; decide), if_neg (show ¬ (3 ≤ j ∧ j < 3 + 0) by omega)]
  | k + 1, hk, j => by
    unfold newTo
    rw [gw_set _ _ _ _ (by rw [newTo_len, hZ]; omega), gw_newTo Z hZ number D k (by omega) j]
    by_cases e : j = 3 + k
    · subst e; rw [if_pos rfl, if_pos (by omega)]; congr 1; omega
    · rw [if_neg e]
      by_cases h : 3 ≤ j ∧ j < 3 + k
      · rw [if_pos h, if_pos (by omega)]
      · rw [if_neg h, if_neg (show ¬ (3 ≤ j ∧ j < 3 + (k + 1)) by omega)]
structure Made (number : Int) (D F : List Int) : Prop where
  fr : Fr F
  narrow : Narrow F
  sound : soundB F = true
  again : sealI F = F
  num : numI F = number
  odd : ∀ j, 1 ≤ j → j ≤ 63 → oddI (gw F j) = true
  val : ∀ k, k < 58 → gw F (3 + k) % 2048 = gw D k
theorem made_of {number : Int} {D : List Int} (h : newE number D = 0) : Made number D (newF zeroF number D) ∧ D.length = 58 ∧ 0 ≤ number ∧ number < 4194304 := by
  have e := h
  unfold newE at e
  by_cases hn : 0 ≤ number ∧ number < 4194304
  · rw [if_pos hn] at e
    by_cases hD : D.length = 58
    · rw [if_pos hD] at e
      by_cases hi : inTo D 58 = true
      · have hF : newF zeroF number D = sealI (newTo zeroF number D 58) := by unfold newF; rw [if_pos h]
        rw [hF]
        have f := newTo_fr zeroF_fr number D hn.1 hn.2 58 (by omega) hi
        have nn := newTo_narrow zeroF_len zeroF_narrow number D hn.1 hn.2 58 (by omega) hi
        have hl := f.len
        have g := gw_newTo zeroF zeroF_len number D 58 (by omega)
        have hin := (inTo_true D 58).1 hi
        refine ⟨⟨sealI_fr f, sealI_narrow f nn, seal_sound _ hl, seal_idem _ hl, ?_, seal_odd _ hl, ?_⟩, hD, hn⟩
        · rw [seal_num _ hl]
          have g1 := g 1
          have g2 := g 2
          simp at g1 g2
          unfold numI
          rw [g1, g2]
          omega
        · intro k hk
          rw [seal_word _ hl _ (by omega) (by omega), wordI_mod, g (3 + k), if_pos (by omega)]
          have := hin k hk
          have e3 : 3 + k - 3 = k := by omega
          rw [e3]
          omega
      · rw [if_neg hi] at e; omega
    · rw [if_neg hD] at e; omega
  · rw [if_neg hn] at e; omega
end Go.Proofs.YtemgjiajpgepiaaDoor
