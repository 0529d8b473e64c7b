/-
  Plain mathematics of spoilt frames: two sound frames that differ in word 0 and one other word at most are one; the only word that can fit at a place; three changed bits at most are noticed.
-/
import Derived.Test.YtemgjiajpgepiaaDoorMade
import Derived.Test.YtemgjiajpgepiaaDoorLawDistance
namespace Go.Proofs.YtemgjiajpgepiaaDoor

theorem xorI_assoc (a b c : Int) : xorI (xorI a b) c = xorI a (xorI b c) := by
  unfold xorI; simp only [Int.toNat_natCast]; rw [Nat.xor_assoc]
theorem xorI_comm (a b : Int) : xorI a b = xorI b a := by unfold xorI; rw [Nat.xor_comm]
theorem xorI_self (a : Int) : xorI a a = 0 := by unfold xorI; rw [Nat.xor_self]; rfl
theorem xorI_zero {a : Int} (h : 0 ≤ a) : xorI a 0 = a := by unfold xorI; simp; omega
theorem zero_xorI {a : Int} (h : 0 ≤ a) : xorI 0 a = a := by rw [xorI_comm]; exact xorI_zero h
theorem xorI_nonneg (a b : Int) : 0 ≤ xorI a b := by unfold xorI; omega
theorem xorI_cancel (f : Int) {g : Int} (h : 0 ≤ g) : xorI f (xorI f g) = g := by
  rw [← xorI_assoc, xorI_self, zero_xorI h]
theorem xorI_eq_zero {a b : Int} (ha : 0 ≤ a) (hb : 0 ≤ b) (h : xorI a b = 0) : a = b := by
  have e := xorI_cancel a hb
  rw [h, xorI_zero ha] at e
  exact e
theorem xorI_fix {a d : Int} (hd : 0 ≤ d) (h : xorI a d = a) : d = 0 := by
  have e := xorI_cancel a hd
  rw [h, xorI_self] at e
  exact e.symm
theorem xorI_mod (a b : Int) (ha : 0 ≤ a) (hb : 0 ≤ b) : xorI a b % 2048 = xorI (a % 2048) (b % 2048) := by
  obtain ⟨a, rfl⟩ := Int.eq_ofNat_of_zero_le ha
  obtain ⟨b, rfl⟩ := Int.eq_ofNat_of_zero_le hb
  unfold xorI
  have e1 : ((a : Int) % 2048).toNat = a % 2 ^ 11 := by omega
  have e2 : ((b : Int) % 2048).toNat = b % 2 ^ 11 := by omega
  rw [e1, e2, Int.toNat_natCast, Int.toNat_natCast, ← Nat.xor_mod_two_pow]
  omega

theorem sumTo_diff {F G : List Int} {j : Nat} (h : ∀ k, k ≠ j → 1 ≤ k → k ≤ 60 → gw G k = gw F k) : ∀ k, k ≤ 60 → sumTo G k = if 1 ≤ j ∧ j ≤ k then xorI (sumTo F k) (xorI (gw F j % 2048) (gw G j % 2048)) else sumTo F k
  | 0, _ => by rw [if_neg (by omega)]; rfl
  | k + 1, hk => by
    have ih := sumTo_diff h k (by omega)
    show xorI (sumTo G k) (gw G (k + 1) % 2048) = _
    have eF : sumTo F (k + 1) = xorI (sumTo F k) (gw F (k + 1) % 2048) := rfl
    rw [ih, eF]
    by_cases e : j = k + 1
    · subst e
      rw [if_neg (by omega), if_pos (by omega), xorI_assoc, xorI_cancel _ (by omega)]
    · by_cases c : 1 ≤ j ∧ j ≤ k
      · rw [if_pos c, if_pos (by omega), h (k + 1) (by omega) (by omega) (by omega), xorI_assoc (sumTo F k), xorI_assoc (sumTo F k), xorI_comm (gw F (k + 1) % 2048)]
      · rw [if_neg c, if_neg (by omega), h (k + 1) (by omega) (by omega) (by omega)]
theorem sumI_diff {F G : List Int} {j : Nat} (h : ∀ k, k ≠ j → 1 ≤ k → k ≤ 60 → gw G k = gw F k) (h0 : 1 ≤ j) (h1 : j ≤ 60) : sumI G = xorI (sumI F) (xorI (gw F j % 2048) (gw G j % 2048)) := by
  unfold sumI
  rw [sumTo_diff h 60 (by omega), if_pos ⟨h0, h1⟩]

theorem onesI_more {m : Int} (h0 : 0 ≤ m) (h1 : m < 2048) : onesI (m + 2048) = onesI m + 1 := by
  unfold onesI ones
  have t : (m + 2048).toNat = m.toNat + 2048 := by omega
  rw [t, pop_add 11 5 (m.toNat + 2048), pop_add 11 5 m.toNat]
  have a1 : pop 11 (m.toNat + 2048) = pop 11 m.toNat := by
    have a0 : (m.toNat + 2048) % 2 ^ 11 = m.toNat % 2 ^ 11 := Nat.add_mod_right _ _
    rw [← pop_mod 11 (m.toNat + 2048), ← pop_mod 11 m.toNat, a0]
  have a2 : (m.toNat + 2048) / 2 ^ 11 = 1 := by omega
  have a3 : m.toNat / 2 ^ 11 = 0 := by omega
  rw [a1, a2, a3]
  have : pop 5 1 = 1 := rfl
  have : pop 5 0 = 0 := rfl
  omega
/-- A word with an odd number of ones is the word with its data. -/
theorem wordI_odd {a : Int} (h0 : 0 ≤ a) (h1 : a ≤ 4095) (ho : oddI a = true) : wordI a = a := by
  unfold wordI
  rcases Int.lt_or_le a 2048 with h | h
  · have e : a % 2048 = a := by omega
    rw [e, if_pos ho]
  · have e : a % 2048 = a - 2048 := by omega
    have m := onesI_more (m := a - 2048) (by omega) (by omega)
    rw [show a - 2048 + 2048 = a by omega] at m
    rw [e]
    rw [if_neg, show a - 2048 + 2048 = a by omega]
    unfold oddI at *
    rw [m] at ho
    simp at *
    have := onesI_bd (a - 2048)
    omega
theorem same_word {a b : Int} (a0 : 0 ≤ a) (a1 : a ≤ 4095) (b0 : 0 ≤ b) (b1 : b ≤ 4095) (ha : oddI a = true) (hb : oddI b = true) (h : a % 2048 = b % 2048) : a = b := by
  rw [← wordI_odd a0 a1 ha, ← wordI_odd b0 b1 hb]; exact wordI_cong _ _ h

/-- A sound frame of narrow words. -/
structure Snd (F : List Int) : Prop where
  fr : Fr F
  narrow : Narrow F
  sync : gw F 0 = syncI (numI F)
  odd : ∀ j, 1 ≤ j → j ≤ 63 → oddI (gw F j) = true
  sum : gw F 61 % 2048 = sumI F
  hi : gw F 62 = hiI F
  lo : gw F 63 = loI F
theorem hiI_odd (F : List Int) : oddI (hiI F) = true := by unfold hiI; exact oddI_wordI _
theorem loI_odd (F : List Int) : oddI (loI F) = true := by unfold loI; exact oddI_wordI _
theorem snd_of {F : List Int} (hF : Fr F) (hn : Narrow F) (h : soundB F = true) : Snd F := by
  obtain ⟨h1, h2, h3, h4⟩ := (soundB_true F).1 h
  have ho := (parOk_true F 63).1 h2
  unfold syncOk at h1
  unfold sumOk at h3
  unfold chkOk hiOk loOk at h4
  simp only [Bool.and_eq_true, beq_iff_eq] at h1 h3 h4
  exact ⟨hF, hn, h1, ho, h3, same_word (hF.bd _).1 (hn _ (by omega)) (hi_bd F).1 (hi_bd F).2 (ho 62 (by omega) (by omega)) (hiI_odd F) h4.1,
    same_word (hF.bd _).1 (hn _ (by omega)) (lo_bd F).1 (lo_bd F).2 (ho 63 (by omega) (by omega)) (loI_odd F) h4.2⟩
theorem chk_cong' {F G : List Int} (hF : Fr F) (hG : Fr G) (h : ∀ k, k < 62 → gw G k = gw F k) : hiI G = hiI F ∧ loI G = loI F := by
  have e := chkI_cong hG.len hF.len h
  unfold hiI loI
  rw [e]
  exact ⟨rfl, rfl⟩

/-- Two sound frames that differ at most in word 0 and in one other word are one. -/
theorem two_words {F G : List Int} (sF : Snd F) (sG : Snd G) {j : Nat} (h0 : 1 ≤ j) (h1 : j ≤ 63) (h : ∀ k, k < 64 → k ≠ 0 → k ≠ j → gw G k = gw F k) : ∀ k, k < 64 → gw G k = gw F k := by
  have wd : ∀ k, 1 ≤ k → k ≤ 63 → gw G k % 2048 = gw F k % 2048 → gw G k = gw F k := fun k a b c =>
    same_word (sG.fr.bd _).1 (sG.narrow _ (by omega)) (sF.fr.bd _).1 (sF.narrow _ (by omega)) (sG.odd k a b) (sF.odd k a b) c
  have hj : j ≤ 61 → gw G j = gw F j := by
    intro hj
    refine wd j h0 h1 ?_
    by_cases e : j = 61
    · subst e
      rw [sG.sum, sF.sum]
      exact sumI_cong fun k a b => h k (by omega) (by omega) (by omega)
    · have s := sumI_diff (F := F) (G := G) (j := j) (fun k a b c => h k (by omega) (by omega) a) h0 (by omega)
      rw [← sF.sum, ← sG.sum, h 61 (by omega) (by omega) (by omega)] at s
      have z := xorI_fix (xorI_nonneg _ _) s.symm
      exact (xorI_eq_zero (by omega) (by omega) z).symm
  have num : numI G = numI F := by
    apply numI_cong
    · by_cases e : j = 1
      · subst e; rw [hj (by omega)]
      · rw [h 1 (by omega) (by omega) (by omega)]
    · by_cases e : j = 2
      · subst e; rw [hj (by omega)]
      · rw [h 2 (by omega) (by omega) (by omega)]
  have w0 : gw G 0 = gw F 0 := by rw [sG.sync, sF.sync, num]
  intro k hk
  by_cases e0 : k = 0
  · subst e0; exact w0
  · by_cases e : k = j
    · subst e
      rcases Nat.lt_or_ge 61 k with hk' | hk'
      · have c := chk_cong' sF.fr sG.fr fun m hm => by
          by_cases m0 : m = 0
          · subst m0; exact w0
          · exact h m (by omega) m0 (by omega)
        have : k = 62 ∨ k = 63 := by omega
        rcases this with rfl | rfl
        · rw [sG.hi, sF.hi, c.1]
        · rw [sG.lo, sF.lo, c.2]
      · exact hj hk'
    · exact h k hk e0 e
theorem one_word {F G : List Int} (sF : Snd F) (sG : Snd G) {j : Nat} (h1 : j ≤ 63) (h : ∀ k, k < 64 → k ≠ j → gw G k = gw F k) : G = F := by
  have l1 := sF.fr.len
  have l2 := sG.fr.len
  refine ext_gw (by omega) fun k hk => ?_
  by_cases e : j = 0
  · exact two_words sF sG (j := 1) (by omega) (by omega) (fun k a b c => h k a (by omega)) k (by omega)
  · exact two_words sF sG (j := j) (by omega) (by omega) (fun k a b c => h k a c) k (by omega)

/-! The only word that can fit at a place. -/
def fitI (F : List Int) (i : Nat) : Int :=
  if i = 0 then syncI (numI F) else if i = 61 then wordI (sumI F) else if i = 62 then hiI F else if i = 63 then loI F else wordI (xorI (xorI (sumI F) (gw F 61)) (gw F i))
theorem fitI_bd (F : List Int) (i : Nat) : 0 ≤ fitI F i ∧ fitI F i ≤ 4095 := by
  unfold fitI
  split
  · have := syncI_bd (numI F); omega
  · split
    · exact wordI_bd _
    · split
      · exact hi_bd F
      · split
        · exact lo_bd F
        · exact wordI_bd _
/-- .. as the reference reckons it. -/
theorem fit_ref (F : List Int) (hF : Fr F) (i : Nat) : wordI (xorI (xorI (gw F i % 2048) (sumI F)) (gw F 61 % 2048)) = wordI (xorI (xorI (sumI F) (gw F 61)) (gw F i)) := by
  apply wordI_cong
  have b1 := (hF.bd i).1
  have b2 := (hF.bd 61).1
  have b3 := sumI_bd F
  rw [xorI_mod _ _ (xorI_nonneg _ _) (by omega), xorI_mod _ _ (by omega) (by omega), xorI_mod _ _ (xorI_nonneg _ _) b1, xorI_mod _ _ (by omega) b2]
  rw [show gw F i % 2048 % 2048 = gw F i % 2048 by omega, show gw F 61 % 2048 % 2048 = gw F 61 % 2048 by omega, xorI_assoc, xorI_comm]
theorem fit_back {F : List Int} (sF : Snd F) (i : Nat) (hi : i < 64) (v : Int) (v0 : 0 ≤ v) (_v1 : v ≤ 4095) : fitI (F.set i v) i = gw F i := by
  have hl := sF.fr.len
  have g : ∀ k, gw (F.set i v) k = if k = i then v else gw F k := fun k => gw_set F i k v (by omega)
  have f62 := chkI_cong (F := F.set i v) (G := F) (by rw [List.length_set]; exact hl) hl
  unfold fitI
  by_cases e0 : i = 0
  · subst e0
    rw [if_pos rfl, sF.sync]
    congr 1
    exact numI_cong (by rw [g 1, if_neg (by omega)]) (by rw [g 2, if_neg (by omega)])
  · rw [if_neg e0]
    have fi0 := (sF.fr.bd i).1
    have fi1 := sF.narrow i hi
    have fo := sF.odd i (by omega) (by omega)
    by_cases e1 : i = 61
    · rw [if_pos e1]
      subst e1
      rw [← wordI_odd fi0 fi1 fo]
      refine wordI_cong _ _ ?_
      have e := sumI_cong (F := F.set 61 v) (G := F) fun k a b => by rw [g k, if_neg (by omega)]
      rw [sF.sum, e]
      have := sumI_bd F
      omega
    · rw [if_neg e1]
      by_cases e2 : i = 62
      · rw [if_pos e2]
        subst e2
        rw [sF.hi]
        unfold hiI
        rw [f62 fun k hk => by rw [g k, if_neg (by omega)]]
      · rw [if_neg e2]
        by_cases e3 : i = 63
        · rw [if_pos e3]
          subst e3
          rw [sF.lo]
          unfold loI
          rw [f62 fun k hk => by rw [g k, if_neg (by omega)]]
        · rw [if_neg e3, g 61, if_neg (fun h => e1 h.symm), g i, if_pos rfl]
          rw [← wordI_odd fi0 fi1 fo]
          refine wordI_cong _ _ ?_
          have s := sumI_diff (F := F) (G := F.set i v) (j := i) (fun k a _ _ => by rw [g k, if_neg a]) (by omega) (by omega)
          rw [g i, if_pos rfl] at s
          rw [s]
          have b2 := (sF.fr.bd 61).1
          have b3 := sumI_bd F
          rw [xorI_mod _ _ (xorI_nonneg _ _) v0, xorI_mod _ _ (xorI_nonneg _ _) b2, xorI_mod _ _ (by omega) (xorI_nonneg _ _), xorI_mod _ _ (by omega) (by omega), sF.sum,
            show sumI F % 2048 = sumI F by omega, show gw F i % 2048 % 2048 = gw F i % 2048 by omega, show v % 2048 % 2048 = v % 2048 by omega]
          rw [xorI_comm (xorI (sumI F) _) (sumI F), xorI_cancel _ (xorI_nonneg _ _), xorI_assoc, xorI_self, xorI_zero (by omega)]

/-! Mend: the places at which a fitting word makes a frame sound. -/
def mendW (G : List Int) (i : Nat) : List Int := G.set i (fitI G i)
theorem mendW_fr {G : List Int} (h : Fr G) (i : Nat) (hi : i < 64) : Fr (mendW G i) := by
  have := fitI_bd G i
  exact h.set i _ hi this.1 (by omega)
theorem mendW_narrow {G : List Int} (h : Fr G) (hn : Narrow G) (i : Nat) (hi : i < 64) : Narrow (mendW G i) := hn.set h.len i _ hi (fitI_bd G i).2
def placesTo (G : List Int) : Nat → List Int
  | 0 => []
  | k + 1 => if soundB (mendW G k) then placesTo G k ++ [(k : Int)] else placesTo G k
def mendTo (Z G : List Int) : Nat → List Int
  | 0 => Z
  | k + 1 => if soundB (mendW G k) then mendW G k else mendTo Z G k
theorem mendTo_len {Z G : List Int} (hZ : Z.length = 64) (hG : G.length = 64) : ∀ k, (mendTo Z G k).length = 64
  | 0 => hZ
  | k + 1 => by
    unfold mendTo; split
    · unfold mendW; rw [List.length_set]; exact hG
    · exact mendTo_len hZ hG k
theorem placesTo_len (G : List Int) : ∀ k, (placesTo G k).length ≤ k
  | 0 => Nat.le_refl _
  | k + 1 => by
    have := placesTo_len G k
    unfold placesTo; split
    · simp; omega
    · omega
theorem placesTo_mem {G : List Int} {i : Nat} (h : soundB (mendW G i) = true) : ∀ k, i < k → (i : Int) ∈ placesTo G k
  | k + 1, hk => by
    unfold placesTo
    by_cases e : i = k
    · subst e; rw [if_pos h]; simp
    · have := placesTo_mem h k (by omega)
      split
      · exact List.mem_append_left _ this
      · exact this
theorem mendTo_last {Z G : List Int} {i : Nat} : ∀ k, placesTo G k = [(i : Int)] → mendTo Z G k = mendW G i
  | 0, h => by simp [placesTo] at h
  | k + 1, h => by
    unfold placesTo at h
    unfold mendTo
    split at h
    · rename_i hs
      rw [if_pos hs]
      have : placesTo G k = [] ∧ (k : Int) = i := by
        cases hp : placesTo G k with
        | nil => rw [hp] at h; simpa using h
        | cons a r => rw [hp] at h; have := congrArg List.length h; simp at this
      have e : k = i := by omega
      rw [e]
    · rename_i hs
      rw [if_neg hs]
      exact mendTo_last k h
/-- Does Mend find the frame? -/
def mendB (G : List Int) : Bool := (placesTo G 64).length == 1
theorem mend_spoilt {Z F : List Int} (sF : Snd F) (i : Nat) (hi : i < 64) (v : Int) (v0 : 0 ≤ v) (v1 : v ≤ 4095) (h : (placesTo (F.set i v) 64).length = 1) : mendTo Z (F.set i v) 64 = F ∧ placesTo (F.set i v) 64 = [(i : Int)] := by
  have hl := sF.fr.len
  have e : mendW (F.set i v) i = F := by
    unfold mendW
    rw [fit_back sF i hi v v0 v1, List.set_set]
    refine ext_gw (by simp) fun k _ => ?_
    rw [gw_set _ _ _ _ (by omega)]
    split
    · rename_i e; subst e; rfl
    · rfl
  have s : soundB (mendW (F.set i v) i) = true := by
    rw [e, soundB_true]
    unfold syncOk sumOk chkOk hiOk loOk
    rw [sF.sync.symm, sF.sum, sF.hi, sF.lo]
    simp
    exact (parOk_true F 63).2 sF.odd
  have m := placesTo_mem s 64 hi
  obtain ⟨x, hx⟩ := List.length_eq_one_iff.1 h
  rw [hx] at m
  have : (i : Int) = x := by simpa using m
  subst this
  exact ⟨by rw [mendTo_last 64 hx, e], hx⟩

/-! Changed bits. -/
theorem pop_flip : ∀ (f r x : Nat), r < f → x / 2 ^ r % 2 = 0 → pop f (x ^^^ 2 ^ r) = pop f x + 1
  | f + 1, 0, x, _, h => by
    simp only [Nat.pow_zero, Nat.div_one] at h
    have e : x ^^^ 1 = x + 1 := by
      have := twice_xor (x / 2) 1 (by omega)
      rw [show x / 2 * 2 = x by omega] at this
      exact this.symm
    simp only [Nat.pow_zero, pop]
    rw [e, show (x + 1) / 2 = x / 2 by omega, h]
    omega
  | f + 1, r + 1, x, hr, h => by
    simp only [pop]
    have e1 : (x ^^^ 2 ^ (r + 1)) % 2 = x % 2 := by
      have := Nat.xor_mod_two_pow (a := x) (b := 2 ^ (r + 1)) (n := 1)
      rw [Nat.pow_one] at this
      rw [this, Nat.pow_succ, Nat.mul_mod_left]
      simp
    have e2 : (x ^^^ 2 ^ (r + 1)) / 2 = (x / 2) ^^^ 2 ^ r := by
      have := Nat.xor_div_two_pow (a := x) (b := 2 ^ (r + 1)) (n := 1)
      rw [Nat.pow_one] at this
      rw [this, Nat.pow_succ, Nat.mul_div_cancel _ (by decide)]
    rw [e1, e2, pop_flip f r (x / 2) (by omega) (by rw [Nat.div_div_eq_div_mul, ← Nat.pow_succ']; exact h)]
    omega
theorem pop_xor_mod2 : ∀ f a b : Nat, pop f (a ^^^ b) % 2 = (pop f a + pop f b) % 2
  | 0, _, _ => rfl
  | f + 1, a, b => by
    simp only [pop]
    have ih := pop_xor_mod2 f (a / 2) (b / 2)
    have e1 : (a ^^^ b) / 2 = (a / 2) ^^^ (b / 2) := by
      have := Nat.xor_div_two_pow (a := a) (b := b) (n := 1); simpa using this
    have e2 : (a ^^^ b) % 2 = (a + b) % 2 := by
      have := Nat.xor_mod_two_pow (a := a) (b := b) (n := 1)
      rw [Nat.pow_one] at this
      rw [this]
      have ha : a % 2 = 0 ∨ a % 2 = 1 := by omega
      have hb : b % 2 = 0 ∨ b % 2 = 1 := by omega
      rcases ha with ha | ha <;> rcases hb with hb | hb <;> rw [ha, hb] <;> simp <;> omega
    rw [e1, e2]
    omega
theorem dx_even {F G : List Int} {k : Nat} (hF : oddI (gw F k) = true) (hG : oddI (gw G k) = true) : dx F G k % 2 = 0 := by
  unfold oddI at hF hG
  simp only [beq_iff_eq] at hF hG
  unfold dx xorI
  unfold onesI ones at *
  rw [Int.toNat_natCast]
  have := pop_xor_mod2 16 (gw F k).toNat (gw G k).toNat
  omega
theorem dTo_one (F G : List Int) (i : Nat) : ∀ k, i < k → dx F G i ≤ dTo F G k
  | k + 1, h => by
    have a := (dx_bd F G k).1
    have b := (dTo_bd F G k).1
    rw [dTo]
    by_cases e : i = k
    · subst e; omega
    · have := dTo_one F G i k (by omega); omega
theorem dTo_pair (F G : List Int) (i j : Nat) (hij : i < j) : ∀ k, j < k → dx F G i + dx F G j ≤ dTo F G k
  | k + 1, h => by
    have a := (dx_bd F G k).1
    rw [dTo]
    by_cases e : j = k
    · subst e; have := dTo_one F G i j hij; omega
    · have := dTo_pair F G i j hij k (by omega); omega
/-- Sound frames with at most three different bits are one. -/
theorem three_bits {F G : List Int} (sF : Snd F) (sG : Snd G) (h : distI F G ≤ 3) : distI F G = 0 := by
  have ev : ∀ k, 1 ≤ k → k ≤ 63 → dx F G k % 2 = 0 := fun k a b => dx_even (sF.odd k a b) (sG.odd k a b)
  have same : ∀ k, k < 64 → gw G k = gw F k := by
    by_cases hj : ∃ j, 1 ≤ j ∧ j ≤ 63 ∧ dx F G j ≠ 0
    · obtain ⟨j, j0, j1, hj⟩ := hj
      have bj := dx_bd F G j
      have ej := ev j j0 j1
      refine two_words sF sG j0 j1 fun k hk k0 kj => ?_
      have bk := dx_bd F G k
      have ek := ev k (by omega) (by omega)
      have : dx F G k = 0 := by
        unfold distI at h
        rcases Nat.lt_or_ge k j with c | c
        · have := dTo_pair F G k j c 64 (by omega); omega
        · have := dTo_pair F G j k (by omega) 64 (by omega); omega
      exact ((dx_zero sF.fr sG.fr k).1 this).symm
    · refine two_words sF sG (j := 1) (by omega) (by omega) fun k hk k0 _ => ?_
      have : dx F G k = 0 := Classical.byContradiction fun e => hj ⟨k, by omega, by omega, e⟩
      exact ((dx_zero sF.fr sG.fr k).1 this).symm
  unfold distI
  exact (dTo_zero sF.fr sG.fr 64).2 fun j hj => (same j hj).symm
/-- The frame behind the first k changed bits. -/
def flipTo (F B : List Int) : Nat → List Int
  | 0 => F
  | k + 1 => (flipTo F B k).set (gw B k / 12).toNat (xorI (gw (flipTo F B k) (gw B k / 12).toNat) (2 ^ (gw B k % 12).toNat))
/-- Are the first k numbers places of bits, and all different? -/
def PlacesOk (B : List Int) (k : Nat) : Prop := (∀ j, j < k → 0 ≤ gw B j ∧ gw B j < 768) ∧ ∀ i j, i < j → j < k → gw B i ≠ gw B j
theorem flipTo_fr {F B : List Int} (hF : Fr F) (hn : Narrow F) : ∀ k, PlacesOk B k → Fr (flipTo F B k) ∧ Narrow (flipTo F B k)
  | 0, _ => ⟨hF, hn⟩
  | k + 1, h => by
    obtain ⟨f, n⟩ := flipTo_fr hF hn k ⟨fun j hj => h.1 j (by omega), fun i j a b => h.2 i j a (by omega)⟩
    have hb := h.1 k (by omega)
    have hq : (gw B k / 12).toNat < 64 := by omega
    have x := xorI_bd 12 (gw (flipTo F B k) (gw B k / 12).toNat) (2 ^ (gw B k % 12).toNat) (by have := n _ hq; omega) (by
      have : (gw B k % 12).toNat < 12 := by omega
      have : (2 : Int) ^ (gw B k % 12).toNat < 2 ^ 12 := by
        have := Nat.pow_lt_pow_right (a := 2) (by decide) this
        exact_mod_cast this
      exact this)
    exact ⟨f.set _ _ hq x.1 (by omega), n.set f.len _ _ hq (by omega)⟩
/-- Bit r of the difference in word q is set exactly if its place is among the first k. -/
theorem flipTo_bits {F B : List Int} (hF : Fr F) (hn : Narrow F) : ∀ k, PlacesOk B k → ∀ q r : Nat, q < 64 → r < 12 → ((∀ j, j < k → gw B j ≠ 12 * q + r) → (xorI (gw F q) (gw (flipTo F B k) q)).toNat / 2 ^ r % 2 = 0)
  | 0, _, q, r, _, _, _ => by unfold flipTo; rw [xorI_self]; simp
  | k + 1, h, q, r, hq, hr, hne => by
    have h' : PlacesOk B k := ⟨fun j hj => h.1 j (by omega), fun i j a b => h.2 i j a (by omega)⟩
    have ih := flipTo_bits hF hn k h' q r hq hr fun j hj => hne j (by omega)
    obtain ⟨f, _⟩ := flipTo_fr hF hn k h'
    have hb := h.1 k (by omega)
    have hk := hne k (by omega)
    unfold flipTo
    rw [gw_set _ _ _ _ (by rw [f.len]; omega)]
    by_cases e : q = (gw B k / 12).toNat
    · rw [if_pos e, ← e, ← xorI_assoc]
      generalize xorI (gw F q) (gw (flipTo F B k) q) = x at ih
      have hrk : r ≠ (gw B k % 12).toNat := by omega
      generalize (gw B k % 12).toNat = s at hrk
      unfold xorI
      have e2 : ((2 : Int) ^ s).toNat = 2 ^ s := by
        have : ((2 : Int) ^ s) = ((2 ^ s : Nat) : Int) := by push_cast; rfl
        rw [this, Int.toNat_natCast]
      rw [Int.toNat_natCast, e2]
      have t := Nat.testBit_xor x.toNat (2 ^ s) r
      rw [Nat.testBit_two_pow_of_ne (Ne.symm hrk)] at t
      rw [Nat.testBit_eq_decide_div_mod_eq, Nat.testBit_eq_decide_div_mod_eq] at t
      rw [ih] at t
      simp at t
      omega
    · rw [if_neg e]; exact ih
theorem dTo_set (F G : List Int) (q : Nat) (v : Int) (hq : q < G.length) : ∀ k, dTo F (G.set q v) k = dTo F G k + if q < k then onesI (xorI (gw F q) v) - dx F G q else 0
  | 0 => by rw [if_neg (by omega), dTo, dTo]; rfl
  | k + 1 => by
    rw [dTo, dTo, dTo_set F G q v hq k]
    unfold dx
    rw [gw_set _ _ _ _ hq]
    by_cases e : k = q
    · subst e; rw [if_pos rfl, if_neg (by omega), if_pos (by omega)]; omega
    · rw [if_neg e]
      by_cases c : q < k
      · rw [if_pos c, if_pos (by omega)]; omega
      · rw [if_neg c, if_neg (by omega)]; omega
theorem flip_dist {F B : List Int} (hF : Fr F) (hn : Narrow F) : ∀ k, PlacesOk B k → distI F (flipTo F B k) = k
  | 0, _ => by unfold distI flipTo; exact (dTo_zero hF hF 64).2 fun _ _ => rfl
  | k + 1, h => by
    have h' : PlacesOk B k := ⟨fun j hj => h.1 j (by omega), fun i j a b => h.2 i j a (by omega)⟩
    have ih := flip_dist hF hn k h'
    obtain ⟨f, n⟩ := flipTo_fr hF hn k h'
    have hb := h.1 k (by omega)
    have hq : (gw B k / 12).toNat < 64 := by omega
    have hr : (gw B k % 12).toNat < 12 := by omega
    have bt := flipTo_bits hF hn k h' _ _ hq hr fun j hj => by have := h.2 j k hj (by omega); omega
    unfold distI at *
    unfold flipTo
    rw [dTo_set _ _ _ _ (by rw [f.len]; exact hq), ih, if_pos hq, ← xorI_assoc]
    unfold dx
    generalize xorI (gw F (gw B k / 12).toNat) (gw (flipTo F B k) (gw B k / 12).toNat) = x at bt
    have e2 : ((2 : Int) ^ (gw B k % 12).toNat).toNat = 2 ^ (gw B k % 12).toNat := by
      have : ((2 : Int) ^ (gw B k % 12).toNat) = ((2 ^ (gw B k % 12).toNat : Nat) : Int) := by push_cast; rfl
      rw [this, Int.toNat_natCast]
    have p := pop_flip 16 (gw B k % 12).toNat x.toNat (by omega) bt
    unfold onesI ones xorI
    rw [Int.toNat_natCast, e2, p]
    omega
/-- At most three changed bits, and at least one, are noticed. -/
theorem flips_noticed {F B : List Int} (sF : Snd F) (k : Nat) (h : PlacesOk B k) (hk : k ≤ 3) (h0 : 0 < k) : soundB (flipTo F B k) = false := by
  cases hs : soundB (flipTo F B k) with
  | false => rfl
  | true =>
    obtain ⟨f, n⟩ := flipTo_fr sF.fr sF.narrow k h
    have d := flip_dist sF.fr sF.narrow k h
    have := three_bits sF (snd_of f n hs) (by omega)
    omega
end Go.Proofs.YtemgjiajpgepiaaDoor
