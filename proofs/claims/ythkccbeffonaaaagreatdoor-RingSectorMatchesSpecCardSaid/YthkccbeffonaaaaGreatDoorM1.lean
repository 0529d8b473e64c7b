/-
  Texts that this claim leans on, merged: Pure, Base, Leaf, Frame, Seal, Ref.
-/
import Derived.Lib.BitFns
import Derived.Test.YthkccbeffonaaaaGreatDoorProg
import Derived.WalkKit
import Derived.WalkSpells
import Derived.WalkLawsBesides
import Derived.BigQuiet
import Derived.Deep.QuietTactic
import Derived.Deep.MidRow
import Derived.Outline
import Derived.Lib.Hide
import Derived.Deep.WholeRow

/-
  Plain mathematics of chapter 1: ones, parities, the remainder of the check (the program's division by words and the reference's by bits have one remainder), frames as lists of numbers. Nothing of the program stands here.
-/
namespace Go.Proofs.YthkccbeffonaaaaGreatDoor

/-- The number of ones among the lowest bits. -/
def pop : Nat → Nat → Nat
  | 0, _ => 0
  | f + 1, n => n % 2 + pop f (n / 2)

theorem pop_zero : ∀ f, pop f 0 = 0
  | 0 => rfl
  | f + 1 => by simp [pop, pop_zero f]

theorem pop_add (f g n : Nat) : pop (f + g) n = pop f n + pop g (n / 2 ^ f) := by
  induction f generalizing n with
  | zero => simp [pop]
  | succ f ih =>
    rw [show f + 1 + g = (f + g) + 1 by omega]
    simp only [pop]
    rw [ih, Nat.pow_succ', Nat.div_div_eq_div_mul]
    omega

theorem pop_more (f n : Nat) (h : n < 2 ^ f) : ∀ g, pop (f + g) n = pop f n := by
  intro g
  rw [pop_add, Nat.div_eq_of_lt h, pop_zero]; rfl

theorem pop_mod (f n : Nat) : pop f (n % 2 ^ f) = pop f n := by
  induction f generalizing n with
  | zero => rfl
  | succ f ih =>
    simp only [pop]
    rw [← ih (n / 2)]
    congr 1
    · rw [Nat.pow_succ', Nat.mod_mul_right_mod]
    · rw [Nat.pow_succ', Nat.mod_mul_right_div_self]

/-- The number of ones of a number of 16 bits. -/
def ones (n : Nat) : Nat := pop 16 n
def odd (n : Nat) : Bool := ones n % 2 == 1

theorem ones_split (n : Nat) : ones n = pop 8 (n / 256) + pop 8 (n % 256) := by
  unfold ones
  rw [show (16 : Nat) = 8 + 8 from rfl, pop_add, ← pop_mod 8 n]
  exact Nat.add_comm _ _

/-- The word with some data. -/
def word (d : Nat) : Nat := if odd d then d else d + 2048

def shB (x : BitVec 22) : BitVec 22 := (x <<< 1) ^^^ (if x.msb then 0x20000F#22 else 0#22)

theorem shB_xor (a b : BitVec 22) : shB (a ^^^ b) = shB a ^^^ shB b := by
  unfold shB
  rw [BitVec.shiftLeft_xor_distrib, BitVec.msb_xor]
  have h : ∀ c x y : BitVec 22, (x ^^^ c) ^^^ (y ^^^ c) = x ^^^ y := by
    intro c x y
    rw [BitVec.xor_assoc, ← BitVec.xor_assoc c y c, BitVec.xor_comm c y, BitVec.xor_assoc y c c, BitVec.xor_self, BitVec.xor_zero]
  cases a.msb <;> cases b.msb <;> simp
  · ac_rfl
  · ac_rfl
  · exact (h _ _ _).symm

def itB : Nat → BitVec 22 → BitVec 22
  | 0, x => x
  | n + 1, x => itB n (shB x)

theorem itB_xor : ∀ (n : Nat) (a b : BitVec 22), itB n (a ^^^ b) = itB n a ^^^ itB n b
  | 0, _, _ => rfl
  | n + 1, a, b => by simp only [itB]; rw [shB_xor, itB_xor n]

theorem itB_add (m n : Nat) (a : BitVec 22) : itB (m + n) a = itB n (itB m a) := by
  induction m generalizing a with
  | zero => simp [itB]
  | succ m ih => rw [show m + 1 + n = (m + n) + 1 by omega]; simp only [itB]; exact ih _

theorem itB_zero : ∀ n, itB n 0#22 = 0#22
  | 0 => rfl
  | n + 1 => by simp only [itB]; rw [show shB 0#22 = 0#22 from by decide]; exact itB_zero n

theorem xor_lt_top (n a b : Nat) (ha : 2 ^ n ≤ a) (ha' : a < 2 ^ (n + 1)) (hb : 2 ^ n ≤ b) (hb' : b < 2 ^ (n + 1)) : a ^^^ b < 2 ^ n := by
  have h : (a ^^^ b) / 2 ^ n = 0 := by
    rw [Nat.xor_div_two_pow]
    have h1 : a / 2 ^ n = 1 := by
      apply Nat.div_eq_of_lt_le <;> simp <;> omega
    have h2 : b / 2 ^ n = 1 := by
      apply Nat.div_eq_of_lt_le <;> simp <;> omega
    rw [h1, h2]; rfl
  have := Nat.div_eq_zero_iff.1 h
  have hp : 0 < 2 ^ n := Nat.two_pow_pos n
  omega

/-- One step of the division as the program takes it: the bit that leaves at the top is one of the polynomial too. -/
theorem sh_nat (x : BitVec 22) : (x.toNat * 2) ^^^ (x.toNat / 2097152 * 6291471) = (shB x).toNat := by
  have hx := x.isLt
  have hlt : (x.toNat * 2) ^^^ (x.toNat / 2097152 * 6291471) < 2 ^ 22 := by
    by_cases h : x.toNat < 2097152
    · rw [Nat.div_eq_of_lt h]; simp; omega
    · rw [show x.toNat / 2097152 = 1 by omega]
      exact xor_lt_top 22 _ _ (by omega) (by omega) (by decide) (by decide)
  rw [← Nat.mod_eq_of_lt hlt, Nat.xor_mod_two_pow]
  unfold shB
  rw [BitVec.toNat_xor, BitVec.toNat_shiftLeft, BitVec.msb_eq_decide]
  congr 1
  · rw [Nat.shiftLeft_eq]
  by_cases h : x.toNat < 2097152
  · rw [Nat.div_eq_of_lt h, if_neg (by simp; omega)]; rfl
  · rw [show x.toNat / 2097152 = 1 by omega, if_pos (by simp; omega)]; rfl

theorem twice_xor (a b : Nat) (hb : b < 2) : a * 2 + b = (a * 2) ^^^ b := by
  have h0 : a * 2 ^^^ 1 = a * 2 + 1 := by
    apply Nat.eq_of_testBit_eq; intro i
    rw [Nat.testBit_xor]
    cases i with
    | zero => simp [Nat.testBit_zero, Nat.add_mod]
    | succ i =>
      rw [Nat.testBit_succ, Nat.testBit_succ, Nat.testBit_succ]
      rw [show a * 2 / 2 = a by omega, show (a * 2 + 1) / 2 = a by omega]; simp
  have : b = 0 ∨ b = 1 := by omega
  rcases this with rfl | rfl
  · simp
  · exact h0.symm

/-- One step of the division as the reference takes it. -/
def rstep (r b : Nat) : Nat := if 4194304 ≤ r * 2 + b then (r * 2 + b) ^^^ 6291471 else r * 2 + b

theorem rstep_eq (x : BitVec 22) (b : Nat) (hb : b < 2) : rstep x.toNat b = (shB x ^^^ BitVec.ofNat 22 b).toNat := by
  have hx := x.isLt
  rw [BitVec.toNat_xor, ← sh_nat, BitVec.toNat_ofNat, Nat.mod_eq_of_lt (show b < 2 ^ 22 by omega)]
  unfold rstep
  by_cases h : x.toNat < 2097152
  · rw [if_neg (by omega), Nat.div_eq_of_lt h, twice_xor _ _ hb]; simp
  · rw [if_pos (by omega), show x.toNat / 2097152 = 1 by omega, twice_xor _ _ hb]
    simp only [Nat.one_mul]
    rw [Nat.xor_assoc, Nat.xor_assoc, Nat.xor_comm b]

/-- The remainder of some words. -/
def crcB : List Nat → BitVec 22 → BitVec 22
  | [], r => r
  | w :: l, r => crcB l (itB 12 (r ^^^ BitVec.ofNat 22 (w * 1024)))

theorem crcB_append : ∀ (l m : List Nat) (r : BitVec 22), crcB (l ++ m) r = crcB m (crcB l r)
  | [], _, _ => rfl
  | w :: l, m, r => by simp only [List.cons_append, crcB]; exact crcB_append l m _

def crc (l : List Nat) : Nat := (crcB l 0#22).toNat

theorem crc_lt (l : List Nat) : crc l < 4194304 := (crcB l 0#22).isLt

/-- The bits of a word from the highest one. -/
def rword (w : Nat) (r : Nat) : Nat → Nat
  | 0 => r
  | k + 1 => rstep (rword w r k) (w / 2 ^ (11 - k) % 2)

/-- The register of the reference behind k bits of a word: the bits so far. -/
theorem rword_eq (w : Nat) (hw : w < 4096) (x : BitVec 22) : ∀ k, k ≤ 12 → rword w x.toNat k = (itB k x ^^^ BitVec.ofNat 22 (w / 2 ^ (12 - k))).toNat := by
  intro k
  induction k with
  | zero =>
    intro _
    simp [rword, itB, Nat.div_eq_of_lt hw]
  | succ k ih =>
    intro hk
    simp only [rword]
    rw [ih (by omega), rstep_eq _ _ (by omega), shB_xor]
    rw [itB_add k 1 x]
    simp only [itB]
    rw [BitVec.xor_assoc]
    congr 2
    have hq : w / 2 ^ (12 - k) < 2097152 := by
      have : w / 2 ^ (12 - k) ≤ w := Nat.div_le_self _ _
      omega
    apply BitVec.eq_of_toNat_eq
    rw [BitVec.toNat_xor, ← sh_nat, BitVec.toNat_ofNat, BitVec.toNat_ofNat, BitVec.toNat_ofNat]
    have e : w / 2 ^ (12 - (k + 1)) = w / 2 ^ (12 - k) * 2 + w / 2 ^ (11 - k) % 2 := by
      rw [show 12 - (k + 1) = 11 - k by omega, show 12 - k = (11 - k) + 1 by omega, Nat.pow_succ, ← Nat.div_div_eq_div_mul]
      omega
    have hq2 : w / 2 ^ (12 - (k + 1)) < 4194304 := by
      have : w / 2 ^ (12 - (k + 1)) ≤ w := Nat.div_le_self _ _
      omega
    rw [Nat.mod_eq_of_lt (show w / 2 ^ (12 - k) < 2 ^ 22 by omega), Nat.mod_eq_of_lt hq2, e, Nat.mod_eq_of_lt (show w / 2 ^ (11 - k) % 2 < 2 ^ 22 by omega), Nat.div_eq_of_lt hq, twice_xor _ _ (by omega)]
    simp

theorem it_small : ∀ (n : Nat) (w : Nat), w * 2 ^ n < 4194304 → itB n (BitVec.ofNat 22 w) = BitVec.ofNat 22 (w * 2 ^ n)
  | 0, w, _ => by simp [itB]
  | n + 1, w, h => by
    have h1 : w * 2 * 2 ^ n < 4194304 := by rw [Nat.mul_assoc, ← Nat.pow_succ']; exact h
    have h2 : w * 2 < 4194304 := by
      have : w * 2 ≤ w * 2 * 2 ^ n := Nat.le_mul_of_pos_right _ (Nat.two_pow_pos n)
      omega
    simp only [itB]
    have e : shB (BitVec.ofNat 22 w) = BitVec.ofNat 22 (w * 2) := by
      apply BitVec.eq_of_toNat_eq
      rw [← sh_nat, BitVec.toNat_ofNat, BitVec.toNat_ofNat, Nat.mod_eq_of_lt (show w < 2 ^ 22 by omega), Nat.mod_eq_of_lt (show w * 2 < 2 ^ 22 by omega), Nat.div_eq_of_lt (by omega)]
      simp
    rw [e, it_small n _ h1, Nat.pow_succ', Nat.mul_assoc]

/-- The register of the reference behind some words. -/
def rwords : List Nat → Nat → Nat
  | [], r => r
  | w :: l, r => rwords l (rword w r 12)

def rB : List Nat → BitVec 22 → BitVec 22
  | [], r => r
  | w :: l, r => rB l (itB 12 r ^^^ BitVec.ofNat 22 w)

theorem rwords_eq : ∀ (l : List Nat) (x : BitVec 22), (∀ w ∈ l, w < 4096) → rwords l x.toNat = (rB l x).toNat
  | [], _, _ => rfl
  | w :: l, x, h => by
    simp only [rwords, rB]
    rw [rword_eq w (h w (by simp)) x 12 (by omega)]
    simp only [Nat.sub_self, Nat.pow_zero, Nat.div_one]
    exact rwords_eq l _ fun v hv => h v (by simp [hv])

theorem rB_crcB : ∀ (l : List Nat) (x : BitVec 22), (∀ w ∈ l, w < 4096) → itB 22 (rB l x) = crcB l (itB 22 x)
  | [], _, _ => rfl
  | w :: l, x, h => by
    have hw := h w (by simp)
    simp only [rB, crcB]
    rw [rB_crcB l _ fun v hv => h v (by simp [hv])]
    congr 1
    rw [itB_xor, itB_xor, ← itB_add, Nat.add_comm 12 22, itB_add 22 12]
    congr 1
    have e := itB_add 10 12 (BitVec.ofNat 22 w)
    rw [it_small 10 w (by omega)] at e
    exact e

/-- Zero bits at the end. -/
def rzeros (r : Nat) : Nat → Nat
  | 0 => r
  | k + 1 => rstep (rzeros r k) 0

theorem rzeros_eq (x : BitVec 22) : ∀ k, rzeros x.toNat k = (itB k x).toNat
  | 0 => rfl
  | k + 1 => by
    simp only [rzeros]
    rw [rzeros_eq x k, rstep_eq _ 0 (by omega), itB_add k 1]
    simp [itB]

/-- Both divisions have the same remainder. -/
theorem rzeros_crc (l : List Nat) (h : ∀ w ∈ l, w < 4096) : rzeros (rwords l 0) 22 = crc l := by
  have e0 : (0 : Nat) = (0#22).toNat := rfl
  rw [e0, rwords_eq l _ h, rzeros_eq, rB_crcB l _ h, itB_zero]
  rfl


/-! Numbers as the walks write them. -/
def onesI (a : Int) : Int := (ones a.toNat : Int)
theorem pop_le : ∀ f n, pop f n ≤ f
  | 0, _ => Nat.le_refl _
  | f + 1, n => by simp only [pop]; have := pop_le f (n / 2); omega
theorem onesI_bd (a : Int) : 0 ≤ onesI a ∧ onesI a ≤ 16 := by
  unfold onesI ones; have := pop_le 16 a.toNat; omega
theorem popAux_pop : ∀ f n, Lib.popAux f n = pop f n
  | 0, _ => rfl
  | f + 1, n => by simp only [Lib.popAux, pop]; rw [popAux_pop f]
theorem pop8_pop (b : Int) (h0 : 0 ≤ b) (h1 : b ≤ 255) : Lib.pop8 b = (pop 8 b.toNat : Int) := by
  have e := Lib.pop8_eq ⟨b.toNat, by omega⟩
  simp only [Int.toNat_of_nonneg h0] at e
  rw [e]
  unfold Lib.onesCount
  rw [popAux_pop, show (64 : Nat) = 8 + 56 from rfl, pop_more 8 _ (by omega)]
theorem pop8_sum (a : Int) (h0 : 0 ≤ a) (h1 : a ≤ 65535) : (Lib.pop8 (a / 256) + Lib.pop8 (a % 256)) % 256 = onesI a := by
  rw [pop8_pop _ (by omega) (by omega), pop8_pop _ (by omega) (by omega)]
  unfold onesI
  rw [ones_split, show (a / 256).toNat = a.toNat / 256 by omega, show (a % 256).toNat = a.toNat % 256 by omega]
  have := pop_le 8 (a.toNat / 256)
  have := pop_le 8 (a.toNat % 256)
  omega
def oddI (a : Int) : Bool := onesI a % 2 == 1
theorem oddI_eq (a : Int) : (onesI a % 2 == 1) = oddI a := rfl
theorem onesI_step (m : Int) (h0 : 0 ≤ m) (h1 : m ≤ 65535) : onesI m = m % 2 + onesI (m / 2) := by
  unfold onesI ones
  rw [show (m / 2).toNat = m.toNat / 2 by omega]
  have e : pop 16 (m.toNat / 2) = pop 15 (m.toNat / 2) := pop_more 15 _ (by omega) 1
  rw [e]
  show ((m.toNat % 2 + pop 15 (m.toNat / 2) : Nat) : Int) = _
  omega
theorem onesI_zero : onesI 0 = 0 := rfl
def wordI (a : Int) : Int := if oddI (a % 2048) then a % 2048 else a % 2048 + 2048
theorem wordI_bd (a : Int) : 0 ≤ wordI a ∧ wordI a ≤ 4095 := by unfold wordI; split <;> omega
theorem wordI_mod (a : Int) : wordI a % 2048 = a % 2048 := by unfold wordI; split <;> omega
theorem wordI_cong (a b : Int) (h : a % 2048 = b % 2048) : wordI a = wordI b := by unfold wordI; rw [h]
def syncT (k : Nat) : Int := if k = 0 then 583 else if k = 1 then 1464 else if k = 2 then 2631 else 3512
def syncI (n : Int) : Int := syncT (n % 4).toNat
theorem syncI_bd (n : Int) : 583 ≤ syncI n ∧ syncI n ≤ 3512 := by
  unfold syncI syncT; split; omega; split; omega; split <;> omega
def xorI (a b : Int) : Int := ((a.toNat ^^^ b.toNat : Nat) : Int)
/-- The word k of a frame. -/
@[irreducible] def gw (F : List Int) (k : Nat) : Int := F.getD k 0
theorem gw_set (F : List Int) (i k : Nat) (v : Int) (h : i < F.length) : gw (F.set i v) k = if k = i then v else gw F k := by
  unfold gw
  by_cases e : k = i
  · subst e; simp [List.getD, h]
  · rw [if_neg e]; simp [List.getD, Ne.symm e]
def numI (F : List Int) : Int := gw F 1 % 2048 + gw F 2 % 2048 * 2048
theorem numI_bd (F : List Int) : 0 ≤ numI F ∧ numI F < 4194304 := by unfold numI; omega
/-- The exclusive or of the data of the words 1 to k. -/
def sumTo (F : List Int) : Nat → Int
  | 0 => 0
  | k + 1 => xorI (sumTo F k) (gw F (k + 1) % 2048)
def sumI (F : List Int) : Int := sumTo F 60
theorem xorI_bd (j : Nat) (a b : Int) (ha : a < 2 ^ j) (hb : b < 2 ^ j) : 0 ≤ xorI a b ∧ xorI a b < 2 ^ j := by
  unfold xorI
  have hp : (0 : Int) < 2 ^ j := Int.pow_pos (by decide)
  have h1 : a.toNat < 2 ^ j := by
    have : ((a.toNat : Nat) : Int) < ((2 ^ j : Nat) : Int) := by rw [Int.natCast_pow]; show (a.toNat : Int) < 2 ^ j; omega
    omega
  have h2 : b.toNat < 2 ^ j := by
    have : ((b.toNat : Nat) : Int) < ((2 ^ j : Nat) : Int) := by rw [Int.natCast_pow]; show (b.toNat : Int) < 2 ^ j; omega
    omega
  have h3 := Nat.xor_lt_two_pow h1 h2
  refine ⟨by omega, ?_⟩
  have : ((a.toNat ^^^ b.toNat : Nat) : Int) < ((2 ^ j : Nat) : Int) := by omega
  rwa [Int.natCast_pow] at this
theorem sumTo_bd (F : List Int) : ∀ k, 0 ≤ sumTo F k ∧ sumTo F k ≤ 2047
  | 0 => by simp [sumTo]
  | k + 1 => by
    have h := sumTo_bd F k
    have := xorI_bd 11 (sumTo F k) (gw F (k + 1) % 2048) (by omega) (by omega)
    simp only [sumTo]; omega
theorem sumI_bd (F : List Int) : 0 ≤ sumI F ∧ sumI F ≤ 2047 := sumTo_bd F 60

/-- A register of 22 bits as a number. -/
@[irreducible] def regI (x : BitVec 22) : Int := (x.toNat : Int)
theorem regI_bd (x : BitVec 22) : 0 ≤ regI x ∧ regI x < 4194304 := by unfold regI; have := x.isLt; omega
/-- The register behind k words. -/
def crcTo (F : List Int) (k : Nat) : BitVec 22 := crcB ((F.take k).map Int.toNat) 0#22
def mixW (x : BitVec 22) (a : Int) : BitVec 22 := x ^^^ BitVec.ofNat 22 (a.toNat * 1024)
theorem crcTo_succ (F : List Int) (k : Nat) (h : k < F.length) : crcTo F (k + 1) = itB 12 (mixW (crcTo F k) (gw F k)) := by
  unfold crcTo mixW
  rw [List.take_succ_eq_append_getElem h, List.map_append, crcB_append]
  simp [crcB, gw, List.getD, List.getElem?_eq_getElem h]
/-- Has a frame a word of more than 12 bits among the first k? -/
def wideTo (F : List Int) : Nat → Bool
  | 0 => false
  | k + 1 => wideTo F k || decide (4096 ≤ gw F k)
def wideB (F : List Int) : Bool := wideTo F 64
theorem wideTo_false (F : List Int) : ∀ k, wideTo F k = false ↔ ∀ j, j < k → gw F j ≤ 4095
  | 0 => by simp [wideTo]
  | k + 1 => by
    simp only [wideTo, Bool.or_eq_false_iff, wideTo_false F k, decide_eq_false_iff_not]
    constructor
    · rintro ⟨h1, h2⟩ j hj
      rcases Nat.lt_or_ge j k with h | h
      · exact h1 j h
      · obtain rfl : j = k := by omega
        omega
    · intro h
      exact ⟨fun j hj => h j (by omega), by have := h k (by omega); omega⟩
theorem wideTo_mono (F : List Int) (k m : Nat) (h : k ≤ m) (hk : wideTo F k = true) : wideTo F m = true := by
  cases hm : wideTo F m with
  | true => rfl
  | false =>
    have := (wideTo_false F k).2 fun j hj => (wideTo_false F m).1 hm j (by omega)
    rw [this] at hk; cases hk
def chkI (F : List Int) : Int := regI (crcTo F 62)
theorem regI_mix (x : BitVec 22) (a : Int) (h0 : 0 ≤ a) (h1 : a ≤ 4095) : xorI (regI x) (a * 1024) = regI (mixW x a) := by
  unfold xorI regI mixW
  rw [BitVec.toNat_xor, BitVec.toNat_ofNat, Nat.mod_eq_of_lt (by omega), show (a * 1024).toNat = a.toNat * 1024 by omega, Int.toNat_natCast]
theorem regI_sh (x : BitVec 22) : xorI (regI x * 2) (regI x / 2097152 * 6291471) = regI (shB x) := by
  unfold xorI regI
  have e1 : ((x.toNat : Int) * 2).toNat = x.toNat * 2 := by omega
  have e2 : ((x.toNat : Int) / 2097152 * 6291471).toNat = x.toNat / 2097152 * 6291471 := by omega
  rw [e1, e2, sh_nat]
theorem itB_succ (j : Nat) (x : BitVec 22) : itB (j + 1) x = shB (itB j x) := by
  rw [itB_add j 1]; rfl
/-! Check words, and sealing. -/
def hiI (F : List Int) : Int := wordI (chkI F / 2048)
def loI (F : List Int) : Int := wordI (chkI F % 2048)
def parTo (F : List Int) : Nat → List Int
  | 0 => F.set 0 (syncI (numI F))
  | k + 1 => (parTo F k).set (k + 1) (wordI (gw (parTo F k) (k + 1)))
def sumW (F : List Int) : List Int := F.set 61 (wordI (sumI F))
def chkW (F : List Int) : List Int := (F.set 62 (hiI F)).set 63 (loI F)
def sealI (F : List Int) : List Int := chkW (sumW (parTo F 60))
theorem parTo_len (F : List Int) : ∀ k, (parTo F k).length = F.length
  | 0 => by simp [parTo]
  | k + 1 => by simp [parTo, parTo_len F k]
theorem sealI_len (F : List Int) : (sealI F).length = F.length := by simp [sealI, chkW, sumW, parTo_len]
/-- A frame: 64 numbers of 16 bits. -/
structure Fr (F : List Int) : Prop where
  len : F.length = 64
  bd : ∀ k, 0 ≤ gw F k ∧ gw F k ≤ 65535
/-- .. of words of 12 bits. -/
def Narrow (F : List Int) : Prop := ∀ k, k < 64 → gw F k ≤ 4095
theorem Fr.set {F : List Int} (h : Fr F) (i : Nat) (v : Int) (hi : i < 64) (h0 : 0 ≤ v) (h1 : v ≤ 65535) : Fr (F.set i v) :=
  ⟨by simp [h.len], fun k => by rw [gw_set F i k v (by rw [h.len]; exact hi)]; split; exact ⟨h0, h1⟩; exact h.bd k⟩
theorem Narrow.set {F : List Int} (hl : F.length = 64) (h : Narrow F) (i : Nat) (v : Int) (hi : i < 64) (h1 : v ≤ 4095) : Narrow (F.set i v) := by
  intro k hk
  rw [gw_set F i k v (by omega)]
  split
  · exact h1
  · exact h k hk
theorem parTo_fr {F : List Int} (h : Fr F) : ∀ k, k ≤ 60 → Fr (parTo F k)
  | 0, _ => h.set 0 _ (by omega) (by have := syncI_bd (numI F); omega) (by have := syncI_bd (numI F); omega)
  | k + 1, hk => (parTo_fr h k (by omega)).set _ _ (by omega) (wordI_bd _).1 (by have := wordI_bd (gw (parTo F k) (k + 1)); omega)
theorem parTo_narrow {F : List Int} (h : Fr F) (hn : Narrow F) : ∀ k, k ≤ 60 → Narrow (parTo F k)
  | 0, _ => hn.set h.len 0 _ (by omega) (by have := syncI_bd (numI F); omega)
  | k + 1, hk => (parTo_narrow h hn k (by omega)).set (parTo_fr h k (by omega)).len _ _ (by omega) (wordI_bd _).2
theorem sumW_fr {F : List Int} (h : Fr F) : Fr (sumW F) := h.set 61 _ (by omega) (wordI_bd _).1 (by have := wordI_bd (sumI F); omega)
theorem sumW_narrow {F : List Int} (h : Fr F) (hn : Narrow F) : Narrow (sumW F) := hn.set h.len 61 _ (by omega) (wordI_bd _).2
theorem chkW_fr {F : List Int} (h : Fr F) : Fr (chkW F) := (h.set 62 (hiI F) (by omega) (wordI_bd _).1 (by have := wordI_bd (chkI F / 2048); unfold hiI; omega)).set 63 _ (by omega) (wordI_bd _).1 (by have := wordI_bd (chkI F % 2048); unfold loI; omega)
theorem chkW_narrow {F : List Int} (h : Fr F) (hn : Narrow F) : Narrow (chkW F) := (hn.set h.len 62 (hiI F) (by omega) (wordI_bd _).2).set (by simp [h.len]) 63 _ (by omega) (wordI_bd _).2
theorem sealI_fr {F : List Int} (h : Fr F) : Fr (sealI F) := chkW_fr (sumW_fr (parTo_fr h 60 (by omega)))
theorem sealI_narrow {F : List Int} (h : Fr F) (hn : Narrow F) : Narrow (sealI F) := chkW_narrow (sumW_fr (parTo_fr h 60 (by omega))) (sumW_narrow (parTo_fr h 60 (by omega)) (parTo_narrow h hn 60 (by omega)))
theorem chkI_bd (F : List Int) : 0 ≤ chkI F ∧ chkI F < 4194304 := regI_bd _
theorem wideB_false {F : List Int} : wideB F = false ↔ Narrow F := wideTo_false F 64
/-- What Seal hands back, and with which error. -/
def sealF (F Z : List Int) : List Int := if wideB F then Z else sealI F
def wideE (F : List Int) : Int := if wideB F then 9 else 0
def toldI (a : Int) : Bool := decide (a < 4096) && oddI a
/-! The reference's way of sealing. -/
theorem ext_gw {F G : List Int} (hl : F.length = G.length) (h : ∀ k, k < F.length → gw F k = gw G k) : F = G := by
  apply List.ext_getElem hl
  intro k h1 h2
  have := h k h1
  unfold gw at this
  simpa [List.getD, List.getElem?_eq_getElem h1, List.getElem?_eq_getElem h2] using this
def parRTo (F : List Int) : Nat → List Int
  | 0 => F
  | k + 1 => (parRTo F k).set (k + 1) (wordI (gw (parRTo F k) (k + 1)))
theorem parRTo_len (F : List Int) : ∀ k, (parRTo F k).length = F.length
  | 0 => rfl
  | k + 1 => by simp [parRTo, parRTo_len F k]
theorem gw_parTo (F : List Int) (hl : F.length = 64) : ∀ k, k ≤ 60 → ∀ j, gw (parTo F k) j = if j = 0 then syncI (numI F) else if j ≤ k then wordI (gw F j) else gw F j
  | 0, _, j => by
    simp only [parTo]
    rw [gw_set F 0 j _ (by omega)]
    by_cases h : j = 0
    · simp [h]
    · rw [if_neg h, if_neg h, if_neg (by omega)]
  | k + 1, hk, j => by
    simp only [parTo]
    rw [gw_set _ _ _ _ (by rw [parTo_len]; omega), gw_parTo F hl k (by omega) j, gw_parTo F hl k (by omega) (k + 1)]
    by_cases h : j = k + 1
    · subst h; simp [show ¬ (k + 1 ≤ k) by omega]
    · rw [if_neg h]
      by_cases h0 : j = 0
      · simp [h0]
      · rw [if_neg h0, if_neg h0]
        by_cases h1 : j ≤ k
        · rw [if_pos h1, if_pos (by omega)]
        · rw [if_neg h1, if_neg (by omega)]
theorem gw_parRTo (F : List Int) (hl : F.length = 64) : ∀ k, k ≤ 60 → ∀ j, gw (parRTo F k) j = if j = 0 then gw F 0 else if j ≤ k then wordI (gw F j) else gw F j
  | 0, _, j => by
    simp only [parRTo]
    by_cases h : j = 0
    · simp [h]
    · rw [if_neg h, if_neg (by omega)]
  | k + 1, hk, j => by
    simp only [parRTo]
    rw [gw_set _ _ _ _ (by rw [parRTo_len]; omega), gw_parRTo F hl k (by omega) j, gw_parRTo F hl k (by omega) (k + 1)]
    by_cases h : j = k + 1
    · subst h; simp [show ¬ (k + 1 ≤ k) by omega]
    · rw [if_neg h]
      by_cases h0 : j = 0
      · simp [h0]
      · rw [if_neg h0, if_neg h0]
        by_cases h1 : j ≤ k
        · rw [if_pos h1, if_pos (by omega)]
        · rw [if_neg h1, if_neg (by omega)]
def syncW (F : List Int) : List Int := F.set 0 (syncI (numI F))
def sealR (F : List Int) : List Int := chkW (sumW (syncW (parRTo F 60)))
theorem sealR_key (F : List Int) (hl : F.length = 64) : syncW (parRTo F 60) = parTo F 60 := by
  apply ext_gw
  · simp [syncW, parRTo_len, parTo_len]
  · intro k _
    unfold syncW
    rw [gw_set _ _ _ _ (by rw [parRTo_len]; omega), gw_parTo F hl 60 (by omega) k, gw_parRTo F hl 60 (by omega) k]
    have e : numI (parRTo F 60) = numI F := by
      unfold numI
      rw [gw_parRTo F hl 60 (by omega) 1, gw_parRTo F hl 60 (by omega) 2]
      simp [wordI_mod]
    rw [e]
    by_cases h : k = 0
    · simp [h]
    · rw [if_neg h, if_neg h, if_neg h]
theorem sealR_eq (F : List Int) (hl : F.length = 64) : sealR F = sealI F := by
  have key : syncW (parRTo F 60) = parTo F 60 := sealR_key F hl
  unfold sealR sealI
  rw [key]
theorem parRTo_fr {F : List Int} (h : Fr F) : ∀ k, k ≤ 60 → Fr (parRTo F k)
  | 0, _ => h
  | k + 1, hk => (parRTo_fr h k (by omega)).set _ _ (by omega) (wordI_bd _).1 (by have := wordI_bd (gw (parRTo F k) (k + 1)); omega)
theorem parRTo_narrow {F : List Int} (h : Fr F) (hn : Narrow F) : ∀ k, k ≤ 60 → Narrow (parRTo F k)
  | 0, _ => hn
  | k + 1, hk => (parRTo_narrow h hn k (by omega)).set (parRTo_fr h k (by omega)).len _ _ (by omega) (wordI_bd _).2
theorem syncW_fr {F : List Int} (h : Fr F) : Fr (syncW F) := h.set 0 _ (by omega) (by have := syncI_bd (numI F); omega) (by have := syncI_bd (numI F); omega)
theorem syncW_narrow {F : List Int} (h : Fr F) (hn : Narrow F) : Narrow (syncW F) := hn.set h.len 0 _ (by omega) (by have := syncI_bd (numI F); omega)

/-! The reference's division, bit by bit. -/
def bitF (F : List Int) (i : Nat) : Nat := if i < 744 then (gw F (i / 12)).toNat / 2 ^ (11 - i % 12) % 2 else 0
def refTo (F : List Int) : Nat → BitVec 22
  | 0 => 0#22
  | i + 1 => shB (refTo F i) ^^^ BitVec.ofNat 22 (bitF F i)
theorem bitF_lt (F : List Int) (i : Nat) : bitF F i < 2 := by unfold bitF; split <;> omega
theorem regI_step (r : BitVec 22) (b : Nat) (hb : b < 2) : regI (shB r ^^^ BitVec.ofNat 22 b) = if 4194304 ≤ regI r * 2 + b then xorI (regI r * 2 + b) 6291471 else regI r * 2 + b := by
  unfold regI
  rw [← rstep_eq r b hb]
  unfold rstep xorI
  by_cases h : 4194304 ≤ r.toNat * 2 + b
  · have e1 : ((r.toNat : Int) * 2 + (b : Int)).toNat = r.toNat * 2 + b := by omega
    have e2 : (6291471 : Int).toNat = 6291471 := by decide
    rw [if_pos h, if_pos (by omega), e1, e2]
  · rw [if_neg h, if_neg (by omega)]; omega
theorem refTo_word (F : List Int) (hl : F.length = 64) (q : Nat) (hq : q < 62) (x : Nat) (hx : (refTo F (12 * q)).toNat = x) : ∀ k, k ≤ 12 → (refTo F (12 * q + k)).toNat = rword (gw F q).toNat x k
  | 0, _ => by simpa [rword] using hx
  | k + 1, hk => by
    have ih := refTo_word F hl q hq x hx k (by omega)
    show (shB (refTo F (12 * q + k)) ^^^ BitVec.ofNat 22 (bitF F (12 * q + k))).toNat = _
    simp only [rword]
    rw [← rstep_eq _ _ (bitF_lt F _), ih]
    congr 1
    unfold bitF
    rw [if_pos (by omega), show (12 * q + k) / 12 = q by omega, show (12 * q + k) % 12 = k by omega]
theorem rwords_append : ∀ (l m : List Nat) (r : Nat), rwords (l ++ m) r = rwords m (rwords l r)
  | [], _, _ => rfl
  | w :: l, m, r => by simp only [List.cons_append, rwords]; exact rwords_append l m _
theorem refTo_words (F : List Int) (hl : F.length = 64) : ∀ q, q ≤ 62 → (refTo F (12 * q)).toNat = rwords ((F.take q).map Int.toNat) 0
  | 0, _ => rfl
  | q + 1, hq => by
    have ih := refTo_words F hl q (by omega)
    have := refTo_word F hl q (by omega) _ ih 12 (by omega)
    rw [show 12 * (q + 1) = 12 * q + 12 by omega, this]
    rw [List.take_succ_eq_append_getElem (show q < F.length by omega), List.map_append, rwords_append]
    simp [rwords, gw, List.getD, List.getElem?_eq_getElem (show q < F.length by omega)]
theorem refTo_zeros (F : List Int) (x : Nat) (hx : (refTo F 744).toNat = x) : ∀ k, (refTo F (744 + k)).toNat = rzeros x k
  | 0 => hx
  | k + 1 => by
    have ih := refTo_zeros F x hx k
    show (shB (refTo F (744 + k)) ^^^ BitVec.ofNat 22 (bitF F (744 + k))).toNat = _
    simp only [rzeros]
    rw [← rstep_eq _ _ (bitF_lt F _), ih]
    congr 1
    unfold bitF
    rw [if_neg (by omega)]
theorem refTo_end (F : List Int) (hl : F.length = 64) (hn : Narrow F) : regI (refTo F 766) = chkI F := by
  have h1 := refTo_words F hl 62 (by omega)
  have h2 := refTo_zeros F _ h1 22
  have h3 := rzeros_crc ((F.take 62).map Int.toNat) (by
    intro w hw
    obtain ⟨a, ha, rfl⟩ := List.mem_map.1 hw
    obtain ⟨k, hk, rfl⟩ := List.getElem_of_mem ha
    have hk' : k < 62 := by simp at hk; omega
    have hb := hn k (by omega)
    unfold gw at hb
    rw [List.getElem_take]
    simp only [List.getD, List.getElem?_eq_getElem (show k < F.length by omega), Option.getD_some] at hb
    omega)
  rw [h3] at h2
  unfold chkI regI crcTo
  rw [h2]; rfl
@[irreducible] def bitI (F : List Int) (i : Nat) : Int := (bitF F i : Int)
theorem bitI_bd (F : List Int) (i : Nat) : 0 ≤ bitI F i ∧ bitI F i ≤ 1 := by unfold bitI; have := bitF_lt F i; omega
theorem bitI_word (F : List Int) (k : Nat) (h : k < 744) (h0 : 0 ≤ gw F (k / 12)) : gw F (k / 12) / 2 ^ (11 - k % 12) % 2 = bitI F k := by
  unfold bitI bitF
  rw [if_pos h]
  obtain ⟨a, ha⟩ := Int.eq_ofNat_of_zero_le h0
  rw [ha, Int.toNat_natCast]
  norm_cast
theorem bitI_zero (F : List Int) (k : Nat) (h : ¬ k < 744) : bitI F k = 0 := by unfold bitI bitF; rw [if_neg h]; rfl
theorem regI_ref (F : List Int) (k : Nat) : regI (refTo F (k + 1)) = if 4194304 ≤ regI (refTo F k) * 2 + bitI F k then xorI (regI (refTo F k) * 2 + bitI F k) 6291471 else regI (refTo F k) * 2 + bitI F k := by
  have := regI_step (refTo F k) (bitF F k) (bitF_lt F k)
  unfold bitI
  exact this
/-! New. -/
def newTo (Z : List Int) (number : Int) (D : List Int) : Nat → List Int
  | 0 => (Z.set 1 (number % 2048)).set 2 (number / 2048)
  | k + 1 => (newTo Z number D k).set (3 + k) (gw D k)
def inTo (D : List Int) : Nat → Bool
  | 0 => true
  | k + 1 => inTo D k && decide (0 ≤ gw D k ∧ gw D k ≤ 2047)
theorem inTo_true (D : List Int) : ∀ k, inTo D k = true ↔ ∀ j, j < k → 0 ≤ gw D j ∧ gw D j ≤ 2047
  | 0 => by simp [inTo]
  | k + 1 => by
    simp only [inTo, Bool.and_eq_true, inTo_true D k, decide_eq_true_eq]
    constructor
    · rintro ⟨h1, h2⟩ j hj
      rcases Nat.lt_or_ge j k with h | h
      · exact h1 j h
      · obtain rfl : j = k := by omega
        exact h2
    · intro h
      exact ⟨fun j hj => h j (by omega), h k (by omega)⟩
/-- The error of New. -/
def newE (number : Int) (D : List Int) : Int :=
  if 0 ≤ number ∧ number < 4194304 then if D.length = 58 then if inTo D 58 then 0 else 9 else 3 else 9
/-- The frame that New returns. -/
def newF (Z : List Int) (number : Int) (D : List Int) : List Int := if newE number D = 0 then sealI (newTo Z number D 58) else Z
theorem newTo_len (Z : List Int) (number : Int) (D : List Int) : ∀ k, (newTo Z number D k).length = Z.length
  | 0 => by simp [newTo]
  | k + 1 => by simp [newTo, newTo_len Z number D k]
theorem newTo_fr {Z : List Int} (hZ : Fr Z) (number : Int) (D : List Int) (h0 : 0 ≤ number) (h1 : number < 4194304) : ∀ k, k ≤ 58 → inTo D k = true → Fr (newTo Z number D k)
  | 0, _, _ => (hZ.set 1 _ (by omega) (by omega) (by omega)).set 2 _ (by omega) (by omega) (by omega)
  | k + 1, hk, h => by
    have hb := (inTo_true D (k + 1)).1 h k (by omega)
    exact (newTo_fr hZ number D h0 h1 k (by omega) ((inTo_true D k).2 fun j hj => (inTo_true D (k + 1)).1 h j (by omega))).set _ _ (by omega) hb.1 (by omega)
theorem newTo_narrow {Z : List Int} (hl : Z.length = 64) (hZ : Narrow Z) (number : Int) (D : List Int) (h0 : 0 ≤ number) (h1 : number < 4194304) : ∀ k, k ≤ 58 → inTo D k = true → Narrow (newTo Z number D k)
  | 0, _, _ => (hZ.set hl 1 _ (by omega) (by omega)).set (by simp [hl]) 2 _ (by omega) (by omega)
  | k + 1, hk, h => by
    have hb := (inTo_true D (k + 1)).1 h k (by omega)
    exact (newTo_narrow hl hZ number D h0 h1 k (by omega) ((inTo_true D k).2 fun j hj => (inTo_true D (k + 1)).1 h j (by omega))).set (by rw [newTo_len]; exact hl) _ _ (by omega) (by omega)
/-! Sound frames. -/
def syncOk (F : List Int) : Bool := gw F 0 == syncI (numI F)
def sumOk (F : List Int) : Bool := gw F 61 % 2048 == sumI F
def hiOk (F : List Int) : Bool := gw F 62 % 2048 == hiI F % 2048
def loOk (F : List Int) : Bool := gw F 63 % 2048 == loI F % 2048
def chkOk (F : List Int) : Bool := hiOk F && loOk F
/-- Have the words 1 to k an odd number of ones? -/
def parOk (F : List Int) : Nat → Bool
  | 0 => true
  | k + 1 => parOk F k && oddI (gw F (k + 1))
def soundB (F : List Int) : Bool := syncOk F && (parOk F 63 && (sumOk F && chkOk F))
theorem parOk_true (F : List Int) : ∀ k, parOk F k = true ↔ ∀ j, 1 ≤ j → j ≤ k → oddI (gw F j) = true
  | 0 => by simp [parOk]; intro j h1 h2; omega
  | k + 1 => by
    simp only [parOk, Bool.and_eq_true, parOk_true F k]
    constructor
    · rintro ⟨h1, h2⟩ j hj hk
      rcases Nat.lt_or_ge k j with h | h
      · obtain rfl : j = k + 1 := by omega
        exact h2
      · exact h1 j hj h
    · intro h
      exact ⟨fun j h1 h2 => h j h1 (by omega), h (k + 1) (by omega) (by omega)⟩
theorem soundB_true (F : List Int) : soundB F = true ↔ syncOk F = true ∧ parOk F 63 = true ∧ sumOk F = true ∧ chkOk F = true := by
  unfold soundB; simp only [Bool.and_eq_true]
attribute [irreducible] onesI oddI wordI syncI numI sumI chkI
end Go.Proofs.YthkccbeffonaaaaGreatDoor

/-
  Worlds that only grew: new blocks behind the old ones, and draws. Frames as cells. (My own words for the walks of package frame.)
-/
namespace Go.Proofs.YthkccbeffonaaaaGreatDoor
open Go.RowKit

structure Ext where
  blocks : Array Obj
  drawn : Nat

instance : Inhabited Ext := ⟨⟨#[], 0⟩⟩
def Ext.app (x y : Ext) : Ext := ⟨x.blocks ++ y.blocks, y.drawn⟩
def Ext.tick (x : Ext) (n : Nat) : Ext := ⟨x.blocks, x.drawn + n⟩
def Ext.n (x : Ext) : Nat := x.blocks.size

/-- The world with new blocks, and with as many draws as may be. -/
def gx (w : World) (x : Ext) : World := { w with heap := w.heap ++ x.blocks, drawn := x.drawn }

section
variable (w : World) (x y : Ext)
@[go_sem] theorem gx_gx : gx (gx w x) y = gx w (x.app y) := by
  simp [gx, Ext.app, Array.append_assoc]
@[go_sem] theorem drew_gx : (gx w x).drew = gx w (x.tick 1) := by
  simp [-World.drew_eq, gx, World.drew, Ext.tick]
@[go_sem] theorem drewN_gx (n : Nat) : (gx w x).drewN n = gx w (x.tick n) := by
  simp [gx, World.drewN, Ext.tick]
@[go_sem] theorem gx_drew : gx w.drew x = gx w x := by
  simp [-World.drew_eq, gx, World.drew]
@[go_sem] theorem gx_drewN (n : Nat) : gx (w.drewN n) x = gx w x := by
  simp [gx, World.drewN]
@[simp, go_sem] theorem size_gx : (gx w x).heap.size = w.heap.size + x.n := by
  simp [gx, Ext.n]
theorem heap_gx (b : Nat) (h : b < w.heap.size) : (gx w x).heap[b]? = w.heap[b]? := by
  simp [gx, Array.getElem?_append_left h]
@[go_sem] theorem cell_gx (b o : Nat) (s : Option Nat) (h : b < w.heap.size) : (gx w x).cell? ⟨b, o, s⟩ = w.cell? ⟨b, o, s⟩ := by
  simp [World.cell?, heap_gx w x b h]
@[go_sem] theorem frozen_gx (b o : Nat) (s : Option Nat) (h : b < w.heap.size) : (gx w x).frozen? ⟨b, o, s⟩ = w.frozen? ⟨b, o, s⟩ := by
  simp [World.frozen?, heap_gx w x b h]
@[go_sem] theorem tape_gx : (gx w x).tape = w.tape := rfl
@[go_sem] theorem setCell_gx (b o : Nat) (s : Option Nat) (v : Value) (h : b < w.heap.size) : (gx w x).setCell ⟨b, o, s⟩ v = gx (w.setCell ⟨b, o, s⟩ v) x := by
  simp only [gx, World.setCell]
  congr 1
  apply Array.ext_getElem?
  intro i
  rw [Array.getElem?_modify]
  by_cases hi : b = i
  · subst hi
    rw [if_pos rfl, Array.getElem?_append_left h, Array.getElem?_append_left (by simpa using h), Array.getElem?_modify, if_pos rfl]
  · rw [if_neg hi]
    simp [Array.getElem?_append, Array.getElem?_modify, hi]
theorem alloc_is (o : Obj) : w.alloc o = gx w ⟨#[o], w.drawn⟩ := by
  simp [-World.alloc_eq, gx, World.alloc]
theorem drew_is : w.drew = gx w ⟨#[], w.drawn + 1⟩ := by simp [-World.drew_eq, gx, World.drew]
theorem drewN_is (n : Nat) : w.drewN n = gx w ⟨#[], w.drawn + n⟩ := by simp [gx, World.drewN]
theorem gx_none : gx w ⟨#[], w.drawn⟩ = w := by simp [gx]
theorem size_alloc' (o : Obj) : (w.alloc o).heap.size = w.heap.size + 1 := by simp
end

theorem gx_of_below {w w' : World} (h : Below w.heap.size w w') : ∃ x, w' = gx w x := by
  refine ⟨⟨w'.heap.extract w.heap.size w'.heap.size, w'.drawn⟩, ?_⟩
  have hh : w'.heap = w.heap ++ w'.heap.extract w.heap.size w'.heap.size := by
    apply Array.ext_getElem?
    intro i
    by_cases hi : i < w.heap.size
    · rw [Array.getElem?_append_left hi, h.block i hi]
    · rw [Array.getElem?_append_right (by omega), Array.getElem?_extract]
      have := h.size
      split
      · congr 1; omega
      · exact Array.getElem?_eq_none (by omega)
  obtain ⟨hp, tp, dr, os, out⟩ := w'
  have e1 : os = w.os := h.os
  have e2 : tp = w.tape := h.tape
  have e3 : out = w.output := h.output
  subst e1 e2 e3
  simp only [gx]
  congr 1
theorem below_gx (w : World) (x : Ext) : Below w.heap.size w (gx w x) :=
  ⟨rfl, rfl, rfl, by rw [size_gx]; omega, fun k hk => heap_gx w x k hk⟩
theorem Gx.refl (w : World) : ∃ x, w = gx w x := ⟨⟨#[], w.drawn⟩, (gx_none w).symm⟩
theorem Gx.gx {w w' : World} {y : Ext} (h : ∃ x, w' = gx w x) : ∃ x, gx w' y = gx w x := by
  obtain ⟨x, rfl⟩ := h; exact ⟨_, gx_gx _ _ _⟩
theorem Gx.alloc {w w' : World} {o : Obj} (h : ∃ x, w' = Go.Proofs.YthkccbeffonaaaaGreatDoor.gx w x) : ∃ x, w'.alloc o = Go.Proofs.YthkccbeffonaaaaGreatDoor.gx w x := by
  rw [alloc_is]; exact Gx.gx h
theorem Gx.drew {w w' : World} (h : ∃ x, w' = Go.Proofs.YthkccbeffonaaaaGreatDoor.gx w x) : ∃ x, w'.drew = Go.Proofs.YthkccbeffonaaaaGreatDoor.gx w x := by
  rw [drew_is]; exact Gx.gx h
theorem Gx.drewN {w w' : World} {n : Nat} (h : ∃ x, w' = Go.Proofs.YthkccbeffonaaaaGreatDoor.gx w x) : ∃ x, w'.drewN n = Go.Proofs.YthkccbeffonaaaaGreatDoor.gx w x := by
  rw [drewN_is]; exact Gx.gx h

/-- A region that draws its order, whose operations read and whose callees only make memory: one walk in the order of the text. -/
theorem region_gx {P : Program} {id : Nat} {Q : Exit → Act → World → Prop} {a : Act} {w : World} {l : List Oper} (hm : P.follows .mixedOrders = true) (hB : Region.lexB .any l.toArray = true)
    (h : wpQuiet P l.toArray (fun w' => ∃ x, w' = gx w x) (fun a' => ∀ w', (∃ x, w' = gx w x) → Q .normal a' w') l a) : (Code.region id l.toArray true).wp P Q a w :=
  wp_region_quiet (C := fun w' => ∃ x, w' = gx w x) hm hB ⟨_, drew_is w⟩ (by simpa using h)

/-- The same where the world has grown already. -/
theorem region_gxx {P : Program} {id : Nat} {Q : Exit → Act → World → Prop} {a : Act} {w : World} {y : Ext} {l : List Oper} (hm : P.follows .mixedOrders = true) (hB : Region.lexB .any l.toArray = true)
    (h : wpQuiet P l.toArray (fun w' => ∃ x, w' = gx w x) (fun a' => ∀ w', (∃ x, w' = gx w x) → Q .normal a' w') l a) : (Code.region id l.toArray true).wp P Q a (gx w y) :=
  wp_region_quiet (C := fun w' => ∃ x, w' = gx w x) hm hB ⟨_, drew_gx w y⟩ (by simpa using h)

theorem calls_gx {P : Program} {f : FuncId} {args : Array Value} {w : World} {x : Ext} {v : Value}
    (h : Calls P f args (gx w x) fun e w' => e = .returned v ∧ ∃ y, w' = gx (gx w x) y) : Calls P f args (gx w x) fun e w'' => e = .returned v ∧ ∃ y, w'' = gx w y :=
  h.mono fun _ _ ⟨he, y, hy⟩ => ⟨he, x.app y, by rw [hy, gx_gx]⟩
theorem calls_gx_same {P : Program} {f : FuncId} {args : Array Value} {w : World} {x : Ext} {v : Value}
    (h : Calls P f args (gx w x) fun e w' => e = .returned v ∧ gx w x = w') : Calls P f args (gx w x) fun e w'' => e = .returned v ∧ ∃ y, w'' = gx w y :=
  h.mono fun _ _ ⟨he, hy⟩ => ⟨he, x, hy.symm⟩

/-! Bits. -/
theorem wraps_u16 (n : Int) (h0 : 0 ≤ n) (h1 : n < 2 ^ 16) : IntKind.u16.wrap n = n := IntWalk.u16_in n (by omega)
theorem wraps_u32 (n : Int) (h0 : 0 ≤ n) (h1 : n < 2 ^ 32) : IntKind.u32.wrap n = n := IntWalk.u32_in n (by omega)
theorem wraps_i64 (n : Int) (h0 : 0 ≤ n) (h1 : n < 2 ^ 63) : IntKind.i64.wrap n = n := IntWalk.i64_in n (by omega)
theorem wraps_u64 (n : Int) (h0 : 0 ≤ n) (h1 : n < 2 ^ 64) : IntKind.u64.wrap n = n := IntWalk.u64_in n (by omega)
theorem bits_xor (k : IntKind) (j : Nat) (hj : j ≤ k.bits) (hk : ∀ n : Int, 0 ≤ n → n < 2 ^ j → k.wrap n = n) (a b : Int) (ha0 : 0 ≤ a) (ha : a < 2 ^ j) (hb0 : 0 ≤ b) (hb : b < 2 ^ j) :
    bits .xor k a b = xorI a b := by
  obtain ⟨a, rfl⟩ := Int.eq_ofNat_of_zero_le ha0
  obtain ⟨b, rfl⟩ := Int.eq_ofNat_of_zero_le hb0
  have ha : a < 2 ^ j := by exact_mod_cast ha
  have hb : b < 2 ^ j := by exact_mod_cast hb
  have hp : 2 ^ j ≤ 2 ^ k.bits := Nat.pow_le_pow_right (by decide) hj
  have ha' : a % 2 ^ k.bits = a := Nat.mod_eq_of_lt (Nat.lt_of_lt_of_le ha hp)
  have hb' : b % 2 ^ k.bits = b := Nat.mod_eq_of_lt (Nat.lt_of_lt_of_le hb hp)
  have cast : ∀ n : Nat, n < 2 ^ j → ((n : Nat) : Int) < 2 ^ j := fun n h => by exact_mod_cast h
  simp only [bits, BitVec.ofInt_natCast, BitVec.toNat_xor, BitVec.toNat_ofNat, ha', hb', xorI, Int.toNat_natCast]
  exact hk _ (Int.natCast_nonneg _) (cast _ (Nat.xor_lt_two_pow ha hb))
theorem u16_and255 (a : Int) (h0 : 0 ≤ a) (h1 : a ≤ 65535) : bits .and .u16 a 255 = a % 256 := bits_mask .u16 16 (by decide) wraps_u16 8 (by decide) a h0 (by omega)
theorem u16_and15 (a : Int) (h0 : 0 ≤ a) (h1 : a ≤ 65535) : bits .and .u16 a 15 = a % 16 := bits_mask .u16 16 (by decide) wraps_u16 4 (by decide) a h0 (by omega)
theorem u16_or2048 (a : Int) (h0 : 0 ≤ a) (h1 : a ≤ 2047) : bits .or .u16 a 2048 = a + 2048 := by
  have e := bits_join .u16 16 (by decide) wraps_u16 11 2048 a (by decide) (by decide) (by decide) h0 (by omega) (by omega)
  have c : bits .or .u16 a 2048 = bits .or .u16 2048 a := by simp only [bits]; rw [BitVec.or_comm]
  rw [c, e]; omega

/-- The cells of a frame. -/
def fc (F : List Int) : Array Value := (F.map (Value.int .u16)).toArray
@[go_sem] theorem fc_get (F : List Int) (k : Nat) (h : k < F.length) : (fc F)[k]? = some (.int .u16 (gw F k)) := by
  simp [fc, gw, List.getD, List.getElem?_eq_getElem h]
@[go_sem] theorem fc_set (F : List Int) (k : Nat) (v : Int) : (fc F).setIfInBounds k (.int .u16 v) = fc (F.set k v) := by
  simp [fc, List.map_set]
theorem fc_size (F : List Int) : (fc F).size = F.length := by simp [fc]
end Go.Proofs.YthkccbeffonaaaaGreatDoor

/-
  The small functions of package frame and of the reference: contracts.
-/
namespace Go.Proofs.YthkccbeffonaaaaGreatDoor
open Go.RowKit

/-- The zero frame. -/
@[irreducible] def zeroF : List Int := List.replicate 64 0
theorem zeroF_len : zeroF.length = 64 := by unfold zeroF; simp
theorem getD_zeros (n k : Nat) : (List.replicate n (0 : Int)).getD k 0 = 0 := by
  rcases Nat.lt_or_ge k n with h | h
  · simp [List.getD, h]
  · simp [List.getD, h]
theorem zeroF_get (k : Nat) : gw zeroF k = 0 := by
  unfold zeroF gw
  exact getD_zeros 64 k
theorem info_frame : (Tryz.prog.info? 57).map (fun i => (i.zero, i.size)) = some (some (.agg (fc (List.replicate 64 0))), 64) := by kernel_rfl
@[go_sem high] theorem zero_frame (w : World) : (zeroValue 57).run Tryz.prog w = .ok (.agg (fc zeroF)) w := by
  unfold zeroF
  exact (zero_of_info info_frame).1 w
@[go_sem high] theorem fold_zero : (#[Value.int .u16 0, Value.int .u16 0, Value.int .u16 0, Value.int .u16 0, Value.int .u16 0, Value.int .u16 0, Value.int .u16 0, Value.int .u16 0, Value.int .u16 0, Value.int .u16 0, Value.int .u16 0, Value.int .u16 0, Value.int .u16 0, Value.int .u16 0, Value.int .u16 0, Value.int .u16 0, Value.int .u16 0, Value.int .u16 0, Value.int .u16 0, Value.int .u16 0, Value.int .u16 0, Value.int .u16 0, Value.int .u16 0, Value.int .u16 0, Value.int .u16 0, Value.int .u16 0, Value.int .u16 0, Value.int .u16 0, Value.int .u16 0, Value.int .u16 0, Value.int .u16 0, Value.int .u16 0, Value.int .u16 0, Value.int .u16 0, Value.int .u16 0, Value.int .u16 0, Value.int .u16 0, Value.int .u16 0, Value.int .u16 0, Value.int .u16 0, Value.int .u16 0, Value.int .u16 0, Value.int .u16 0, Value.int .u16 0, Value.int .u16 0, Value.int .u16 0, Value.int .u16 0, Value.int .u16 0, Value.int .u16 0, Value.int .u16 0, Value.int .u16 0, Value.int .u16 0, Value.int .u16 0, Value.int .u16 0, Value.int .u16 0, Value.int .u16 0, Value.int .u16 0, Value.int .u16 0, Value.int .u16 0, Value.int .u16 0, Value.int .u16 0, Value.int .u16 0, Value.int .u16 0, Value.int .u16 0] : Array Value) = fc zeroF := by
  unfold zeroF
  rfl
/-- What lies in a block. -/
def At (w : World) (g : Nat) (o : Obj) : Prop := w.heap[g]? = some o
theorem At.lt {w : World} {g : Nat} {o : Obj} (h : At w g o) : g < w.heap.size := by
  rcases Nat.lt_or_ge g w.heap.size with hlt | hge
  · exact hlt
  · unfold At at h; rw [Array.getElem?_eq_none hge] at h; cases h
theorem At.gx {w : World} {g : Nat} {o : Obj} {x : Ext} (h : At w g o) : At (gx w x) g o := (heap_gx w x g h.lt).trans h
theorem At.drew {w : World} {g : Nat} {o : Obj} (h : At w g o) : At w.drew g o := h
theorem At.new (w : World) (o : Obj) : At (w.alloc o) w.heap.size o := heap_alloc_new w o
theorem At.new' {w : World} {g : Nat} {o : Obj} (e : g = w.heap.size) : At (w.alloc o) g o := by subst e; exact At.new w o
theorem At.alloc {w : World} {g : Nat} {o o' : Obj} (h : At w g o) : At (w.alloc o') g o := (Below.heap_alloc w o' g h.lt).trans h
/-- Cells of a type lie in a block. -/
def Is (w : World) (g : Nat) (t : TypeId) : Prop := ∃ cs, At w g (.cells cs t (0, 0))
theorem Is.gx {w : World} {g : Nat} {t : TypeId} {x : Ext} (h : Is w g t) : Is (Go.Proofs.YthkccbeffonaaaaGreatDoor.gx w x) g t := ⟨_, h.choose_spec.gx⟩
theorem Is.drew {w : World} {g : Nat} {t : TypeId} (h : Is w g t) : Is w.drew g t := h
theorem Is.new (w : World) (cs : Array Value) (t : TypeId) : Is (w.alloc (.cells cs t)) w.heap.size t := ⟨_, At.new _ _⟩
theorem Is.new' {w : World} {g : Nat} {cs : Array Value} {t : TypeId} (e : g = w.heap.size) : Is (w.alloc (.cells cs t)) g t := ⟨_, At.new' e⟩
theorem Is.alloc {w : World} {g : Nat} {t : TypeId} {o : Obj} (h : Is w g t) : Is (w.alloc o) g t := ⟨_, h.choose_spec.alloc⟩
theorem At.row {w : World} {g : Nat} {cs' : Array Value} {t : TypeId} (h : Is w g t) : At (w.setRow g cs') g (.cells cs' t (0, 0)) := setRow_heap w g _ cs' t _ h.choose_spec
theorem Is.row {w : World} {g : Nat} {cs' : Array Value} {t : TypeId} (h : Is w g t) : Is (w.setRow g cs') g t := ⟨_, At.row h⟩
theorem At.row_other {w : World} {g g' : Nat} {o : Obj} {cs' : Array Value} (h : At w g o) (hne : g ≠ g') : At (w.setRow g' cs') g o := (setRow_other w g' g cs' hne).trans h

@[go_sem] theorem setRow_gx (w : World) (x : Ext) (g : Nat) (cs : Array Value) (h : g < w.heap.size) : (gx w x).setRow g cs = gx (w.setRow g cs) x := by
  simp only [Go.Proofs.YthkccbeffonaaaaGreatDoor.gx, World.setRow]
  congr 1
  apply Array.ext_getElem?
  intro i
  rw [Array.getElem?_modify]
  by_cases hi : g = i
  · subst hi
    rw [if_pos rfl, Array.getElem?_append_left h, Array.getElem?_append_left (by simpa using h), Array.getElem?_modify, if_pos rfl]
  · rw [if_neg hi]
    simp [Array.getElem?_append, Array.getElem?_modify, hi]
@[go_sem] theorem setRow_alloc_at (w : World) (c c' : Array Value) (t : TypeId) (f : Nat × Nat) (g : Nat) (h : g = w.heap.size) : (w.alloc (.cells c t f)).setRow g c' = w.alloc (.cells c' t f) := by
  subst h
  simp only [World.setRow, World.alloc]
  congr 1
  apply Array.ext_getElem?
  intro i
  rw [Array.getElem?_modify]
  by_cases h : w.heap.size = i
  · subst h
    simp
  · have h' : ¬ i = w.heap.size := fun e => h e.symm
    simp [h, h', Array.getElem?_push]
@[go_sem] theorem setRow_alloc_past (w : World) (o : Obj) (g : Nat) (c' : Array Value) (h : g < w.heap.size) : (w.alloc o).setRow g c' = (w.setRow g c').alloc o := by
  rw [alloc_is, alloc_is, setRow_gx w _ g c' h]; rfl

theorem modify_append_right {α : Type} (a b : Array α) (g : Nat) (f : α → α) (h : a.size ≤ g) : (a ++ b).modify g f = a ++ b.modify (g - a.size) f := by
  apply Array.ext_getElem?
  intro i
  rw [Array.getElem?_modify]
  by_cases hi : i < a.size
  · rw [if_neg (by omega), Array.getElem?_append_left hi, Array.getElem?_append_left hi]
  · rw [Array.getElem?_append_right (by omega), Array.getElem?_append_right (by omega), Array.getElem?_modify]
    by_cases e : g = i
    · subst e; rw [if_pos rfl, if_pos rfl]
    · rw [if_neg e, if_neg (by omega)]
theorem Gx.setRow {w w' : World} {g : Nat} {c : Array Value} (h : ∃ x, w' = Go.Proofs.YthkccbeffonaaaaGreatDoor.gx w x) (hg : w.heap.size ≤ g) : ∃ x, w'.setRow g c = Go.Proofs.YthkccbeffonaaaaGreatDoor.gx w x := by
  obtain ⟨x, rfl⟩ := h
  refine ⟨⟨x.blocks.modify (g - w.heap.size) (fun | .cells _ elem frozen => .cells c elem frozen | o => o), x.drawn⟩, ?_⟩
  simp only [Go.Proofs.YthkccbeffonaaaaGreatDoor.gx, World.setRow]
  rw [modify_append_right _ _ _ _ hg]
  rfl
theorem Gx.setCell {w w' : World} {g o : Nat} {s : Option Nat} {v : Value} (h : ∃ x, w' = Go.Proofs.YthkccbeffonaaaaGreatDoor.gx w x) (hg : w.heap.size ≤ g) : ∃ x, w'.setCell ⟨g, o, s⟩ v = Go.Proofs.YthkccbeffonaaaaGreatDoor.gx w x := by
  obtain ⟨x, rfl⟩ := h
  simp only [Go.Proofs.YthkccbeffonaaaaGreatDoor.gx, World.setCell]
  rw [modify_append_right _ _ _ _ hg]
  exact ⟨⟨_, x.drawn⟩, rfl⟩
theorem cell_keep_gx {w : World} {b o : Nat} {s : Option Nat} {v : Value} {x : Ext} (h : w.cell? ⟨b, o, s⟩ = some v) : (gx w x).cell? ⟨b, o, s⟩ = some v :=
  (cell_gx w x b o s (World.block_lt_of_cell? w _ h)).trans h
theorem cell_keep_alloc {w : World} {b o : Nat} {s : Option Nat} {v : Value} {ob : Obj} (h : w.cell? ⟨b, o, s⟩ = some v) : (w.alloc ob).cell? ⟨b, o, s⟩ = some v := by
  rw [alloc_is]; exact cell_keep_gx h
/-- A whole frame read out of a variable, and written into one. -/
theorem load_fr {ops : Array Oper} {rest : List Oper} {o : Oper} {a : Act} {w : World} {Q : Exit → Act → World → Prop} (hw : Region.wanted o (yielded ops a.tmps) = true) (x : Operand) (ho : o.op = .load 57 x)
    (g : Nat) (hx : a.eval x = .pointer (some ⟨g, 0, none⟩)) (F : List Int) (hg : At w g (.cells (fc F) 57 (0, 0))) (hl : F.length = 64)
    (h : wpList Tryz.prog ops Q rest (a.put o.dst (.agg (fc F))) w) : wpList Tryz.prog ops Q (o :: rest) a w :=
  BigFrame.wpList_want hw fun _ hK => wp_load_row _ x ho g hx _ _ _ _ hg Tryz.underlying57 rfl (by rw [fc_size, hl]; kernel_rfl) (hK _ _ h)
theorem store_fr {ops : Array Oper} {rest : List Oper} {o : Oper} {a : Act} {w : World} {Q : Exit → Act → World → Prop} (hgd : o.guard = none) (x y : Operand) (ho : o.op = .store 57 x y)
    (g : Nat) (hx : a.eval x = .pointer (some ⟨g, 0, none⟩)) (F : List Int) (hy : a.eval y = .agg (fc F)) (G : List Int) (hg : At w g (.cells (fc G) 57 (0, 0))) (hl : F.length = 64) (hl' : G.length = 64)
    (h : wpList Tryz.prog ops Q rest (a.put o.dst undef) (w.setRow g (fc F))) : wpList Tryz.prog ops Q (o :: rest) a w :=
  wpList_store_row hgd _ x y ho g _ hx hy _ _ hg (by rw [fc_size, hl]; kernel_rfl) (by rw [fc_size, fc_size, hl, hl']) (by simp [fc, Value.oneCell']) h
/-- What a function hands back that has a frame among its results. -/
theorem load_at {w : World} {g : Nat} {G : List Int} (hg : At w g (.cells (fc G) 57 (0, 0))) (hl : G.length = 64) :
    (loadVar 57 ⟨g, 0, none⟩).run Tryz.prog w = .ok (.agg (fc G)) w :=
  run_loadVar_row w g _ _ _ _ _ hg Tryz.underlying57 rfl (by rw [fc_size, hl]; kernel_rfl)
theorem ret_fr {fn : Func} {p : Tmp} (h : fn.results = #[.cell p 57]) (a : Act) (w : World) (g : Nat) (G : List Int) (hp : a.tmps.getD p undef = .pointer (some ⟨g, 0, none⟩))
    (hd : a.defers = []) {R : Ending → World → Prop} (hg : At w g (.cells (fc G) 57 (0, 0))) (hl : G.length = 64) (hR : R (.returned (.agg (fc G))) w) : bodyPost Tryz.prog fn R .ret a w :=
  bodyPost_ret (by
    have hp' : a.tmps[p]?.getD undef = .pointer (some ⟨g, 0, none⟩) := by simpa using hp
    simp [results, h, hp', asAddr, load_at hg hl]) hd hR
theorem ret_fr_tmp {fn : Func} {p q : Tmp} (h : fn.results = #[.cell p 57, .tmp q]) (a : Act) (w : World) (g : Nat) (G : List Int) (hp : a.tmps.getD p undef = .pointer (some ⟨g, 0, none⟩))
    (hd : a.defers = []) {R : Ending → World → Prop} (hg : At w g (.cells (fc G) 57 (0, 0))) (hl : G.length = 64) (hR : R (.returned (.tuple #[.agg (fc G), a.tmps.getD q undef])) w) : bodyPost Tryz.prog fn R .ret a w :=
  bodyPost_ret (v := .tuple #[.agg (fc G), a.tmps.getD q undef]) (by
    have hp' : a.tmps[p]?.getD undef = .pointer (some ⟨g, 0, none⟩) := by simpa using hp
    simp [results, h, hp', asAddr, load_at hg hl]) hd hR
theorem ret_fr_tmp2 {fn : Func} {p q r : Tmp} (h : fn.results = #[.cell p 57, .tmp q, .tmp r]) (a : Act) (w : World) (g : Nat) (G : List Int) (hp : a.tmps.getD p undef = .pointer (some ⟨g, 0, none⟩))
    (hd : a.defers = []) {R : Ending → World → Prop} (hg : At w g (.cells (fc G) 57 (0, 0))) (hl : G.length = 64) (hR : R (.returned (.tuple #[.agg (fc G), a.tmps.getD q undef, a.tmps.getD r undef])) w) : bodyPost Tryz.prog fn R .ret a w :=
  bodyPost_ret (v := .tuple #[.agg (fc G), a.tmps.getD q undef, a.tmps.getD r undef]) (by
    have hp' : a.tmps[p]?.getD undef = .pointer (some ⟨g, 0, none⟩) := by simpa using hp
    simp [results, h, hp', asAddr, load_at hg hl]) hd hR
@[go_sem high] theorem build_zero (w : World) : (Instr.build 57 #[]).run Tryz.prog w = .ok (.agg (fc zeroF)) w := by
  refine run_build w _ _ _ ?_
  unfold zeroF
  kernel_rfl
def Tab (w : World) : Prop := 0 < w.heap.size ∧ ∀ k, k < 4 → w.cell? ⟨0, k, none⟩ = some (.int .u16 (syncT k))
theorem Tab.gx {w : World} (h : Tab w) (x : Ext) : Tab (gx w x) :=
  ⟨by rw [size_gx]; have := h.1; omega, fun k hk => by rw [cell_gx _ _ _ _ _ h.1]; exact h.2 k hk⟩
theorem Tab.alloc {w : World} (h : Tab w) (o : Obj) : Tab (w.alloc o) := by rw [alloc_is]; exact h.gx _

set_option maxHeartbeats 400000 in
set_option maxRecDepth 100000 in
theorem ones_any (a : Int) (h0 : 0 ≤ a) (h1 : a ≤ 65535) (w : World) :
    Calls Tryz.prog 192 #[.int .u16 a] w fun e w' => e = .returned (.int .i64 (onesI a)) ∧ ∃ x, w' = gx w x := by
  have hq : (Lib.pop8 (a / 256) + Lib.pop8 (a % 256)) % 256 = onesI a := pop8_sum a h0 h1
  have q0 : 0 ≤ a / 256 := by omega
  have q1 : a / 256 ≤ 255 := by omega
  have q3 : 0 ≤ a % 256 := by omega
  have q4 : a % 256 ≤ 255 := by omega
  have qa := u16_and255 a h0 h1
  go_enter Tryz.func192, Tryz.ntmps192
  go_wp2
  go_quiet (fail)
  go_wp2
  go_ret
  exact ⟨rfl, _, drewN_is _ _⟩

theorem dataOf_any (a : Int) (h0 : 0 ≤ a) (h1 : a ≤ 65535) (w : World) :
    Calls Tryz.prog 173 #[.int .u16 a] w fun e w' => e = .returned (.int .u16 (a % 2048)) ∧ w = w' := by
  go_enter Tryz.func173, Tryz.ntmps173
  go_wp2
  go_ret
  exact ⟨rfl, rfl⟩

theorem isOdd_any (a : Int) (h0 : 0 ≤ a) (h1 : a ≤ 65535) (w : World) :
    Calls Tryz.prog 172 #[.int .u16 a] w fun e w' => e = .returned (.bool (oddI a)) ∧ ∃ x, w' = gx w x := by
  have hb := onesI_bd a
  have b0 := hb.1
  have b1 := hb.2
  clear hb
  go_enter Tryz.func172, Tryz.ntmps172
  go_wp2_with (go_at_call 192; refine (ones_any _ h0 h1 _).mono ?_; rintro e w' ⟨rfl, x, rfl⟩)
  go_ret
  exact ⟨by unfold oddI; rfl, _, rfl⟩

theorem isEven_any (a : Int) (h0 : 0 ≤ a) (h1 : a ≤ 65535) (w : World) :
    Calls Tryz.prog 169 #[.int .u16 a] w fun e w' => e = .returned (.bool (!oddI a)) ∧ ∃ x, w' = gx w x := by
  go_enter Tryz.func169, Tryz.ntmps169
  go_wp2_with (go_at_call 172; refine (isOdd_any _ h0 h1 _).mono ?_; rintro e w' ⟨rfl, x, rfl⟩)
  go_ret
  exact ⟨rfl, _, rfl⟩

theorem isTooWide_any (a : Int) (w : World) :
    Calls Tryz.prog 167 #[.int .u16 a] w fun e w' => e = .returned (.bool (decide (4096 ≤ a))) ∧ w = w' := by
  by_cases h : 4096 ≤ a
  all_goals
    go_enter Tryz.func167, Tryz.ntmps167
    go_wp2
    go_ret
    exact ⟨by simp [h], rfl⟩

set_option maxHeartbeats 400000 in
theorem isTold_any (a : Int) (h0 : 0 ≤ a) (h1 : a ≤ 65535) (w : World) :
    Calls Tryz.prog 141 #[.int .u16 a] w fun e w' => e = .returned (.bool (decide (a < 4096) && oddI a)) ∧ ∃ x, w' = gx w x := by
  by_cases h : a < 4096
  · go_enter Tryz.func141, Tryz.ntmps141
    go_wp2_with (go_at_call 172; refine (isOdd_any _ h0 h1 _).mono ?_; rintro e w' ⟨rfl, x, rfl⟩)
    go_ret
    exact ⟨by simp [h], _, rfl⟩
  · go_enter Tryz.func141, Tryz.ntmps141
    go_wp2_with (go_at_call 172; refine (isOdd_any _ h0 h1 _).mono ?_; rintro e w' ⟨rfl, x, rfl⟩)
    go_ret
    exact ⟨by rw [decide_eq_false (show ¬ a < 4096 by omega)]; rfl, _, (gx_none _).symm⟩

set_option maxHeartbeats 400000 in
theorem withParity_any (a : Int) (h0 : 0 ≤ a) (h1 : a ≤ 65535) (w : World) :
    Calls Tryz.prog 157 #[.int .u16 a] w fun e w' => e = .returned (.int .u16 (wordI a)) ∧ ∃ x, w' = gx w x := by
  have b0 : 0 ≤ a % 2048 := by omega
  have b1 : a % 2048 ≤ 2047 := by omega
  have qo := u16_or2048 (a % 2048) b0 b1
  cases h : oddI (a % 2048)
  all_goals
    go_enter Tryz.func157, Tryz.ntmps157
    go_wp2_with (first | (go_at_call 173; refine (dataOf_any _ h0 h1 _).mono ?_; rintro e w' ⟨rfl, rfl⟩) | (go_at_call 172; refine (isOdd_any _ b0 (by omega) _).mono ?_; rintro e w' ⟨rfl, x, rfl⟩))
    go_ret
    refine ⟨?_, _, rfl⟩
    unfold wordI
    rw [h]
    rfl

set_option maxHeartbeats 400000 in
theorem syncFor_any (n : Int) (h0 : 0 ≤ n) (w : World) (hw : Tab w) :
    Calls Tryz.prog 156 #[.int .i64 n] w fun e w' => e = .returned (.int .u16 (syncI n)) ∧ w = w' := by
  have b0 : 0 ≤ n % 4 := by omega
  have b1 : n % 4 < 4 := by omega
  have hc := hw.2 (n % 4).toNat (by omega)
  have e : syncT (n % 4).toNat = syncI n := by unfold syncI; rfl
  rw [e] at hc
  clear e
  go_enter Tryz.func156, Tryz.ntmps156
  go_wp2
  go_ret
  exact ⟨rfl, rfl⟩

set_option maxHeartbeats 400000 in
theorem syncOf_any (n : Int) (h0 : 0 ≤ n) (w : World) :
    Calls Tryz.prog 153 #[.int .i64 n] w fun e w' => e = .returned (.int .i64 (syncI n)) ∧ w = w' := by
  have i0 : ∀ w, (Instr.index 206 (.agg #[.int .i64 583, .int .i64 1464, .int .i64 2631, .int .i64 3512]) (.int .i64 0)).run Tryz.prog w = .ok (.int .i64 583) w := fun _ => by kernel_rfl
  have i1 : ∀ w, (Instr.index 206 (.agg #[.int .i64 583, .int .i64 1464, .int .i64 2631, .int .i64 3512]) (.int .i64 1)).run Tryz.prog w = .ok (.int .i64 1464) w := fun _ => by kernel_rfl
  have i2 : ∀ w, (Instr.index 206 (.agg #[.int .i64 583, .int .i64 1464, .int .i64 2631, .int .i64 3512]) (.int .i64 2)).run Tryz.prog w = .ok (.int .i64 2631) w := fun _ => by kernel_rfl
  have i3 : ∀ w, (Instr.index 206 (.agg #[.int .i64 583, .int .i64 1464, .int .i64 2631, .int .i64 3512]) (.int .i64 3)).run Tryz.prog w = .ok (.int .i64 3512) w := fun _ => by kernel_rfl
  have hh : n % 4 = 0 ∨ n % 4 = 1 ∨ n % 4 = 2 ∨ n % 4 = 3 := by omega
  rcases hh with h | h | h | h
  all_goals
    go_enter Tryz.func153, Tryz.ntmps153
    go_wp2
    go_ret
    exact ⟨by unfold syncI; rw [h]; rfl, rfl⟩

set_option maxHeartbeats 1000000 in
theorem odd_any (n : Int) (h0 : 0 ≤ n) (h1 : n ≤ 65535) (w : World) :
    Calls Tryz.prog 152 #[.int .i64 n] w fun e w' => e = .returned (.bool (oddI n)) ∧ w = w' := by
  have hbn := onesI_bd n
  go_enter Tryz.func152, Tryz.ntmps152
  go_wp2
  go_loop [0, 3] (fun m o => ∃ k q : Int, 0 ≤ k ∧ k ≤ n ∧ m = .int .i64 k ∧ o = .int .i64 q ∧ 0 ≤ q ∧ q + onesI k = onesI n) (fun m _ => (intOf m).toNat)
  case atStart => exact ⟨n, 0, h0, Int.le_refl _, rfl, rfl, Int.le_refl _, by omega⟩
  case round =>
    obtain ⟨k, q, hk0, hk1, rfl, rfl, hq0, hq⟩ := hrel
    have hbk := onesI_bd k
    by_cases hk : 0 < k
    · have hs := onesI_step k hk0 (by omega)
      have HS : Hid (q + k % 2 + onesI (k / 2) = onesI n) := by show _ = _; omega
      have hq1 : q ≤ 16 := by omega
      clear hq hs
      go_wp2
      go_round
      case rel => exact ⟨k / 2, q + k % 2, by omega, by omega, rfl, rfl, by omega, HS.out⟩
      case measure => simp [intOf]; omega
    · obtain rfl : k = 0 := by omega
      have e : q = onesI n := by rw [onesI_zero] at hq; omega
      clear hq
      subst e
      go_wp2
      go_ret
      exact ⟨by unfold oddI; rfl, rfl⟩
end Go.Proofs.YthkccbeffonaaaaGreatDoor

/-
  The functions of package frame that look at a frame: contracts.
-/
namespace Go.Proofs.YthkccbeffonaaaaGreatDoor
open Go.RowKit

set_option maxHeartbeats 1000000 in
theorem numberOf_any (F : List Int) (hF : Fr F) (w : World) :
    Calls Tryz.prog 142 #[.agg (fc F)] w fun e w' => e = .returned (.int .i64 (numI F)) ∧ ∃ x, w' = gx w x := by
  have hl := hF.len
  have h1 := hF.bd 1
  have h2 := hF.bd 2
  have k1 : 0 ≤ gw F 1 := h1.1
  have k2 : gw F 1 ≤ 65535 := h1.2
  have k3 : 0 ≤ gw F 2 := h2.1
  have k4 : gw F 2 ≤ 65535 := h2.2
  clear h1 h2
  go_enter Tryz.func142, Tryz.ntmps142
  go_wp2
  refine region_gx (by kernel_rfl) (by kernel_rfl) ?_
  repeat (any_goals (first | go_big_quiet_step ((go_at_call 173; exact calls_gx_same (dataOf_any _ (by omega) (by omega) _))) | quiet_step ((go_at_call 173; exact calls_gx_same (dataOf_any _ (by omega) (by omega) _)))))
  refine wpQuiet_nil ?_
  rintro _ ⟨x, rfl⟩
  go_wp2
  go_ret
  exact ⟨by unfold numI; rfl, by simp only [alloc_is, gx_gx]; exact ⟨_, rfl⟩⟩

set_option maxHeartbeats 1000000 in
theorem isWide_any (F : List Int) (hF : Fr F) (w : World) :
    Calls Tryz.prog 139 #[.agg (fc F)] w fun e w' => e = .returned (.bool (wideB F)) ∧ ∃ x, w' = gx w x := by
  have hl := hF.len
  go_enter Tryz.func139, Tryz.ntmps139
  go_wp2
  go_loop [4] (fun i => ∃ k : Nat, k ≤ 64 ∧ i = .int .i64 k ∧ wideTo F k = false) (fun i => 64 - (intOf i).toNat)
  case atStart => exact ⟨0, Nat.zero_le _, rfl, rfl⟩
  case round =>
    obtain ⟨k, hk, rfl, hrel⟩ := hrel
    by_cases hlt : k < 64
    · have hs : wideTo F (k + 1) = decide (4096 ≤ gw F k) := by show (wideTo F k || _) = _; rw [hrel]; rfl
      by_cases hwide : 4096 ≤ gw F k
      · have hn : Hid (wideB F = true) := by
          show wideTo F 64 = true
          exact wideTo_mono F (k + 1) 64 (by omega) (by rw [hs]; exact decide_eq_true hwide)
        clear hrel hs
        have hd : decide (4096 ≤ gw F k) = true := decide_eq_true hwide
        go_wp2_with (go_at_call 167; refine (isTooWide_any _ _).mono ?_; rintro e w' ⟨rfl, rfl⟩)
        go_ret
        exact ⟨by rw [hn.out]; rfl, _, alloc_is _ _⟩
      · have hn : Hid (wideTo F (k + 1) = false) := by
          show _ = _
          rw [hs]; exact decide_eq_false hwide
        clear hrel hs
        have hd : decide (4096 ≤ gw F k) = false := decide_eq_false hwide
        go_wp2_with (go_at_call 167; refine (isTooWide_any _ _).mono ?_; rintro e w' ⟨rfl, rfl⟩)
        go_round
        case rel => exact ⟨k + 1, by omega, by go_num, hn.out⟩
        case measure => simp [intOf]; omega
    · obtain rfl : k = 64 := by omega
      have hn : Hid (wideB F = false) := hrel
      clear hrel
      go_wp2
      go_ret
      exact ⟨by rw [hn.out]; rfl, _, alloc_is _ _⟩

set_option maxHeartbeats 1000000 in
theorem sumOf_any (F : List Int) (hF : Fr F) (w : World) :
    Calls Tryz.prog 158 #[.agg (fc F)] w fun e w' => e = .returned (.int .u16 (sumI F)) ∧ ∃ x, w' = gx w x := by
  have hl := hF.len
  go_enter Tryz.func158, Tryz.ntmps158
  go_wp2
  go_loop [3, 4] (fun s i => ∃ k : Nat, k ≤ 60 ∧ i = .int .i64 (k + 1 : Nat) ∧ s = .int .u16 (sumTo F k)) (fun _ i => 62 - (intOf i).toNat)
  case atStart => exact ⟨0, Nat.zero_le _, rfl, rfl⟩
  case round =>
    obtain ⟨k, hk, rfl, rfl⟩ := hrel
    by_cases hlt : k < 60
    · have hb := sumTo_bd F k
      have hlt' : k + 1 < 64 := by omega
      have k1 : 0 ≤ gw F (k + 1) := (hF.bd (k + 1)).1
      have k2 : gw F (k + 1) ≤ 65535 := (hF.bd (k + 1)).2
      have hx : bits .xor .u16 (sumTo F k) (gw F (k + 1) % 2048) = sumTo F (k + 1) := by
        rw [bits_xor .u16 16 (by decide) wraps_u16 _ _ hb.1 (by omega) (by omega) (by omega)]; rfl
      clear hb
      go_wp2_with (go_at_call 173; refine (dataOf_any _ k1 k2 _).mono ?_; rintro e w' ⟨rfl, rfl⟩)
      go_round
      case rel => exact ⟨k + 1, by omega, by go_num, rfl⟩
      case measure => simp [intOf]; omega
    · obtain rfl : k = 60 := by omega
      go_wp2
      go_ret
      exact ⟨by unfold sumI; rfl, _, alloc_is _ _⟩

set_option maxHeartbeats 600000 in
set_option maxRecDepth 100000 in
theorem checkOf_any (F : List Int) (hF : Fr F) (hn : Narrow F) (w : World) :
    Calls Tryz.prog 179 #[.agg (fc F)] w fun e w' => e = .returned (.int .u32 (chkI F)) ∧ ∃ x, w' = gx w x := by
  have hl := hF.len
  have e0 : (0 : Int) = regI (crcTo F 0) := by unfold regI; rfl
  have H0 := Lib.hid e0
  clear e0
  go_enter Tryz.func179, Tryz.ntmps179
  go_wp2
  go_loop [3, 6] (fun r i => ∃ k : Nat, k ≤ 62 ∧ i = .int .i64 k ∧ r = .int .u32 (regI (crcTo F k))) (fun _ i => 62 - (intOf i).toNat)
  case atStart => exact ⟨0, Nat.zero_le _, rfl, by rw [← H0.out]⟩
  case round =>
    obtain ⟨k, hk, rfl, rfl⟩ := hrel
    by_cases hlt : k < 62
    · have hs := Lib.hid (crcTo_succ F k (by omega))
      have hlt' : k < 64 := by omega
      have hb := regI_bd (crcTo F k)
      have k1 : 0 ≤ gw F k := (hF.bd k).1
      have k2 : gw F k ≤ 4095 := hn k (by omega)
      have hx : bits .xor .u32 (regI (crcTo F k)) (gw F k * 1024) = regI (mixW (crcTo F k) (gw F k)) := by
        rw [bits_xor .u32 32 (by decide) wraps_u32 _ _ hb.1 (by omega) (by omega) (by omega)]; exact regI_mix _ _ k1 k2
      clear hb
      go_wp2
      go_loop [3, 16] (fun r i => ∃ j : Nat, j ≤ 12 ∧ i = .int .i64 j ∧ r = .int .u32 (regI (itB j (mixW (crcTo F k) (gw F k))))) (fun _ i => 12 - (intOf i).toNat)
      case atStart => exact ⟨0, Nat.zero_le _, rfl, rfl⟩
      case round =>
        obtain ⟨j, hj, rfl, rfl⟩ := hrel
        clear hx
        generalize hy : itB j (mixW (crcTo F k) (gw F k)) = y
        have Hy := Lib.hid hy
        clear hy
        have hb := regI_bd y
        have b0 := hb.1
        have b1 := hb.2
        have hx : bits .xor .u32 (regI y * 2) (regI y / 2097152 * 6291471) = regI (shB y) := by
          rw [bits_xor .u32 32 (by decide) wraps_u32 _ _ (by omega) (by omega) (by omega) (by omega)]; exact regI_sh y
        clear hb
        by_cases hj2 : j < 12
        · go_wp2
          go_round
          case rel => exact ⟨j + 1, by omega, by go_num, by rw [itB_succ, Hy.out]⟩
          case measure => simp [intOf]; omega
        · obtain rfl : j = 12 := by omega
          go_wp2
          go_round
          case rel => exact ⟨k + 1, by omega, by go_num, by rw [hs.out, Hy.out]⟩
          case measure => simp [intOf]; omega
    · obtain rfl : k = 62 := by omega
      go_wp2
      go_ret
      exact ⟨by unfold chkI; rfl, _, alloc_is _ _⟩
end Go.Proofs.YthkccbeffonaaaaGreatDoor

/-
  Sealing a frame: contracts.
-/
namespace Go.Proofs.YthkccbeffonaaaaGreatDoor
open Go.RowKit

set_option maxHeartbeats 1000000 in
set_option maxRecDepth 100000 in
theorem checkWords_any (F : List Int) (hF : Fr F) (hn : Narrow F) (w : World) :
    Calls Tryz.prog 159 #[.agg (fc F)] w fun e w' => e = .returned (.tuple #[.int .u16 (hiI F), .int .u16 (loI F)]) ∧ ∃ x, w' = gx w x := by
  have hl := hF.len
  have hb := chkI_bd F
  have b0 := hb.1
  have b1 := hb.2
  have e1 : wordI (chkI F / 2048) = hiI F := rfl
  have e2 : wordI (chkI F % 2048) = loI F := rfl
  clear hb
  go_enter Tryz.func159, Tryz.ntmps159
  go_wp2_with (first | (refine load_fr rfl _ rfl _ rfl ?_ ?_ ?_ ?_; rotate_left; (focus (repeat (first | (with_reducible exact At.new _ _) | (with_reducible refine At.row ?_) | (with_reducible refine At.gx ?_) | ((with_reducible refine At.new' ?_); focus (simp; done)) | (with_reducible refine At.alloc ?_) | (with_reducible refine At.drew ?_) | (with_reducible exact Is.new _ _ _) | (with_reducible refine Is.row ?_) | (with_reducible refine Is.gx ?_) | ((with_reducible refine Is.new' ?_); focus (simp; done)) | (with_reducible refine Is.alloc ?_) | (with_reducible refine Is.drew ?_)))); (focus (with_reducible (first | exact hl | exact hl1 | exact hl2 | exact hl3 | exact hl4 | exact zeroF_len)))) | (go_at_call 179; refine (checkOf_any F hF hn _).mono ?_; rintro e w' ⟨rfl, x, rfl⟩) | (go_at_call 157; refine (withParity_any _ (by omega) (by omega) _).mono ?_; rintro e w' ⟨rfl, x, rfl⟩))
  go_ret2
  exact ⟨rfl, (by repeat (first | (with_reducible exact Gx.refl _) | (with_reducible assumption) | (with_reducible refine Gx.gx ?_) | (with_reducible refine Gx.alloc ?_) | (with_reducible refine Gx.drew ?_) | (with_reducible refine Gx.drewN ?_) | (with_reducible refine Gx.setRow ?_ (by simp)) | (with_reducible refine Gx.setCell ?_ (by simp))))⟩

set_option maxHeartbeats 600000 in
set_option maxRecDepth 100000 in
theorem sealed_any (F : List Int) (hF : Fr F) (hn : Narrow F) (w : World) (hT : Tab w) :
    Calls Tryz.prog 127 #[.agg (fc F)] w fun e w' => e = .returned (.agg (fc (sealI F))) ∧ ∃ x, w' = gx w x := by
  have hl := hF.len
  have hb := numI_bd F
  have b0 := hb.1
  clear hb
  go_enter Tryz.func127, Tryz.ntmps127
  go_wp2_with (first | (refine load_fr rfl _ rfl _ rfl ?_ ?_ ?_ ?_; rotate_left; (focus (repeat (first | (with_reducible exact At.new _ _) | (with_reducible refine At.row ?_) | (with_reducible refine At.gx ?_) | ((with_reducible refine At.new' ?_); focus (simp; done)) | (with_reducible refine At.alloc ?_) | (with_reducible refine At.drew ?_) | (with_reducible exact Is.new _ _ _) | (with_reducible refine Is.row ?_) | (with_reducible refine Is.gx ?_) | ((with_reducible refine Is.new' ?_); focus (simp; done)) | (with_reducible refine Is.alloc ?_) | (with_reducible refine Is.drew ?_)))); (focus (with_reducible (first | exact hl | exact hl1 | exact hl2 | exact hl3 | exact hl4 | exact zeroF_len)))) | (go_at_call 142; refine (numberOf_any F hF _).mono ?_; rintro e w' ⟨rfl, x, rfl⟩) | (go_at_call 156; refine (syncFor_any _ b0 _ ?_).mono ?_; (focus (repeat (first | (with_reducible exact hT) | (with_reducible assumption) | (with_reducible refine Tab.gx ?_ _) | (with_reducible refine Tab.alloc ?_ _)))); rintro e w' ⟨rfl, rfl⟩))
  go_loopw [3] (fun i wr => ∃ (k : Nat) (x : Ext), k ≤ 60 ∧ i = .int .i64 (k + 1 : Nat) ∧ wr = gx ((w.alloc (.cells (fc (parTo F k)) 57)).alloc (.cells (fc zeroF) 57)) x) (fun i _ => 62 - (intOf i).toNat)
  case atStart => exact ⟨0, _, Nat.zero_le _, rfl, rfl⟩
  case round =>
    obtain ⟨k, y, hk, rfl, rfl⟩ := hrel
    have hp := parTo_fr hF k hk
    by_cases hlt : k < 60
    · have hlp := hp.len
      have hlt' : k + 1 < 64 := by omega
      have k1 : 0 ≤ gw (parTo F k) (k + 1) := (hp.bd _).1
      have k2 : gw (parTo F k) (k + 1) ≤ 65535 := (hp.bd _).2
      have e : (parTo F k).set (k + 1) (wordI (gw (parTo F k) (k + 1))) = parTo F (k + 1) := rfl
      go_wp2_with (go_at_call 157; refine (withParity_any _ k1 k2 _).mono ?_; rintro e w' ⟨rfl, z, rfl⟩)
      go_roundw
      case rel => exact ⟨k + 1, _, by omega, by go_num, rfl⟩
      case measure => simp [intOf]; omega
    · obtain rfl : k = 60 := by omega
      have hnp := parTo_narrow hF hn 60 hk
      generalize hG : parTo F 60 = G at *
      have hsF : sealI F = chkW (sumW G) := by unfold sealI; rw [hG]
      clear hG
      have Hs := Lib.hid hsF
      clear hsF hl
      have hl := hp.len
      have hb := sumI_bd G
      have b1 := hb.1
      have b2 : sumI G ≤ 65535 := by omega
      clear hb
      have e1 : G.set 61 (wordI (sumI G)) = sumW G := rfl
      have hl1 : (sumW G).length = 64 := (sumW_fr hp).len
      have e2 : ((sumW G).set 62 (hiI (sumW G))).set 63 (loI (sumW G)) = chkW (sumW G) := rfl
      have hl2 : (chkW (sumW G)).length = 64 := (chkW_fr (sumW_fr hp)).len
      go_wp2_with (first | (refine load_fr rfl _ rfl _ rfl ?_ ?_ ?_ ?_; rotate_left; (focus (repeat (first | (with_reducible exact At.new _ _) | (with_reducible refine At.row ?_) | (with_reducible refine At.gx ?_) | ((with_reducible refine At.new' ?_); focus (simp; done)) | (with_reducible refine At.alloc ?_) | (with_reducible refine At.drew ?_) | (with_reducible exact Is.new _ _ _) | (with_reducible refine Is.row ?_) | (with_reducible refine Is.gx ?_) | ((with_reducible refine Is.new' ?_); focus (simp; done)) | (with_reducible refine Is.alloc ?_) | (with_reducible refine Is.drew ?_)))); (focus (with_reducible (first | exact hl | exact hl1 | exact hl2 | exact hl3 | exact hl4 | exact zeroF_len)))) | (refine store_fr rfl _ _ rfl _ rfl _ rfl ?_ ?_ ?_ ?_ ?_; rotate_left; (focus (repeat (first | (with_reducible exact At.new _ _) | (with_reducible refine At.row ?_) | (with_reducible refine At.gx ?_) | ((with_reducible refine At.new' ?_); focus (simp; done)) | (with_reducible refine At.alloc ?_) | (with_reducible refine At.drew ?_) | (with_reducible exact Is.new _ _ _) | (with_reducible refine Is.row ?_) | (with_reducible refine Is.gx ?_) | ((with_reducible refine Is.new' ?_); focus (simp; done)) | (with_reducible refine Is.alloc ?_) | (with_reducible refine Is.drew ?_)))); (focus (with_reducible (first | exact hl | exact hl1 | exact hl2 | exact hl3 | exact hl4 | exact zeroF_len))); (focus (with_reducible (first | exact hl | exact hl1 | exact hl2 | exact hl3 | exact hl4 | exact zeroF_len)))) | (go_at_call 158; refine (sumOf_any G hp _).mono ?_; rintro e w' ⟨rfl, z, rfl⟩) | (go_at_call 159; refine (checkWords_any (sumW G) (sumW_fr hp) (sumW_narrow hp hnp) _).mono ?_; rintro e w' ⟨rfl, z, rfl⟩) | (go_at_call 157; refine (withParity_any _ b1 b2 _).mono ?_; rintro e w' ⟨rfl, z, rfl⟩))
      (refine ret_fr rfl _ _ _ ?_ rfl rfl ?_ ?_ ?_; rotate_left; (focus (repeat (first | (with_reducible exact At.new _ _) | (with_reducible refine At.row ?_) | (with_reducible refine At.gx ?_) | ((with_reducible refine At.new' ?_); focus (simp; done)) | (with_reducible refine At.alloc ?_) | (with_reducible refine At.drew ?_) | (with_reducible exact Is.new _ _ _) | (with_reducible refine Is.row ?_) | (with_reducible refine Is.gx ?_) | ((with_reducible refine Is.new' ?_); focus (simp; done)) | (with_reducible refine Is.alloc ?_) | (with_reducible refine Is.drew ?_)))); (focus (with_reducible (first | exact hl | exact hl1 | exact hl2 | exact hl3 | exact hl4 | exact zeroF_len))))
      exact ⟨by rw [Hs.out], (by repeat (first | (with_reducible exact Gx.refl _) | (with_reducible assumption) | (with_reducible refine Gx.gx ?_) | (with_reducible refine Gx.alloc ?_) | (with_reducible refine Gx.drew ?_) | (with_reducible refine Gx.drewN ?_) | (with_reducible refine Gx.setRow ?_ (by simp)) | (with_reducible refine Gx.setCell ?_ (by simp))))⟩

end Go.Proofs.YthkccbeffonaaaaGreatDoor

/-
  The reference's functions that look at a frame, and its sealing: contracts.
-/
namespace Go.Proofs.YthkccbeffonaaaaGreatDoor
open Go.RowKit

@[go_sem high] theorem index_frame (F : List Int) (k : Nat) (h : k < F.length) (hl : F.length = 64) (w : World) :
    (Instr.index 57 (.agg (fc F)) (.int .i64 (k : Int))).run Tryz.prog w = .ok (.int .u16 (gw F k)) w := by
  have hk : ¬ 64 ≤ k := by omega
  have hg := fc_get F k h
  simp [Instr.index, asIntOf, go_sem, run_underlying Tryz.underlying57, hk, part, hg, Sem.run_bind]

set_option maxHeartbeats 400000 in
theorem word_any (d : Int) (h0 : 0 ≤ d) (h1 : d ≤ 2047) (w : World) :
    Calls Tryz.prog 160 #[.int .i64 d] w fun e w' => e = .returned (.int .i64 (wordI d)) ∧ w = w' := by
  have hm : d % 2048 = d := by omega
  have hw : wordI d = if oddI d then d else d + 2048 := by unfold wordI; rw [hm]
  have Hw := Lib.hid hw
  clear hw hm
  cases h : oddI d
  all_goals
    go_enter Tryz.func160, Tryz.ntmps160
    go_wp2_with (go_at_call 152; refine (odd_any _ h0 (by omega) _).mono ?_; rintro e w' ⟨rfl, rfl⟩)
    go_ret
    refine ⟨?_, rfl⟩
    rw [Hw.out, h]
    rfl

set_option maxHeartbeats 400000 in
theorem Right_any (a : Int) (h0 : 0 ≤ a) (h1 : a ≤ 65535) (w : World) :
    Calls Tryz.prog 123 #[.int .u16 a] w fun e w' => e = .returned (.bool (toldI a)) ∧ w = w' := by
  by_cases h : a ≤ 4095
  · go_enter Tryz.func123, Tryz.ntmps123
    go_wp2_with (go_at_call 152; refine (odd_any _ h0 h1 _).mono ?_; rintro e w' ⟨rfl, rfl⟩)
    go_ret
    exact ⟨by unfold toldI; rw [decide_eq_true (show a < 4096 by omega)]; rfl, rfl⟩
  · go_enter Tryz.func123, Tryz.ntmps123
    go_wp2_with (go_at_call 152; refine (odd_any _ h0 h1 _).mono ?_; rintro e w' ⟨rfl, rfl⟩)
    go_ret
    exact ⟨by unfold toldI; rw [decide_eq_false (show ¬ a < 4096 by omega)]; rfl, rfl⟩

set_option maxHeartbeats 400000 in
theorem RnumberOf_any (F : List Int) (hF : Fr F) (w : World) :
    Calls Tryz.prog 124 #[.agg (fc F)] w fun e w' => e = .returned (.int .i64 (numI F)) ∧ ∃ x, w' = gx w x := by
  have hl := hF.len
  have h1 := hF.bd 1
  have h2 := hF.bd 2
  have k1 : 0 ≤ gw F 1 := h1.1
  have k2 : gw F 1 ≤ 65535 := h1.2
  have k3 : 0 ≤ gw F 2 := h2.1
  have k4 : gw F 2 ≤ 65535 := h2.2
  clear h1 h2
  go_enter Tryz.func124, Tryz.ntmps124
  go_wp2
  go_ret
  exact ⟨by unfold numI; rfl, (by repeat (first | (with_reducible exact Gx.refl _) | (with_reducible assumption) | (with_reducible refine Gx.gx ?_) | (with_reducible refine Gx.alloc ?_) | (with_reducible refine Gx.drew ?_) | (with_reducible refine Gx.drewN ?_) | (with_reducible refine Gx.setRow ?_ (by simp)) | (with_reducible refine Gx.setCell ?_ (by simp))))⟩

set_option maxHeartbeats 1000000 in
theorem Rsum_any (F : List Int) (hF : Fr F) (w : World) :
    Calls Tryz.prog 154 #[.agg (fc F)] w fun e w' => e = .returned (.int .i64 (sumI F)) ∧ ∃ x, w' = gx w x := by
  have hl := hF.len
  go_enter Tryz.func154, Tryz.ntmps154
  go_wp2
  go_loop [3, 4] (fun s i => ∃ k : Nat, k ≤ 60 ∧ i = .int .i64 (k + 1 : Nat) ∧ s = .int .i64 (sumTo F k)) (fun _ i => 62 - (intOf i).toNat)
  case atStart => exact ⟨0, Nat.zero_le _, rfl, rfl⟩
  case round =>
    obtain ⟨k, hk, rfl, rfl⟩ := hrel
    by_cases hlt : k < 60
    · have hb := sumTo_bd F k
      have hlt' : k + 1 < 64 := by omega
      have k1 : 0 ≤ gw F (k + 1) := (hF.bd (k + 1)).1
      have k2 : gw F (k + 1) ≤ 65535 := (hF.bd (k + 1)).2
      have hx : bits .xor .i64 (sumTo F k) (gw F (k + 1) % 2048) = sumTo F (k + 1) := by
        rw [bits_xor .i64 63 (by decide) wraps_i64 _ _ hb.1 (by omega) (by omega) (by omega)]; rfl
      clear hb
      go_wp2
      go_round
      case rel => exact ⟨k + 1, by omega, by go_num, rfl⟩
      case measure => simp [intOf]; omega
    · obtain rfl : k = 60 := by omega
      go_wp2
      go_ret
      exact ⟨by unfold sumI; rfl, (by repeat (first | (with_reducible exact Gx.refl _) | (with_reducible assumption) | (with_reducible refine Gx.gx ?_) | (with_reducible refine Gx.alloc ?_) | (with_reducible refine Gx.drew ?_) | (with_reducible refine Gx.drewN ?_) | (with_reducible refine Gx.setRow ?_ (by simp)) | (with_reducible refine Gx.setCell ?_ (by simp))))⟩

set_option maxHeartbeats 1000000 in
set_option maxRecDepth 100000 in
theorem Wide_any (F : List Int) (hF : Fr F) (w : World) :
    Calls Tryz.prog 177 #[.agg (fc F)] w fun e w' => e = .returned (.bool (wideB F)) ∧ ∃ x, w' = gx w x := by
  have hl := hF.len
  go_enter Tryz.func177, Tryz.ntmps177
  go_wp2_with (refine load_fr rfl _ rfl _ rfl ?_ ?_ ?_ ?_; rotate_left; (focus (repeat (first | (with_reducible exact At.new _ _) | (with_reducible refine At.row ?_) | (with_reducible refine At.gx ?_) | ((with_reducible refine At.new' ?_); focus (simp; done)) | (with_reducible refine At.alloc ?_) | (with_reducible refine At.drew ?_) | (with_reducible exact Is.new _ _ _) | (with_reducible refine Is.row ?_) | (with_reducible refine Is.gx ?_) | ((with_reducible refine Is.new' ?_); focus (simp; done)) | (with_reducible refine Is.alloc ?_) | (with_reducible refine Is.drew ?_)))); (focus (with_reducible (first | exact hl | exact hl1 | exact hl2 | exact hl3 | exact hl4 | exact zeroF_len))))
  go_loop [6] (fun i => ∃ k : Nat, k ≤ 64 ∧ i = .int .i64 k ∧ wideTo F k = false) (fun i => 64 - (intOf i).toNat)
  case atStart => exact ⟨0, Nat.zero_le _, rfl, rfl⟩
  case round =>
    obtain ⟨k, hk, rfl, hrel⟩ := hrel
    by_cases hlt : k < 64
    · have hs : wideTo F (k + 1) = decide (4096 ≤ gw F k) := by show (wideTo F k || _) = _; rw [hrel]; rfl
      by_cases hwide : 4095 < gw F k
      · have hn : Hid (wideB F = true) := by
          show wideTo F 64 = true
          exact wideTo_mono F (k + 1) 64 (by omega) (by rw [hs]; exact decide_eq_true (by omega))
        clear hrel hs
        go_wp2
        go_ret
        exact ⟨by rw [hn.out]; rfl, (by repeat (first | (with_reducible exact Gx.refl _) | (with_reducible assumption) | (with_reducible refine Gx.gx ?_) | (with_reducible refine Gx.alloc ?_) | (with_reducible refine Gx.drew ?_) | (with_reducible refine Gx.drewN ?_) | (with_reducible refine Gx.setRow ?_ (by simp)) | (with_reducible refine Gx.setCell ?_ (by simp))))⟩
      · have hn : Hid (wideTo F (k + 1) = false) := by
          show _ = _
          rw [hs]; exact decide_eq_false (by omega)
        clear hrel hs
        go_wp2
        go_round
        case rel => exact ⟨k + 1, by omega, by go_num, hn.out⟩
        case measure => simp [intOf]; omega
    · obtain rfl : k = 64 := by omega
      have hn : Hid (wideB F = false) := hrel
      clear hrel
      go_wp2
      go_ret
      exact ⟨by rw [hn.out]; rfl, (by repeat (first | (with_reducible exact Gx.refl _) | (with_reducible assumption) | (with_reducible refine Gx.gx ?_) | (with_reducible refine Gx.alloc ?_) | (with_reducible refine Gx.drew ?_) | (with_reducible refine Gx.drewN ?_) | (with_reducible refine Gx.setRow ?_ (by simp)) | (with_reducible refine Gx.setCell ?_ (by simp))))⟩

set_option maxHeartbeats 1000000 in
set_option maxRecDepth 100000 in
theorem check_any (F : List Int) (hF : Fr F) (hn : Narrow F) (w : World) :
    Calls Tryz.prog 155 #[.agg (fc F)] w fun e w' => e = .returned (.int .i64 (chkI F)) ∧ ∃ x, w' = gx w x := by
  have hl := hF.len
  have he := refTo_end F hl hn
  have He := Lib.hid he
  clear he
  have e0 : (0 : Int) = regI (refTo F 0) := by unfold regI; rfl
  have H0 := Lib.hid e0
  clear e0
  go_enter Tryz.func155, Tryz.ntmps155
  go_wp2
  go_loop [3, 4] (fun r i => ∃ k : Nat, k ≤ 766 ∧ i = .int .i64 k ∧ r = .int .i64 (regI (refTo F k))) (fun _ i => 766 - (intOf i).toNat)
  case atStart => exact ⟨0, Nat.zero_le _, rfl, by rw [← H0.out]⟩
  case round =>
    obtain ⟨k, hk, rfl, rfl⟩ := hrel
    have hb := regI_bd (refTo F k)
    have b0 := hb.1
    have b1 := hb.2
    clear hb
    have hc := bitI_bd F k
    have c0 := hc.1
    have c1 := hc.2
    clear hc
    have hr := regI_ref F k
    have Hr := Lib.hid hr
    clear hr
    by_cases hlt : k < 766
    · by_cases hw : k < 744
      · have hq : k / 12 < 64 := by omega
        have k1 : 0 ≤ gw F (k / 12) := (hF.bd _).1
        have k2 : gw F (k / 12) ≤ 4095 := hn _ hq
        have hp : (0 : Int) < 2 ^ (11 - k % 12) := Int.pow_pos (by decide)
        have hd0 : 0 ≤ gw F (k / 12) / 2 ^ (11 - k % 12) := Int.ediv_nonneg k1 (by omega)
        have hd1 : gw F (k / 12) / 2 ^ (11 - k % 12) ≤ gw F (k / 12) := Int.ediv_le_self _ k1
        have hbit : bits .and .i64 (gw F (k / 12) / 2 ^ (11 - k % 12)) 1 = bitI F k := by
          rw [← bitI_word F k hw k1]
          exact bits_mask .i64 63 (by decide) wraps_i64 1 (by decide) _ hd0 (by omega)
        clear hp hd0 hd1
        by_cases hbig : 4194304 ≤ regI (refTo F k) * 2 + bitI F k
        · have hx : bits .xor .i64 (regI (refTo F k) * 2 + bitI F k) 6291471 = regI (refTo F (k + 1)) := by
            rw [bits_xor .i64 63 (by decide) wraps_i64 _ _ (by omega) (by omega) (by omega) (by omega), Hr.out, if_pos hbig]
          go_wp2
          go_round
          case rel => exact ⟨k + 1, by omega, by go_num, rfl⟩
          case measure => simp [intOf]; omega
        · go_wp2
          go_round
          case rel => exact ⟨k + 1, by omega, by go_num, by rw [Hr.out, if_neg hbig]⟩
          case measure => simp [intOf]; omega
      · have hz := bitI_zero F k hw
        by_cases hbig : 4194304 ≤ regI (refTo F k) * 2
        · have hx : bits .xor .i64 (regI (refTo F k) * 2) 6291471 = regI (refTo F (k + 1)) := by
            rw [bits_xor .i64 63 (by decide) wraps_i64 _ _ (by omega) (by omega) (by omega) (by omega), Hr.out, if_pos (by omega), hz, Int.add_zero]
          clear hz
          go_wp2
          go_round
          case rel => exact ⟨k + 1, by omega, by go_num, rfl⟩
          case measure => simp [intOf]; omega
        · have hz' := Lib.hid hz
          clear hz
          go_wp2
          go_round
          case rel => exact ⟨k + 1, by omega, by go_num, by rw [Hr.out, hz'.out, Int.add_zero, if_neg hbig]⟩
          case measure => simp [intOf]; omega
    · obtain rfl : k = 766 := by omega
      go_wp2
      go_ret
      exact ⟨by rw [← He.out]; rfl, (by repeat (first | (with_reducible exact Gx.refl _) | (with_reducible assumption) | (with_reducible refine Gx.gx ?_) | (with_reducible refine Gx.alloc ?_) | (with_reducible refine Gx.drew ?_) | (with_reducible refine Gx.drewN ?_) | (with_reducible refine Gx.setRow ?_ (by simp)) | (with_reducible refine Gx.setCell ?_ (by simp))))⟩

set_option maxHeartbeats 600000 in
set_option maxRecDepth 100000 in
theorem checked_any (F : List Int) (hF : Fr F) (hn : Narrow F) (w : World) :
    Calls Tryz.prog 161 #[.agg (fc F)] w fun e w' => e = .returned (.agg (fc (chkW F))) ∧ ∃ x, w' = gx w x := by
  have hl := hF.len
  have hb := chkI_bd F
  have b0 := hb.1
  have b1 := hb.2
  clear hb
  have e1 : wordI (chkI F / 2048) = hiI F := rfl
  have e2 : wordI (chkI F % 2048) = loI F := rfl
  have q1 := wordI_bd (chkI F / 2048)
  have q2 := wordI_bd (chkI F % 2048)
  rw [e1] at q1
  rw [e2] at q2
  have q3 := q1.1
  have q4 := q1.2
  have q5 := q2.1
  have q6 := q2.2
  clear q1 q2
  have hl2 : (chkW F).length = 64 := (chkW_fr hF).len
  have e3 : (F.set 62 (hiI F)).set 63 (loI F) = chkW F := rfl
  go_enter Tryz.func161, Tryz.ntmps161
  go_wp2_with (first | (refine load_fr rfl _ rfl _ rfl ?_ ?_ ?_ ?_; rotate_left; (focus (repeat (first | (with_reducible exact At.new _ _) | (with_reducible refine At.row ?_) | (with_reducible refine At.gx ?_) | ((with_reducible refine At.new' ?_); focus (simp; done)) | (with_reducible refine At.alloc ?_) | (with_reducible refine At.drew ?_) | (with_reducible exact Is.new _ _ _) | (with_reducible refine Is.row ?_) | (with_reducible refine Is.gx ?_) | ((with_reducible refine Is.new' ?_); focus (simp; done)) | (with_reducible refine Is.alloc ?_) | (with_reducible refine Is.drew ?_)))); (focus (with_reducible (first | exact hl | exact hl1 | exact hl2 | exact hl3 | exact hl4 | exact zeroF_len)))) | (refine store_fr rfl _ _ rfl _ rfl _ rfl ?_ ?_ ?_ ?_ ?_; rotate_left; (focus (repeat (first | (with_reducible exact At.new _ _) | (with_reducible refine At.row ?_) | (with_reducible refine At.gx ?_) | ((with_reducible refine At.new' ?_); focus (simp; done)) | (with_reducible refine At.alloc ?_) | (with_reducible refine At.drew ?_) | (with_reducible exact Is.new _ _ _) | (with_reducible refine Is.row ?_) | (with_reducible refine Is.gx ?_) | ((with_reducible refine Is.new' ?_); focus (simp; done)) | (with_reducible refine Is.alloc ?_) | (with_reducible refine Is.drew ?_)))); (focus (with_reducible (first | exact hl | exact hl1 | exact hl2 | exact hl3 | exact hl4 | exact zeroF_len))); (focus (with_reducible (first | exact hl | exact hl1 | exact hl2 | exact hl3 | exact hl4 | exact zeroF_len)))) | (go_at_call 155; refine (check_any F hF hn _).mono ?_; rintro e w' ⟨rfl, z, rfl⟩) | (go_at_call 160; refine (word_any _ (by omega) (by omega) _).mono ?_; rintro e w' ⟨rfl, rfl⟩))
  (refine ret_fr rfl _ _ _ ?_ rfl rfl ?_ ?_ ?_; rotate_left; (focus (repeat (first | (with_reducible exact At.new _ _) | (with_reducible refine At.row ?_) | (with_reducible refine At.gx ?_) | ((with_reducible refine At.new' ?_); focus (simp; done)) | (with_reducible refine At.alloc ?_) | (with_reducible refine At.drew ?_) | (with_reducible exact Is.new _ _ _) | (with_reducible refine Is.row ?_) | (with_reducible refine Is.gx ?_) | ((with_reducible refine Is.new' ?_); focus (simp; done)) | (with_reducible refine Is.alloc ?_) | (with_reducible refine Is.drew ?_)))); (focus (with_reducible (first | exact hl | exact hl1 | exact hl2 | exact hl3 | exact hl4 | exact zeroF_len))))
  exact ⟨rfl, (by repeat (first | (with_reducible exact Gx.refl _) | (with_reducible assumption) | (with_reducible refine Gx.gx ?_) | (with_reducible refine Gx.alloc ?_) | (with_reducible refine Gx.drew ?_) | (with_reducible refine Gx.drewN ?_) | (with_reducible refine Gx.setRow ?_ (by simp)) | (with_reducible refine Gx.setCell ?_ (by simp))))⟩

set_option maxHeartbeats 600000 in
set_option maxRecDepth 100000 in
theorem Rsealed_any (F : List Int) (hF : Fr F) (hn : Narrow F) (w : World) :
    Calls Tryz.prog 128 #[.agg (fc F)] w fun e w' => e = .returned (.agg (fc (sealI F))) ∧ ∃ x, w' = gx w x := by
  have hl := hF.len
  go_enter Tryz.func128, Tryz.ntmps128
  go_wp2
  go_loopw [3] (fun i wr => ∃ (k : Nat) (x : Ext), k ≤ 60 ∧ i = .int .i64 (k + 1 : Nat) ∧ wr = gx ((w.alloc (.cells (fc (parRTo F k)) 57)).alloc (.cells (fc zeroF) 57)) x) (fun i _ => 62 - (intOf i).toNat)
  case atStart => exact ⟨0, _, Nat.zero_le _, rfl, (gx_none _).symm⟩
  case round =>
    obtain ⟨k, y, hk, rfl, rfl⟩ := hrel
    have hp := parRTo_fr hF k hk
    by_cases hlt : k < 60
    · have hlp := hp.len
      have hlt' : k + 1 < 64 := by omega
      have k1 : 0 ≤ gw (parRTo F k) (k + 1) := (hp.bd _).1
      have k2 : gw (parRTo F k) (k + 1) ≤ 65535 := (hp.bd _).2
      have a0 : 0 ≤ gw (parRTo F k) (k + 1) % 2048 := by omega
      have a1 : gw (parRTo F k) (k + 1) % 2048 ≤ 2047 := by omega
      have ec : wordI (gw (parRTo F k) (k + 1) % 2048) = wordI (gw (parRTo F k) (k + 1)) := wordI_cong _ _ (by omega)
      have e : (parRTo F k).set (k + 1) (wordI (gw (parRTo F k) (k + 1))) = parRTo F (k + 1) := rfl
      have q := wordI_bd (gw (parRTo F k) (k + 1))
      have q1 := q.1
      have q2 := q.2
      clear q
      go_wp2_with (go_at_call 160; refine (word_any _ a0 a1 _).mono ?_; rintro e w' ⟨rfl, rfl⟩)
      go_roundw
      case rel => exact ⟨k + 1, _, by omega, by go_num, rfl⟩
      case measure => simp [intOf]; omega
    · obtain rfl : k = 60 := by omega
      have hnp := parRTo_narrow hF hn 60 hk
      have hsF : sealI F = sealR F := (sealR_eq F hl).symm
      have hsF2 : sealR F = chkW (sumW (syncW (parRTo F 60))) := rfl
      rw [hsF2] at hsF
      clear hsF2
      have Hs := Lib.hid hsF
      clear hsF
      generalize parRTo F 60 = G at *
      clear hl
      have hl := hp.len
      have h2 := syncW_fr hp
      have hn2 := syncW_narrow hp hnp
      have h3 := sumW_fr h2
      have hn3 := sumW_narrow h2 hn2
      have h4 := chkW_fr h3
      have hl2 := h2.len
      have hl3 := h3.len
      have hl4 := h4.len
      have hb := sumI_bd (syncW G)
      have b1 := hb.1
      have b2 := hb.2
      clear hb
      have b3 := (numI_bd G).1
      have q := syncI_bd (numI G)
      have q1 := q.1
      have q2 := q.2
      clear q
      have q := wordI_bd (sumI (syncW G))
      have q3 := q.1
      have q4 := q.2
      clear q
      have e0 : G.set 0 (syncI (numI G)) = syncW G := rfl
      have e1 : (syncW G).set 61 (wordI (sumI (syncW G))) = sumW (syncW G) := rfl
      go_wp2_with (first | (refine load_fr rfl _ rfl _ rfl ?_ ?_ ?_ ?_; rotate_left; (focus (repeat (first | (with_reducible exact At.new _ _) | (with_reducible refine At.row ?_) | (with_reducible refine At.gx ?_) | ((with_reducible refine At.new' ?_); focus (simp; done)) | (with_reducible refine At.alloc ?_) | (with_reducible refine At.drew ?_) | (with_reducible exact Is.new _ _ _) | (with_reducible refine Is.row ?_) | (with_reducible refine Is.gx ?_) | ((with_reducible refine Is.new' ?_); focus (simp; done)) | (with_reducible refine Is.alloc ?_) | (with_reducible refine Is.drew ?_)))); (focus (with_reducible (first | exact hl | exact hl1 | exact hl2 | exact hl3 | exact hl4 | exact zeroF_len)))) | (refine store_fr rfl _ _ rfl _ rfl _ rfl ?_ ?_ ?_ ?_ ?_; rotate_left; (focus (repeat (first | (with_reducible exact At.new _ _) | (with_reducible refine At.row ?_) | (with_reducible refine At.gx ?_) | ((with_reducible refine At.new' ?_); focus (simp; done)) | (with_reducible refine At.alloc ?_) | (with_reducible refine At.drew ?_) | (with_reducible exact Is.new _ _ _) | (with_reducible refine Is.row ?_) | (with_reducible refine Is.gx ?_) | ((with_reducible refine Is.new' ?_); focus (simp; done)) | (with_reducible refine Is.alloc ?_) | (with_reducible refine Is.drew ?_)))); (focus (with_reducible (first | exact hl | exact hl1 | exact hl2 | exact hl3 | exact hl4 | exact zeroF_len))); (focus (with_reducible (first | exact hl | exact hl1 | exact hl2 | exact hl3 | exact hl4 | exact zeroF_len)))) | (go_at_call 154; refine (Rsum_any _ h2 _).mono ?_; rintro e w' ⟨rfl, z, rfl⟩) | (go_at_call 124; refine (RnumberOf_any G hp _).mono ?_; rintro e w' ⟨rfl, z, rfl⟩) | (go_at_call 153; refine (syncOf_any _ b3 _).mono ?_; rintro e w' ⟨rfl, rfl⟩) | (go_at_call 161; refine (checked_any _ h3 hn3 _).mono ?_; rintro e w' ⟨rfl, z, rfl⟩) | (go_at_call 160; refine (word_any _ b1 b2 _).mono ?_; rintro e w' ⟨rfl, rfl⟩))
      (refine ret_fr rfl _ _ _ ?_ rfl rfl ?_ ?_ ?_; rotate_left; (focus (repeat (first | (with_reducible exact At.new _ _) | (with_reducible refine At.row ?_) | (with_reducible refine At.gx ?_) | ((with_reducible refine At.new' ?_); focus (simp; done)) | (with_reducible refine At.alloc ?_) | (with_reducible refine At.drew ?_) | (with_reducible exact Is.new _ _ _) | (with_reducible refine Is.row ?_) | (with_reducible refine Is.gx ?_) | ((with_reducible refine Is.new' ?_); focus (simp; done)) | (with_reducible refine Is.alloc ?_) | (with_reducible refine Is.drew ?_)))); (focus (with_reducible (first | exact hl | exact hl1 | exact hl2 | exact hl3 | exact hl4 | exact zeroF_len))))
      exact ⟨by rw [Hs.out], (by repeat (first | (with_reducible exact Gx.refl _) | (with_reducible assumption) | (with_reducible refine Gx.gx ?_) | (with_reducible refine Gx.alloc ?_) | (with_reducible refine Gx.drew ?_) | (with_reducible refine Gx.drewN ?_) | (with_reducible refine Gx.setRow ?_ (by simp)) | (with_reducible refine Gx.setCell ?_ (by simp))))⟩

end Go.Proofs.YthkccbeffonaaaaGreatDoor
