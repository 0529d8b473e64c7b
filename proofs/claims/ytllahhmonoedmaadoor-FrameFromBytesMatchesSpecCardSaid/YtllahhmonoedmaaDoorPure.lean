/-
  Plain mathematics of chapter 1: ones, parities, the remainder of the check (the program's division by words and the reference's by bits have one remainder), frames as lists of numbers. Nothing of the program stands here.
-/
import Derived.Lib.BitFns
namespace Go.Proofs.YtllahhmonoedmaaDoor

/-- The number of ones among the lowest bits. -/
def pop : Nat → Nat → Nat
  | 0, _ => 0
  | f + 1, n => n % 2 + pop f (n / 2)

theorem pop_zero : ∀ f, pop f 0 = 0
  | 0 => rfl
  | f + 1 => by simp [pop, pop_zero f]

theorem pop_add (f g n : Nat) : pop (f + g) n = pop f n + pop g (n / 2 ^ f) := by
  induction f generalizing n with
  | zero => simp [pop]
  | succ f ih =>
    rw [show f + 1 + g = (f + g) + 1 by omega]
    simp only [pop]
    rw [ih, Nat.pow_succ', Nat.div_div_eq_div_mul]
    omega

theorem pop_more (f n : Nat) (h : n < 2 ^ f) : ∀ g, pop (f + g) n = pop f n := by
  intro g
  rw [pop_add, Nat.div_eq_of_lt h, pop_zero]; rfl

theorem pop_mod (f n : Nat) : pop f (n % 2 ^ f) = pop f n := by
  induction f generalizing n with
  | zero => rfl
  | succ f ih =>
    simp only [pop]
    rw [← ih (n / 2)]
    congr 1
    · rw [Nat.pow_succ', Nat.mod_mul_right_mod]
    · rw [Nat.pow_succ', Nat.mod_mul_right_div_self]

/-- The number of ones of a number of 16 bits. -/
def ones (n : Nat) : Nat := pop 16 n
def odd (n : Nat) : Bool := ones n % 2 == 1

theorem ones_split (n : Nat) : ones n = pop 8 (n / 256) + pop 8 (n % 256) := by
  unfold ones
  rw [show (16 : Nat) = 8 + 8 from rfl, pop_add, ← pop_mod 8 n]
  exact Nat.add_comm _ _

/-- The word with some data. -/
def word (d : Nat) : Nat := if odd d then d else d + 2048

def shB (x : BitVec 22) : BitVec 22 := (x <<< 1) ^^^ (if x.msb then 0x20000F#22 else 0#22)

theorem shB_xor (a b : BitVec 22) : shB (a ^^^ b) = shB a ^^^ shB b := by
  unfold shB
  rw [BitVec.shiftLeft_xor_distrib, BitVec.msb_xor]
  have h : ∀ c x y : BitVec 22, (x ^^^ c) ^^^ (y ^^^ c) = x ^^^ y := by
    intro c x y
    rw [BitVec.xor_assoc, ← BitVec.xor_assoc c y c, BitVec.xor_comm c y, BitVec.xor_assoc y c c, BitVec.xor_self, BitVec.xor_zero]
  cases a.msb <;> cases b.msb <;> simp
  · ac_rfl
  · ac_rfl
  · exact (h _ _ _).symm

def itB : Nat → BitVec 22 → BitVec 22
  | 0, x => x
  | n + 1, x => itB n (shB x)

theorem itB_xor : ∀ (n : Nat) (a b : BitVec 22), itB n (a ^^^ b) = itB n a ^^^ itB n b
  | 0, _, _ => rfl
  | n + 1, a, b => by simp only [itB]; rw [shB_xor, itB_xor n]

theorem itB_add (m n : Nat) (a : BitVec 22) : itB (m + n) a = itB n (itB m a) := by
  induction m generalizing a with
  | zero => simp [itB]
  | succ m ih => rw [show m + 1 + n = (m + n) + 1 by omega]; simp only [itB]; exact ih _

theorem itB_zero : ∀ n, itB n 0#22 = 0#22
  | 0 => rfl
  | n + 1 => by simp only [itB]; rw [show shB 0#22 = 0#22 from by decide]; exact itB_zero n

theorem xor_lt_top (n a b : Nat) (ha : 2 ^ n ≤ a) (ha' : a < 2 ^ (n + 1)) (hb : 2 ^ n ≤ b) (hb' : b < 2 ^ (n + 1)) : a ^^^ b < 2 ^ n := by
  have h : (a ^^^ b) / 2 ^ n = 0 := by
    rw [Nat.xor_div_two_pow]
    have h1 : a / 2 ^ n = 1 := by
      apply Nat.div_eq_of_lt_le <;> simp <;> omega
    have h2 : b / 2 ^ n = 1 := by
      apply Nat.div_eq_of_lt_le <;> simp <;> omega
    rw [h1, h2]; rfl
  have := Nat.div_eq_zero_iff.1 h
  have hp : 0 < 2 ^ n := Nat.two_pow_pos n
  omega

/-- One step of the division as the program takes it: the bit that leaves at the top is one of the polynomial too. -/
theorem sh_nat (x : BitVec 22) : (x.toNat * 2) ^^^ (x.toNat / 2097152 * 6291471) = (shB x).toNat := by
  have hx := x.isLt
  have hlt : (x.toNat * 2) ^^^ (x.toNat / 2097152 * 6291471) < 2 ^ 22 := by
    by_cases h : x.toNat < 2097152
    · rw [Nat.div_eq_of_lt h]; simp; omega
    · rw [show x.toNat / 2097152 = 1 by omega]
      exact xor_lt_top 22 _ _ (by omega) (by omega) (by decide) (by decide)
  rw [← Nat.mod_eq_of_lt hlt, Nat.xor_mod_two_pow]
  unfold shB
  rw [BitVec.toNat_xor, BitVec.toNat_shiftLeft, BitVec.msb_eq_decide]
  congr 1
  · rw [Nat.shiftLeft_eq]
  by_cases h : x.toNat < 2097152
  · rw [Nat.div_eq_of_lt h, if_neg (by simp; omega)]; rfl
  · rw [show x.toNat / 2097152 = 1 by omega, if_pos (by simp; omega)]; rfl

theorem twice_xor (a b : Nat) (hb : b < 2) : a * 2 + b = (a * 2) ^^^ b := by
  have h0 : a * 2 ^^^ 1 = a * 2 + 1 := by
    apply Nat.eq_of_testBit_eq; intro i
    rw [Nat.testBit_xor]
    cases i with
    | zero => simp [Nat.testBit_zero, Nat.add_mod]
    | succ i =>
      rw [Nat.testBit_succ, Nat.testBit_succ, Nat.testBit_succ]
      rw [show a * 2 / 2 = a by omega, show (a * 2 + 1) / 2 = a by omega]; simp
  have : b = 0 ∨ b = 1 := by omega
  rcases this with rfl | rfl
  · simp
  · exact h0.symm

/-- One step of the division as the reference takes it. -/
def rstep (r b : Nat) : Nat := if 4194304 ≤ r * 2 + b then (r * 2 + b) ^^^ 6291471 else r * 2 + b

theorem rstep_eq (x : BitVec 22) (b : Nat) (hb : b < 2) : rstep x.toNat b = (shB x ^^^ BitVec.ofNat 22 b).toNat := by
  have hx := x.isLt
  rw [BitVec.toNat_xor, ← sh_nat, BitVec.toNat_ofNat, Nat.mod_eq_of_lt (show b < 2 ^ 22 by omega)]
  unfold rstep
  by_cases h : x.toNat < 2097152
  · rw [if_neg (by omega), Nat.div_eq_of_lt h, twice_xor _ _ hb]; simp
  · rw [if_pos (by omega), show x.toNat / 2097152 = 1 by omega, twice_xor _ _ hb]
    simp only [Nat.one_mul]
    rw [Nat.xor_assoc, Nat.xor_assoc, Nat.xor_comm b]

/-- The remainder of some words. -/
def crcB : List Nat → BitVec 22 → BitVec 22
  | [], r => r
  | w :: l, r => crcB l (itB 12 (r ^^^ BitVec.ofNat 22 (w * 1024)))

theorem crcB_append : ∀ (l m : List Nat) (r : BitVec 22), crcB (l ++ m) r = crcB m (crcB l r)
  | [], _, _ => rfl
  | w :: l, m, r => by simp only [List.cons_append, crcB]; exact crcB_append l m _

def crc (l : List Nat) : Nat := (crcB l 0#22).toNat

theorem crc_lt (l : List Nat) : crc l < 4194304 := (crcB l 0#22).isLt

/-- The bits of a word from the highest one. -/
def rword (w : Nat) (r : Nat) : Nat → Nat
  | 0 => r
  | k + 1 => rstep (rword w r k) (w / 2 ^ (11 - k) % 2)

/-- The register of the reference behind k bits of a word: the bits so far. -/
theorem rword_eq (w : Nat) (hw : w < 4096) (x : BitVec 22) : ∀ k, k ≤ 12 → rword w x.toNat k = (itB k x ^^^ BitVec.ofNat 22 (w / 2 ^ (12 - k))).toNat := by
  intro k
  induction k with
  | zero =>
    intro _
    simp [rword, itB, Nat.div_eq_of_lt hw]
  | succ k ih =>
    intro hk
    simp only [rword]
    rw [ih (by omega), rstep_eq _ _ (by omega), shB_xor]
    rw [itB_add k 1 x]
    simp only [itB]
    rw [BitVec.xor_assoc]
    congr 2
    have hq : w / 2 ^ (12 - k) < 2097152 := by
      have : w / 2 ^ (12 - k) ≤ w := Nat.div_le_self _ _
      omega
    apply BitVec.eq_of_toNat_eq
    rw [BitVec.toNat_xor, ← sh_nat, BitVec.toNat_ofNat, BitVec.toNat_ofNat, BitVec.toNat_ofNat]
    have e : w / 2 ^ (12 - (k + 1)) = w / 2 ^ (12 - k) * 2 + w / 2 ^ (11 - k) % 2 := by
      rw [show 12 - (k + 1) = 11 - k by omega, show 12 - k = (11 - k) + 1 by omega, Nat.pow_succ, ← Nat.div_div_eq_div_mul]
      omega
    have hq2 : w / 2 ^ (12 - (k + 1)) < 4194304 := by
      have : w / 2 ^ (12 - (k + 1)) ≤ w := Nat.div_le_self _ _
      omega
    rw [Nat.mod_eq_of_lt (show w / 2 ^ (12 - k) < 2 ^ 22 by omega), Nat.mod_eq_of_lt hq2, e, Nat.mod_eq_of_lt (show w / 2 ^ (11 - k) % 2 < 2 ^ 22 by omega), Nat.div_eq_of_lt hq, twice_xor _ _ (by omega)]
    simp

theorem it_small : ∀ (n : Nat) (w : Nat), w * 2 ^ n < 4194304 → itB n (BitVec.ofNat 22 w) = BitVec.ofNat 22 (w * 2 ^ n)
  | 0, w, _ => by simp [itB]
  | n + 1, w, h => by
    have h1 : w * 2 * 2 ^ n < 4194304 := by rw [Nat.mul_assoc, ← Nat.pow_succ']; exact h
    have h2 : w * 2 < 4194304 := by
      have : w * 2 ≤ w * 2 * 2 ^ n := Nat.le_mul_of_pos_right _ (Nat.two_pow_pos n)
      omega
    simp only [itB]
    have e : shB (BitVec.ofNat 22 w) = BitVec.ofNat 22 (w * 2) := by
      apply BitVec.eq_of_toNat_eq
      rw [← sh_nat, BitVec.toNat_ofNat, BitVec.toNat_ofNat, Nat.mod_eq_of_lt (show w < 2 ^ 22 by omega), Nat.mod_eq_of_lt (show w * 2 < 2 ^ 22 by omega), Nat.div_eq_of_lt (by omega)]
      simp
    rw [e, it_small n _ h1, Nat.pow_succ', Nat.mul_assoc]

/-- The register of the reference behind some words. -/
def rwords : List Nat → Nat → Nat
  | [], r => r
  | w :: l, r => rwords l (rword w r 12)

def rB : List Nat → BitVec 22 → BitVec 22
  | [], r => r
  | w :: l, r => rB l (itB 12 r ^^^ BitVec.ofNat 22 w)

theorem rwords_eq : ∀ (l : List Nat) (x : BitVec 22), (∀ w ∈ l, w < 4096) → rwords l x.toNat = (rB l x).toNat
  | [], _, _ => rfl
  | w :: l, x, h => by
    simp only [rwords, rB]
    rw [rword_eq w (h w (by simp)) x 12 (by omega)]
    simp only [Nat.sub_self, Nat.pow_zero, Nat.div_one]
    exact rwords_eq l _ fun v hv => h v (by simp [hv])

theorem rB_crcB : ∀ (l : List Nat) (x : BitVec 22), (∀ w ∈ l, w < 4096) → itB 22 (rB l x) = crcB l (itB 22 x)
  | [], _, _ => rfl
  | w :: l, x, h => by
    have hw := h w (by simp)
    simp only [rB, crcB]
    rw [rB_crcB l _ fun v hv => h v (by simp [hv])]
    congr 1
    rw [itB_xor, itB_xor, ← itB_add, Nat.add_comm 12 22, itB_add 22 12]
    congr 1
    have e := itB_add 10 12 (BitVec.ofNat 22 w)
    rw [it_small 10 w (by omega)] at e
    exact e

/-- Zero bits at the end. -/
def rzeros (r : Nat) : Nat → Nat
  | 0 => r
  | k + 1 => rstep (rzeros r k) 0

theorem rzeros_eq (x : BitVec 22) : ∀ k, rzeros x.toNat k = (itB k x).toNat
  | 0 => rfl
  | k + 1 => by
    simp only [rzeros]
    rw [rzeros_eq x k, rstep_eq _ 0 (by omega), itB_add k 1]
    simp [itB]

/-- Both divisions have the same remainder. -/
theorem rzeros_crc (l : List Nat) (h : ∀ w ∈ l, w < 4096) : rzeros (rwords l 0) 22 = crc l := by
  have e0 : (0 : Nat) = (0#22).toNat := rfl
  rw [e0, rwords_eq l _ h, rzeros_eq, rB_crcB l _ h, itB_zero]
  rfl


/-! Numbers as the walks write them. -/
def onesI (a : Int) : Int := (ones a.toNat : Int)
theorem pop_le : ∀ f n, pop f n ≤ f
  | 0, _ => Nat.le_refl _
  | f + 1, n => by simp only [pop]; have := pop_le f (n / 2); omega
theorem onesI_bd (a : Int) : 0 ≤ onesI a ∧ onesI a ≤ 16 := by
  unfold onesI ones; have := pop_le 16 a.toNat; omega
theorem popAux_pop : ∀ f n, Lib.popAux f n = pop f n
  | 0, _ => rfl
  | f + 1, n => by simp only [Lib.popAux, pop]; rw [popAux_pop f]
theorem pop8_pop (b : Int) (h0 : 0 ≤ b) (h1 : b ≤ 255) : Lib.pop8 b = (pop 8 b.toNat : Int) := by
  have e := Lib.pop8_eq ⟨b.toNat, by omega⟩
  simp only [Int.toNat_of_nonneg h0] at e
  rw [e]
  unfold Lib.onesCount
  rw [popAux_pop, show (64 : Nat) = 8 + 56 from rfl, pop_more 8 _ (by omega)]
theorem pop8_sum (a : Int) (h0 : 0 ≤ a) (h1 : a ≤ 65535) : (Lib.pop8 (a / 256) + Lib.pop8 (a % 256)) % 256 = onesI a := by
  rw [pop8_pop _ (by omega) (by omega), pop8_pop _ (by omega) (by omega)]
  unfold onesI
  rw [ones_split, show (a / 256).toNat = a.toNat / 256 by omega, show (a % 256).toNat = a.toNat % 256 by omega]
  have := pop_le 8 (a.toNat / 256)
  have := pop_le 8 (a.toNat % 256)
  omega
def oddI (a : Int) : Bool := onesI a % 2 == 1
theorem oddI_eq (a : Int) : (onesI a % 2 == 1) = oddI a := rfl
theorem onesI_step (m : Int) (h0 : 0 ≤ m) (h1 : m ≤ 65535) : onesI m = m % 2 + onesI (m / 2) := by
  unfold onesI ones
  rw [show (m / 2).toNat = m.toNat / 2 by omega]
  have e : pop 16 (m.toNat / 2) = pop 15 (m.toNat / 2) := pop_more 15 _ (by omega) 1
  rw [e]
  show ((m.toNat % 2 + pop 15 (m.toNat / 2) : Nat) : Int) = _
  omega
theorem onesI_zero : onesI 0 = 0 := rfl
def wordI (a : Int) : Int := if oddI (a % 2048) then a % 2048 else a % 2048 + 2048
theorem wordI_bd (a : Int) : 0 ≤ wordI a ∧ wordI a ≤ 4095 := by unfold wordI; split <;> omega
theorem wordI_mod (a : Int) : wordI a % 2048 = a % 2048 := by unfold wordI; split <;> omega
theorem wordI_cong (a b : Int) (h : a % 2048 = b % 2048) : wordI a = wordI b := by unfold wordI; rw [h]
def syncT (k : Nat) : Int := if k = 0 then 583 else if k = 1 then 1464 else if k = 2 then 2631 else 3512
def syncI (n : Int) : Int := syncT (n % 4).toNat
theorem syncI_bd (n : Int) : 583 ≤ syncI n ∧ syncI n ≤ 3512 := by
  unfold syncI syncT; split; omega; split; omega; split <;> omega
def xorI (a b : Int) : Int := ((a.toNat ^^^ b.toNat : Nat) : Int)
/-- The word k of a frame. -/
@[irreducible] def gw (F : List Int) (k : Nat) : Int := F.getD k 0
theorem gw_set (F : List Int) (i k : Nat) (v : Int) (h : i < F.length) : gw (F.set i v) k = if k = i then v else gw F k := by
  unfold gw
  by_cases e : k = i
  · subst e; simp [List.getD, h]
  · rw [if_neg e]; simp [List.getD, Ne.symm e]
def numI (F : List Int) : Int := gw F 1 % 2048 + gw F 2 % 2048 * 2048
theorem numI_bd (F : List Int) : 0 ≤ numI F ∧ numI F < 4194304 := by unfold numI; omega
/-- The exclusive or of the data of the words 1 to k. -/
def sumTo (F : List Int) : Nat → Int
  | 0 => 0
  | k + 1 => xorI (sumTo F k) (gw F (k + 1) % 2048)
def sumI (F : List Int) : Int := sumTo F 60
theorem xorI_bd (j : Nat) (a b : Int) (ha : a < 2 ^ j) (hb : b < 2 ^ j) : 0 ≤ xorI a b ∧ xorI a b < 2 ^ j := by
  unfold xorI
  have hp : (0 : Int) < 2 ^ j := Int.pow_pos (by decide)
  have h1 : a.toNat < 2 ^ j := by
    have : ((a.toNat : Nat) : Int) < ((2 ^ j : Nat) : Int) := by rw [Int.natCast_pow]; show (a.toNat : Int) < 2 ^ j; omega
    omega
  have h2 : b.toNat < 2 ^ j := by
    have : ((b.toNat : Nat) : Int) < ((2 ^ j : Nat) : Int) := by rw [Int.natCast_pow]; show (b.toNat : Int) < 2 ^ j; omega
    omega
  have h3 := Nat.xor_lt_two_pow h1 h2
  refine ⟨by omega, ?_⟩
  have : ((a.toNat ^^^ b.toNat : Nat) : Int) < ((2 ^ j : Nat) : Int) := by omega
  rwa [Int.natCast_pow] at this
theorem sumTo_bd (F : List Int) : ∀ k, 0 ≤ sumTo F k ∧ sumTo F k ≤ 2047
  | 0 => by simp [sumTo]
  | k + 1 => by
    have h := sumTo_bd F k
    have := xorI_bd 11 (sumTo F k) (gw F (k + 1) % 2048) (by omega) (by omega)
    simp only [sumTo]; omega
theorem sumI_bd (F : List Int) : 0 ≤ sumI F ∧ sumI F ≤ 2047 := sumTo_bd F 60

/-- A register of 22 bits as a number. -/
@[irreducible] def regI (x : BitVec 22) : Int := (x.toNat : Int)
theorem regI_bd (x : BitVec 22) : 0 ≤ regI x ∧ regI x < 4194304 := by unfold regI; have := x.isLt; omega
/-- The register behind k words. -/
def crcTo (F : List Int) (k : Nat) : BitVec 22 := crcB ((F.take k).map Int.toNat) 0#22
def mixW (x : BitVec 22) (a : Int) : BitVec 22 := x ^^^ BitVec.ofNat 22 (a.toNat * 1024)
theorem crcTo_succ (F : List Int) (k : Nat) (h : k < F.length) : crcTo F (k + 1) = itB 12 (mixW (crcTo F k) (gw F k)) := by
  unfold crcTo mixW
  rw [List.take_succ_eq_append_getElem h, List.map_append, crcB_append]
  simp [crcB, gw, List.getD, List.getElem?_eq_getElem h]
/-- Has a frame a word of more than 12 bits among the first k? -/
def wideTo (F : List Int) : Nat → Bool
  | 0 => false
  | k + 1 => wideTo F k || decide (4096 ≤ gw F k)
def wideB (F : List Int) : Bool := wideTo F 64
theorem wideTo_false (F : List Int) : ∀ k, wideTo F k = false ↔ ∀ j, j < k → gw F j ≤ 4095
  | 0 => by simp [wideTo]
  | k + 1 => by
    simp only [wideTo, Bool.or_eq_false_iff, wideTo_false F k, decide_eq_false_iff_not]
    constructor
    · rintro ⟨h1, h2⟩ j hj
      rcases Nat.lt_or_ge j k with h | h
      · exact h1 j h
      · obtain rfl : j = k := by omega
        omega
    · intro h
      exact ⟨fun j hj => h j (by omega), by have := h k (by omega); omega⟩
theorem wideTo_mono (F : List Int) (k m : Nat) (h : k ≤ m) (hk : wideTo F k = true) : wideTo F m = true := by
  cases hm : wideTo F m with
  | true => rfl
  | false =>
    have := (wideTo_false F k).2 fun j hj => (wideTo_false F m).1 hm j (by omega)
    rw [this] at hk; cases hk
def chkI (F : List Int) : Int := regI (crcTo F 62)
theorem regI_mix (x : BitVec 22) (a : Int) (h0 : 0 ≤ a) (h1 : a ≤ 4095) : xorI (regI x) (a * 1024) = regI (mixW x a) := by
  unfold xorI regI mixW
  rw [BitVec.toNat_xor, BitVec.toNat_ofNat, Nat.mod_eq_of_lt (by omega), show (a * 1024).toNat = a.toNat * 1024 by omega, Int.toNat_natCast]
theorem regI_sh (x : BitVec 22) : xorI (regI x * 2) (regI x / 2097152 * 6291471) = regI (shB x) := by
  unfold xorI regI
  have e1 : ((x.toNat : Int) * 2).toNat = x.toNat * 2 := by omega
  have e2 : ((x.toNat : Int) / 2097152 * 6291471).toNat = x.toNat / 2097152 * 6291471 := by omega
  rw [e1, e2, sh_nat]
theorem itB_succ (j : Nat) (x : BitVec 22) : itB (j + 1) x = shB (itB j x) := by
  rw [itB_add j 1]; rfl
/-! Check words, and sealing. -/
def hiI (F : List Int) : Int := wordI (chkI F / 2048)
def loI (F : List Int) : Int := wordI (chkI F % 2048)
def parTo (F : List Int) : Nat → List Int
  | 0 => F.set 0 (syncI (numI F))
  | k + 1 => (parTo F k).set (k + 1) (wordI (gw (parTo F k) (k + 1)))
def sumW (F : List Int) : List Int := F.set 61 (wordI (sumI F))
def chkW (F : List Int) : List Int := (F.set 62 (hiI F)).set 63 (loI F)
def sealI (F : List Int) : List Int := chkW (sumW (parTo F 60))
theorem parTo_len (F : List Int) : ∀ k, (parTo F k).length = F.length
  | 0 => by simp [parTo]
  | k + 1 => by simp [parTo, parTo_len F k]
theorem sealI_len (F : List Int) : (sealI F).length = F.length := by simp [sealI, chkW, sumW, parTo_len]
/-- A frame: 64 numbers of 16 bits. -/
structure Fr (F : List Int) : Prop where
  len : F.length = 64
  bd : ∀ k, 0 ≤ gw F k ∧ gw F k ≤ 65535
/-- .. of words of 12 bits. -/
def Narrow (F : List Int) : Prop := ∀ k, k < 64 → gw F k ≤ 4095
theorem Fr.set {F : List Int} (h : Fr F) (i : Nat) (v : Int) (hi : i < 64) (h0 : 0 ≤ v) (h1 : v ≤ 65535) : Fr (F.set i v) :=
  ⟨by simp [h.len], fun k => by rw [gw_set F i k v (by rw [h.len]; exact hi)]; split; exact ⟨h0, h1⟩; exact h.bd k⟩
theorem Narrow.set {F : List Int} (hl : F.length = 64) (h : Narrow F) (i : Nat) (v : Int) (hi : i < 64) (h1 : v ≤ 4095) : Narrow (F.set i v) := by
  intro k hk
  rw [gw_set F i k v (by omega)]
  split
  · exact h1
  · exact h k hk
theorem parTo_fr {F : List Int} (h : Fr F) : ∀ k, k ≤ 60 → Fr (parTo F k)
  | 0, _ => h.set 0 _ (by omega) (by have := syncI_bd (numI F); omega) (by have := syncI_bd (numI F); omega)
  | k + 1, hk => (parTo_fr h k (by omega)).set _ _ (by omega) (wordI_bd _).1 (by have := wordI_bd (gw (parTo F k) (k + 1)); omega)
theorem parTo_narrow {F : List Int} (h : Fr F) (hn : Narrow F) : ∀ k, k ≤ 60 → Narrow (parTo F k)
  | 0, _ => hn.set h.len 0 _ (by omega) (by have := syncI_bd (numI F); omega)
  | k + 1, hk => (parTo_narrow h hn k (by omega)).set (parTo_fr h k (by omega)).len _ _ (by omega) (wordI_bd _).2
theorem sumW_fr {F : List Int} (h : Fr F) : Fr (sumW F) := h.set 61 _ (by omega) (wordI_bd _).1 (by have := wordI_bd (sumI F); omega)
theorem sumW_narrow {F : List Int} (h : Fr F) (hn : Narrow F) : Narrow (sumW F) := hn.set h.len 61 _ (by omega) (wordI_bd _).2
theorem chkW_fr {F : List Int} (h : Fr F) : Fr (chkW F) := (h.set 62 (hiI F) (by omega) (wordI_bd _).1 (by have := wordI_bd (chkI F / 2048); unfold hiI; omega)).set 63 _ (by omega) (wordI_bd _).1 (by have := wordI_bd (chkI F % 2048); unfold loI; omega)
theorem chkW_narrow {F : List Int} (h : Fr F) (hn : Narrow F) : Narrow (chkW F) := (hn.set h.len 62 (hiI F) (by omega) (wordI_bd _).2).set (by simp [h.len]) 63 _ (by omega) (wordI_bd _).2
theorem sealI_fr {F : List Int} (h : Fr F) : Fr (sealI F) := chkW_fr (sumW_fr (parTo_fr h 60 (by omega)))
theorem sealI_narrow {F : List Int} (h : Fr F) (hn : Narrow F) : Narrow (sealI F) := chkW_narrow (sumW_fr (parTo_fr h 60 (by omega))) (sumW_narrow (parTo_fr h 60 (by omega)) (parTo_narrow h hn 60 (by omega)))
theorem chkI_bd (F : List Int) : 0 ≤ chkI F ∧ chkI F < 4194304 := regI_bd _
theorem wideB_false {F : List Int} : wideB F = false ↔ Narrow F := wideTo_false F 64
/-- What Seal hands back, and with which error. -/
def sealF (F Z : List Int) : List Int := if wideB F then Z else sealI F
def wideE (F : List Int) : Int := if wideB F then 9 else 0
def toldI (a : Int) : Bool := decide (a < 4096) && oddI a
/-! The reference's way of sealing. -/
theorem ext_gw {F G : List Int} (hl : F.length = G.length) (h : ∀ k, k < F.length → gw F k = gw G k) : F = G := by
  apply List.ext_getElem hl
  intro k h1 h2
  have := h k h1
  unfold gw at this
  simpa [List.getD, List.getElem?_eq_getElem h1, List.getElem?_eq_getElem h2] using this
def parRTo (F : List Int) : Nat → List Int
  | 0 => F
  | k + 1 => (parRTo F k).set (k + 1) (wordI (gw (parRTo F k) (k + 1)))
theorem parRTo_len (F : List Int) : ∀ k, (parRTo F k).length = F.length
  | 0 => rfl
  | k + 1 => by simp [parRTo, parRTo_len F k]
theorem gw_parTo (F : List Int) (hl : F.length = 64) : ∀ k, k ≤ 60 → ∀ j, gw (parTo F k) j = if j = 0 then syncI (numI F) else if j ≤ k then wordI (gw F j) else gw F j
  | 0, _, j => by
    simp only [parTo]
    rw [gw_set F 0 j _ (by omega)]
    by_cases h : j = 0
    · simp [h]
    · rw [if_neg h, if_neg h, if_neg (by omega)]
  | k + 1, hk, j => by
    simp only [parTo]
    rw [gw_set _ _ _ _ (by rw [parTo_len]; omega), gw_parTo F hl k (by omega) j, gw_parTo F hl k (by omega) (k + 1)]
    by_cases h : j = k + 1
    · subst h; simp [show ¬ (k + 1 ≤ k) by omega]
    · rw [if_neg h]
      by_cases h0 : j = 0
      · simp [h0]
      · rw [if_neg h0, if_neg h0]
        by_cases h1 : j ≤ k
        · rw [if_pos h1, if_pos (by omega)]
        · rw [if_neg h1, if_neg (by omega)]
theorem gw_parRTo (F : List Int) (hl : F.length = 64) : ∀ k, k ≤ 60 → ∀ j, gw (parRTo F k) j = if j = 0 then gw F 0 else if j ≤ k then wordI (gw F j) else gw F j
  | 0, _, j => by
    simp only [parRTo]
    by_cases h : j = 0
    · simp [h]
    · rw [if_neg h, if_neg (by omega)]
  | k + 1, hk, j => by
    simp only [parRTo]
    rw [gw_set _ _ _ _ (by rw [parRTo_len]; omega), gw_parRTo F hl k (by omega) j, gw_parRTo F hl k (by omega) (k + 1)]
    by_cases h : j = k + 1
    · subst h; simp [show ¬ (k + 1 ≤ k) by omega]
    · rw [if_neg h]
      by_cases h0 : j = 0
      · simp [h0]
      · rw [if_neg h0, if_neg h0]
        by_cases h1 : j ≤ k
        · rw [if_pos h1, if_pos (by omega)]
        · rw [if_neg h1, if_neg (by omega)]
def syncW (F : List Int) : List Int := F.set 0 (syncI (numI F))
def sealR (F : List Int) : List Int := chkW (sumW (syncW (parRTo F 60)))
theorem sealR_key (F : List Int) (hl : F.length = 64) : syncW (parRTo F 60) = parTo F 60 := by
  apply ext_gw
  · simp [syncW, parRTo_len, parTo_len]
  · intro k _
    unfold syncW
    rw [gw_set _ _ _ _ (by rw [parRTo_len]; omega), gw_parTo F hl 60 (by omega) k, gw_parRTo F hl 60 (by omega) k]
    have e : numI (parRTo F 60) = numI F := by
      unfold numI
      rw [gw_parRTo F hl 60 (by omega) 1, gw_parRTo F hl 60 (by omega) 2]
      simp [wordI_mod]
    rw [e]
    by_cases h : k = 0
    · simp [h]
    · rw [if_neg h, if_neg h, if_neg h]
theorem sealR_eq (F : List Int) (hl : F.length = 64) : sealR F = sealI F := by
  have key : syncW (parRTo F 60) = parTo F 60 := sealR_key F hl
  unfold sealR sealI
  rw [key]
theorem parRTo_fr {F : List Int} (h : Fr F) : ∀ k, k ≤ 60 → Fr (parRTo F k)
  | 0, _ => h
  | k + 1, hk => (parRTo_fr h k (by omega)).set _ _ (by omega) (wordI_bd _).1 (by have := wordI_bd (gw (parRTo F k) (k + 1)); omega)
theorem parRTo_narrow {F : List Int} (h : Fr F) (hn : Narrow F) : ∀ k, k ≤ 60 → Narrow (parRTo F k)
  | 0, _ => hn
  | k + 1, hk => (parRTo_narrow h hn k (by omega)).set (parRTo_fr h k (by omega)).len _ _ (by omega) (wordI_bd _).2
theorem syncW_fr {F : List Int} (h : Fr F) : Fr (syncW F) := h.set 0 _ (by omega) (by have := syncI_bd (numI F); omega) (by have := syncI_bd (numI F); omega)
theorem syncW_narrow {F : List Int} (h : Fr F) (hn : Narrow F) : Narrow (syncW F) := hn.set h.len 0 _ (by omega) (by have := syncI_bd (numI F); omega)

/-! The reference's division, bit by bit. -/
def bitF (F : List Int) (i : Nat) : Nat := if i < 744 then (gw F (i / 12)).toNat / 2 ^ (11 - i % 12) % 2 else 0
def refTo (F : List Int) : Nat → BitVec 22
  | 0 => 0#22
  | i + 1 => shB (refTo F i) ^^^ BitVec.ofNat 22 (bitF F i)
theorem bitF_lt (F : List Int) (i : Nat) : bitF F i < 2 := by unfold bitF; split <;> omega
theorem regI_step (r : BitVec 22) (b : Nat) (hb : b < 2) : regI (shB r ^^^ BitVec.ofNat 22 b) = if 4194304 ≤ regI r * 2 + b then xorI (regI r * 2 + b) 6291471 else regI r * 2 + b := by
  unfold regI
  rw [← rstep_eq r b hb]
  unfold rstep xorI
  by_cases h : 4194304 ≤ r.toNat * 2 + b
  · have e1 : ((r.toNat : Int) * 2 + (b : Int)).toNat = r.toNat * 2 + b := by omega
    have e2 : (6291471 : Int).toNat = 6291471 := by decide
    rw [if_pos h, if_pos (by omega), e1, e2]
  · rw [if_neg h, if_neg (by omega)]; omega
theorem refTo_word (F : List Int) (hl : F.length = 64) (q : Nat) (hq : q < 62) (x : Nat) (hx : (refTo F (12 * q)).toNat = x) : ∀ k, k ≤ 12 → (refTo F (12 * q + k)).toNat = rword (gw F q).toNat x k
  | 0, _ => by simpa [rword] using hx
  | k + 1, hk => by
    have ih := refTo_word F hl q hq x hx k (by omega)
    show (shB (refTo F (12 * q + k)) ^^^ BitVec.ofNat 22 (bitF F (12 * q + k))).toNat = _
    simp only [rword]
    rw [← rstep_eq _ _ (bitF_lt F _), ih]
    congr 1
    unfold bitF
    rw [if_pos (by omega), show (12 * q + k) / 12 = q by omega, show (12 * q + k) % 12 = k by omega]
theorem rwords_append : ∀ (l m : List Nat) (r : Nat), rwords (l ++ m) r = rwords m (rwords l r)
  | [], _, _ => rfl
  | w :: l, m, r => by simp only [List.cons_append, rwords]; exact rwords_append l m _
theorem refTo_words (F : List Int) (hl : F.length = 64) : ∀ q, q ≤ 62 → (refTo F (12 * q)).toNat = rwords ((F.take q).map Int.toNat) 0
  | 0, _ => rfl
  | q + 1, hq => by
    have ih := refTo_words F hl q (by omega)
    have := refTo_word F hl q (by omega) _ ih 12 (by omega)
    rw [show 12 * (q + 1) = 12 * q + 12 by omega, this]
    rw [List.take_succ_eq_append_getElem (show q < F.length by omega), List.map_append, rwords_append]
    simp [rwords, gw, List.getD, List.getElem?_eq_getElem (show q < F.length by omega)]
theorem refTo_zeros (F : List Int) (x : Nat) (hx : (refTo F 744).toNat = x) : ∀ k, (refTo F (744 + k)).toNat = rzeros x k
  | 0 => hx
  | k + 1 => by
    have ih := refTo_zeros F x hx k
    show (shB (refTo F (744 + k)) ^^^ BitVec.ofNat 22 (bitF F (744 + k))).toNat = _
    simp only [rzeros]
    rw [← rstep_eq _ _ (bitF_lt F _), ih]
    congr 1
    unfold bitF
    rw [if_neg (by omega)]
theorem refTo_end (F : List Int) (hl : F.length = 64) (hn : Narrow F) : regI (refTo F 766) = chkI F := by
  have h1 := refTo_words F hl 62 (by omega)
  have h2 := refTo_zeros F _ h1 22
  have h3 := rzeros_crc ((F.take 62).map Int.toNat) (by
    intro w hw
    obtain ⟨a, ha, rfl⟩ := List.mem_map.1 hw
    obtain ⟨k, hk, rfl⟩ := List.getElem_of_mem ha
    have hk' : k < 62 := by simp at hk; omega
    have hb := hn k (by omega)
    unfold gw at hb
    rw [List.getElem_take]
    simp only [List.getD, List.getElem?_eq_getElem (show k < F.length by omega), Option.getD_some] at hb
    omega)
  rw [h3] at h2
  unfold chkI regI crcTo
  rw [h2]; rfl
@[irreducible] def bitI (F : List Int) (i : Nat) : Int := (bitF F i : Int)
theorem bitI_bd (F : List Int) (i : Nat) : 0 ≤ bitI F i ∧ bitI F i ≤ 1 := by unfold bitI; have := bitF_lt F i; omega
theorem bitI_word (F : List Int) (k : Nat) (h : k < 744) (h0 : 0 ≤ gw F (k / 12)) : gw F (k / 12) / 2 ^ (11 - k % 12) % 2 = bitI F k := by
  unfold bitI bitF
  rw [if_pos h]
  obtain ⟨a, ha⟩ := Int.eq_ofNat_of_zero_le h0
  rw [ha, Int.toNat_natCast]
  norm_cast
theorem bitI_zero (F : List Int) (k : Nat) (h : ¬ k < 744) : bitI F k = 0 := by unfold bitI bitF; rw [if_neg h]; rfl
theorem regI_ref (F : List Int) (k : Nat) : regI (refTo F (k + 1)) = if 4194304 ≤ regI (refTo F k) * 2 + bitI F k then xorI (regI (refTo F k) * 2 + bitI F k) 6291471 else regI (refTo F k) * 2 + bitI F k := by
  have := regI_step (refTo F k) (bitF F k) (bitF_lt F k)
  unfold bitI
  exact this
/-! New. -/
def newTo (Z : List Int) (number : Int) (D : List Int) : Nat → List Int
  | 0 => (Z.set 1 (number % 2048)).set 2 (number / 2048)
  | k + 1 => (newTo Z number D k).set (3 + k) (gw D k)
def inTo (D : List Int) : Nat → Bool
  | 0 => true
  | k + 1 => inTo D k && decide (0 ≤ gw D k ∧ gw D k ≤ 2047)
theorem inTo_true (D : List Int) : ∀ k, inTo D k = true ↔ ∀ j, j < k → 0 ≤ gw D j ∧ gw D j ≤ 2047
  | 0 => by simp [inTo]
  | k + 1 => by
    simp only [inTo, Bool.and_eq_true, inTo_true D k, decide_eq_true_eq]
    constructor
    · rintro ⟨h1, h2⟩ j hj
      rcases Nat.lt_or_ge j k with h | h
      · exact h1 j h
      · obtain rfl : j = k := by omega
        exact h2
    · intro h
      exact ⟨fun j hj => h j (by omega), h k (by omega)⟩
/-- The error of New. -/
def newE (number : Int) (D : List Int) : Int :=
  if 0 ≤ number ∧ number < 4194304 then if D.length = 58 then if inTo D 58 then 0 else 9 else 3 else 9
/-- The frame that New returns. -/
def newF (Z : List Int) (number : Int) (D : List Int) : List Int := if newE number D = 0 then sealI (newTo Z number D 58) else Z
theorem newTo_len (Z : List Int) (number : Int) (D : List Int) : ∀ k, (newTo Z number D k).length = Z.length
  | 0 => by simp [newTo]
  | k + 1 => by simp [newTo, newTo_len Z number D k]
theorem newTo_fr {Z : List Int} (hZ : Fr Z) (number : Int) (D : List Int) (h0 : 0 ≤ number) (h1 : number < 4194304) : ∀ k, k ≤ 58 → inTo D k = true → Fr (newTo Z number D k)
  | 0, _, _ => (hZ.set 1 _ (by omega) (by omega) (by omega)).set 2 _ (by omega) (by omega) (by omega)
  | k + 1, hk, h => by
    have hb := (inTo_true D (k + 1)).1 h k (by omega)
    exact (newTo_fr hZ number D h0 h1 k (by omega) ((inTo_true D k).2 fun j hj => (inTo_true D (k + 1)).1 h j (by omega))).set _ _ (by omega) hb.1 (by omega)
theorem newTo_narrow {Z : List Int} (hl : Z.length = 64) (hZ : Narrow Z) (number : Int) (D : List Int) (h0 : 0 ≤ number) (h1 : number < 4194304) : ∀ k, k ≤ 58 → inTo D k = true → Narrow (newTo Z number D k)
  | 0, _, _ => (hZ.set hl 1 _ (by omega) (by omega)).set (by simp [hl]) 2 _ (by omega) (by omega)
  | k + 1, hk, h => by
    have hb := (inTo_true D (k + 1)).1 h k (by omega)
    exact (newTo_narrow hl hZ number D h0 h1 k (by omega) ((inTo_true D k).2 fun j hj => (inTo_true D (k + 1)).1 h j (by omega))).set (by rw [newTo_len]; exact hl) _ _ (by omega) (by omega)
/-! Sound frames. -/
def syncOk (F : List Int) : Bool := gw F 0 == syncI (numI F)
def sumOk (F : List Int) : Bool := gw F 61 % 2048 == sumI F
def hiOk (F : List Int) : Bool := gw F 62 % 2048 == hiI F % 2048
def loOk (F : List Int) : Bool := gw F 63 % 2048 == loI F % 2048
def chkOk (F : List Int) : Bool := hiOk F && loOk F
/-- Have the words 1 to k an odd number of ones? -/
def parOk (F : List Int) : Nat → Bool
  | 0 => true
  | k + 1 => parOk F k && oddI (gw F (k + 1))
def soundB (F : List Int) : Bool := syncOk F && (parOk F 63 && (sumOk F && chkOk F))
theorem parOk_true (F : List Int) : ∀ k, parOk F k = true ↔ ∀ j, 1 ≤ j → j ≤ k → oddI (gw F j) = true
  | 0 => by simp [parOk]; intro j h1 h2; omega
  | k + 1 => by
    simp only [parOk, Bool.and_eq_true, parOk_true F k]
    constructor
    · rintro ⟨h1, h2⟩ j hj hk
      rcases Nat.lt_or_ge k j with h | h
      · obtain rfl : j = k + 1 := by omega
        exact h2
      · exact h1 j hj h
    · intro h
      exact ⟨fun j h1 h2 => h j h1 (by omega), h (k + 1) (by omega) (by omega)⟩
theorem soundB_true (F : List Int) : soundB F = true ↔ syncOk F = true ∧ parOk F 63 = true ∧ sumOk F = true ∧ chkOk F = true := by
  unfold soundB; simp only [Bool.and_eq_true]
attribute [irreducible] onesI oddI wordI syncI numI sumI chkI
end Go.Proofs.YtllahhmonoedmaaDoor
