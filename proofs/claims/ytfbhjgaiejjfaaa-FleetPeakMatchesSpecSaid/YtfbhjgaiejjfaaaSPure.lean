/-
  Calibrations and series as mathematics: no word of the program.
-/
namespace Go.Proofs.Ytfbhjgaiejjfaaa
structure Ln where
  f : Int
  t : Int
  a : Int
  b : Int
instance : Inhabited Ln := ⟨⟨0, 0, 0, 0⟩⟩

/-- The first number that is not 0 among f 0 .. f (k - 1). -/
def firstOf (f : Nat → Int) : Nat → Int
  | 0 => 0
  | k + 1 => if firstOf f k = 0 then f k else firstOf f k
theorem firstOf_0 (f : Nat → Int) : firstOf f 0 = 0 := rfl
theorem firstOf_succ {f : Nat → Int} {k : Nat} (h : firstOf f k = 0) : firstOf f (k + 1) = f k := by
  show (if firstOf f k = 0 then f k else firstOf f k) = _
  rw [if_pos h]
theorem firstOf_stays {f : Nat → Int} {k : Nat} {e : Int} (h : firstOf f k = e) (he : e ≠ 0) : ∀ j, firstOf f (k + j) = e
  | 0 => h
  | j + 1 => by
    have ih := firstOf_stays h he j
    show (if firstOf f (k + j) = 0 then f (k + j) else firstOf f (k + j)) = e
    rw [ih, if_neg he]
theorem firstOf_bad {f : Nat → Int} {k n : Nat} (h : firstOf f k = 0) (hk : k < n) {e : Int} (hb : f k = e) (he : e ≠ 0) : firstOf f n = e := by
  have := firstOf_stays (k := k + 1) ((firstOf_succ h).trans hb) he (n - (k + 1))
  rw [show k + 1 + (n - (k + 1)) = n by omega] at this
  exact this
theorem firstOf_all {f : Nat → Int} : ∀ {n : Nat}, firstOf f n = 0 → ∀ k, k < n → f k = 0
  | 0, _, k, hk => by omega
  | n + 1, h, k, hk => by
    have h0 : firstOf f n = 0 := by
      rcases Classical.em (firstOf f n = 0) with e | e
      · exact e
      · have := firstOf_stays (j := 1) rfl e; rw [h] at this; exact absurd this.symm e
    rcases Nat.lt_or_ge k n with h1 | h1
    · exact firstOf_all h0 k h1
    · obtain rfl : k = n := by omega
      rw [← firstOf_succ h0]; exact h

def lnOk (l : Ln) : Prop := -1099511627776 ≤ l.f ∧ l.f ≤ 1099511627776 ∧ -1099511627776 ≤ l.t ∧ l.t ≤ 1099511627776 ∧ l.f ≤ l.t ∧ -1048576 ≤ l.a ∧ l.a ≤ 1048576 ∧ -1125899906842624 ≤ l.b ∧ l.b ≤ 1125899906842624
instance (l : Ln) : Decidable (lnOk l) := by unfold lnOk; infer_instance
/-- A number of a calibration. -/
def isN (n : Int) : Prop := -1125899906842624 ≤ n ∧ n ≤ 1125899906842624
instance (n : Int) : Decidable (isN n) := by unfold isN; infer_instance
/-- What is wrong with the line i, first part. -/
def bad1 (g : Nat → Ln) (i : Nat) : Int := if ¬ lnOk (g i) then 9 else if 0 < i ∧ (g i).f ≤ (g (i - 1)).t then 10 else 0
/-- .. second part. -/
def bad2 (g : Nat → Ln) (i : Nat) : Int := if isN ((g i).a * (g i).f + (g i).b) ∧ isN ((g i).a * (g i).t + (g i).b) then 0 else 9
/-- What is wrong with lines. -/
def lnsE (g : Nat → Ln) (n : Nat) : Int := if firstOf (bad1 g) n = 0 then firstOf (bad2 g) n else firstOf (bad1 g) n
/-- What is wrong with a calibration. -/
def calE (den : Int) (g : Nat → Ln) (n : Nat) (lo hi : Int) : Int :=
  if ¬ (1 ≤ den ∧ den ≤ 1000000) then 9 else if n = 0 then 13 else if 50 < n then 3 else
  if lnsE g n ≠ 0 then lnsE g n else if ¬ (isN lo ∧ isN hi ∧ lo ≤ hi) then 9 else 0

/-- Good lines. -/
structure Good (g : Nat → Ln) (n : Nat) : Prop where
  ok : ∀ i, i < n → lnOk (g i)
  rise : ∀ i, i + 1 < n → (g i).t < (g (i + 1)).f
  ends : ∀ i, i < n → isN ((g i).a * (g i).f + (g i).b) ∧ isN ((g i).a * (g i).t + (g i).b)
theorem good_of {g : Nat → Ln} {n : Nat} (h : lnsE g n = 0) : Good g n := by
  unfold lnsE at h
  have h1 : firstOf (bad1 g) n = 0 := by
    by_cases e : firstOf (bad1 g) n = 0
    · exact e
    · rw [if_neg e] at h; exact absurd h e
  rw [if_pos h1] at h
  have a1 := firstOf_all h1
  have a2 := firstOf_all h
  refine ⟨fun i hi => ?_, fun i hi => ?_, fun i hi => ?_⟩
  · have := a1 i hi
    unfold bad1 at this
    by_cases e : lnOk (g i)
    · exact e
    · rw [if_pos e] at this; omega
  · have := a1 (i + 1) hi
    unfold bad1 at this
    split at this
    · omega
    · split at this
      · omega
      · rename_i h3
        have e1 : i + 1 - 1 = i := by omega
        rw [e1] at h3
        omega
  · have := a2 i hi
    unfold bad2 at this
    split at this
    · rename_i h; exact h
    · omega
theorem Good.apart {g : Nat → Ln} {n : Nat} (h : Good g n) : ∀ {i j : Nat}, i < j → j < n → (g i).t < (g j).f := by
  intro i j hij hj
  obtain ⟨d, rfl⟩ : ∃ d, j = i + 1 + d := ⟨j - (i + 1), by omega⟩
  clear hij
  induction d with
  | zero => exact h.rise i hj
  | succ d ih =>
    have h1 := ih (by omega)
    have h2 := h.rise (i + 1 + d) (by omega)
    have h3 := (h.ok (i + 1 + d) (by omega))
    unfold lnOk at h3
    have e : i + 1 + (d + 1) = i + 1 + d + 1 := by omega
    rw [e]; omega
theorem Good.one {g : Nat → Ln} {n : Nat} (h : Good g n) {i j : Nat} (hi : i < n) (hj : j < n) {v : Int} (a : (g i).f ≤ v) (b : v ≤ (g i).t) (c : (g j).f ≤ v) (d : v ≤ (g j).t) : i = j := by
  rcases Nat.lt_trichotomy i j with h1 | h1 | h1
  · have := h.apart h1 hj; omega
  · exact h1
  · have := h.apart h1 hi; omega

/-- The value v can be, with the number m. -/
def Can (g : Nat → Ln) (n : Nat) (lo hi v m : Int) : Prop := ∃ k, k < n ∧ (g k).f ≤ v ∧ v ≤ (g k).t ∧ m = (g k).a * v + (g k).b ∧ lo ≤ m ∧ m ≤ hi
/-- What Apply returns. -/
def App (g : Nat → Ln) (n : Nat) (lo hi v m : Int) (is : Bool) : Prop := (is = true ∧ Can g n lo hi v m) ∨ (is = false ∧ m = 0 ∧ ∀ m', ¬ Can g n lo hi v m')
theorem Can.eq {g : Nat → Ln} {n : Nat} (h : Good g n) {lo hi v m m' : Int} (a : Can g n lo hi v m) (b : Can g n lo hi v m') : m = m' := by
  obtain ⟨k, hk, k1, k2, k3, _⟩ := a
  obtain ⟨j, hj, j1, j2, j3, _⟩ := b
  obtain rfl := h.one hk hj k1 k2 j1 j2
  rw [k3, j3]
theorem App.eq {g : Nat → Ln} {n : Nat} (h : Good g n) {lo hi v m m' : Int} {i i' : Bool} (a : App g n lo hi v m i) (b : App g n lo hi v m' i') : m = m' ∧ i = i' := by
  rcases a with ⟨rfl, a⟩ | ⟨rfl, rfl, a⟩ <;> rcases b with ⟨rfl, b⟩ | ⟨rfl, rfl, b⟩
  · exact ⟨a.eq h b, rfl⟩
  · exact absurd a (b _)
  · exact absurd b (a _)
  · exact ⟨rfl, rfl⟩

/-- The values of a line have numbers that keep the bounds. -/
theorem mul_between {a f t v : Int} (h1 : f ≤ v) (h2 : v ≤ t) : (a * f ≤ a * v ∧ a * v ≤ a * t) ∨ (a * t ≤ a * v ∧ a * v ≤ a * f) := by
  rcases Int.le_total 0 a with h | h
  · exact .inl ⟨Int.mul_le_mul_of_nonneg_left h1 h, Int.mul_le_mul_of_nonneg_left h2 h⟩
  · exact .inr ⟨Int.mul_le_mul_of_nonpos_left h h2, Int.mul_le_mul_of_nonpos_left h h1⟩
theorem num_in {l : Ln} {v : Int} (e : isN (l.a * l.f + l.b) ∧ isN (l.a * l.t + l.b)) (h1 : l.f ≤ v) (h2 : v ≤ l.t) : isN (l.a * v + l.b) := by
  unfold isN at *
  have := mul_between (a := l.a) h1 h2
  omega
theorem mul_small {a v : Int} (a1 : -1048576 ≤ a) (a2 : a ≤ 1048576) (v1 : -1099511627776 ≤ v) (v2 : v ≤ 1099511627776) : -1152921504606846976 ≤ a * v ∧ a * v ≤ 1152921504606846976 := by
  have h1 : -(1048576 * 1099511627776) ≤ a * v ∧ a * v ≤ 1048576 * 1099511627776 := by
    have hv := mul_between (a := a) v1 v2
    have ha1 := mul_between (a := (1099511627776 : Int)) a1 a2
    have e1 : a * (1099511627776 : Int) = 1099511627776 * a := Int.mul_comm _ _
    have e2 : a * (-1099511627776 : Int) = -(1099511627776 * a) := by rw [Int.mul_neg, Int.mul_comm]
    rw [e1, e2] at hv
    omega
  omega

/-- The size of a number. -/
def sz (x : Int) : Int := if x < 0 then -x else x
theorem sz_cases (x : Int) : (0 ≤ x ∧ sz x = x) ∨ (x < 0 ∧ sz x = -x) := by unfold sz; split <;> omega
/-- v is nearer to n than w, or as near and not greater. -/
def Nearer (n m v m' w : Int) : Prop := sz (m - n) < sz (m' - n) ∨ sz (m - n) = sz (m' - n) ∧ v ≤ w
/-- What Nearest returns. -/
def Near (g : Nat → Ln) (n : Nat) (lo hi x v e : Int) : Prop :=
  (e = 0 ∧ ∃ m, Can g n lo hi v m ∧ ∀ w m', Can g n lo hi w m' → Nearer x m v m' w) ∨ (e = 4 ∧ v = 0 ∧ ∀ w m', ¬ Can g n lo hi w m')
theorem Near.eq {g : Nat → Ln} {n : Nat} {lo hi x v v' e e' : Int} (a : Near g n lo hi x v e) (b : Near g n lo hi x v' e') : v = v' ∧ e = e' := by
  rcases a with ⟨rfl, m, a1, a2⟩ | ⟨rfl, rfl, a⟩ <;> rcases b with ⟨rfl, m', b1, b2⟩ | ⟨rfl, rfl, b⟩
  · have c1 := a2 _ _ b1
    have c2 := b2 _ _ a1
    unfold Nearer at c1 c2
    exact ⟨by omega, rfl⟩
  · exact absurd a1 (b _ _)
  · exact absurd b1 (a _ _)
  · exact ⟨rfl, rfl⟩

/-- The best of the first k lines: what a walk along the lines has found. -/
def Best (g : Nat → Ln) (k : Nat) (lo hi x v d : Int) (some : Bool) : Prop :=
  (some = true ∧ ∃ m, Can g k lo hi v m ∧ d = sz (m - x) ∧ ∀ w m', Can g k lo hi w m' → Nearer x m v m' w) ∨ (some = false ∧ v = 0 ∧ d = 0 ∧ ∀ w m', ¬ Can g k lo hi w m')
theorem Can.last {g : Nat → Ln} {k : Nat} {lo hi w m : Int} (h : Can g (k + 1) lo hi w m) : Can g k lo hi w m ∨ ((g k).f ≤ w ∧ w ≤ (g k).t ∧ m = (g k).a * w + (g k).b ∧ lo ≤ m ∧ m ≤ hi) := by
  obtain ⟨j, hj, h'⟩ := h
  rcases Nat.lt_or_ge j k with h1 | h1
  · exact .inl ⟨j, h1, h'⟩
  · obtain rfl : j = k := by omega
    exact .inr h'
theorem Can.more {g : Nat → Ln} {k j : Nat} {lo hi w m : Int} (h : Can g k lo hi w m) (hkj : k ≤ j) : Can g j lo hi w m := by
  obtain ⟨i, hi, h'⟩ := h
  exact ⟨i, by omega, h'⟩
theorem Best.none {g : Nat → Ln} {lo hi x : Int} : Best g 0 lo hi x 0 0 false := by
  refine .inr ⟨rfl, rfl, rfl, ?_⟩
  rintro w m ⟨k, hk, _⟩
  omega
/-- The line k has no value that can be. -/
theorem Best.skip {g : Nat → Ln} {k : Nat} {lo hi x v d : Int} {some : Bool} (h : Best g k lo hi x v d some) (hn : ∀ w, (g k).f ≤ w → w ≤ (g k).t → ¬ (lo ≤ (g k).a * w + (g k).b ∧ (g k).a * w + (g k).b ≤ hi)) : Best g (k + 1) lo hi x v d some := by
  have key : ∀ w m, Can g (k + 1) lo hi w m → Can g k lo hi w m := by
    intro w m hc
    rcases hc.last with h1 | ⟨h1, h2, rfl, h3, h4⟩
    · exact h1
    · exact absurd ⟨h3, h4⟩ (hn w h1 h2)
  rcases h with ⟨rfl, m, h1, h2, h3⟩ | ⟨rfl, rfl, rfl, h1⟩
  · exact .inl ⟨rfl, m, h1.more (by omega), h2, fun w m' hc => h3 w m' (key w m' hc)⟩
  · exact .inr ⟨rfl, rfl, rfl, fun w m' hc => h1 w m' (key w m' hc)⟩
/-- u is the best of the line k. -/
def LineBest (l : Ln) (lo hi x u : Int) : Prop := l.f ≤ u ∧ u ≤ l.t ∧ lo ≤ l.a * u + l.b ∧ l.a * u + l.b ≤ hi ∧ ∀ w, l.f ≤ w → w ≤ l.t → lo ≤ l.a * w + l.b → l.a * w + l.b ≤ hi → Nearer x (l.a * u + l.b) u (l.a * w + l.b) w
theorem Best.take {g : Nat → Ln} {k : Nat} {lo hi x v d u : Int} {some : Bool} (h : Best g k lo hi x v d some) (hu : LineBest (g k) lo hi x u) (hd : some = true → sz ((g k).a * u + (g k).b - x) < d) : Best g (k + 1) lo hi x u (sz ((g k).a * u + (g k).b - x)) true := by
  obtain ⟨u1, u2, u3, u4, u5⟩ := hu
  refine .inl ⟨rfl, _, ⟨k, by omega, u1, u2, rfl, u3, u4⟩, rfl, fun w m' hc => ?_⟩
  rcases hc.last with h1 | ⟨h1, h2, rfl, h3, h4⟩
  · rcases h with ⟨rfl, m, b1, rfl, b3⟩ | ⟨rfl, rfl, rfl, b1⟩
    · have := b3 _ _ h1
      have := hd rfl
      unfold Nearer at *
      omega
    · exact absurd h1 (b1 _ _)
  · exact u5 w h1 h2 h3 h4
theorem Best.stay {g : Nat → Ln} {n k : Nat} (hg : Good g n) (hk : k < n) {lo hi x v d u : Int} (h : Best g k lo hi x v d true) (hu : LineBest (g k) lo hi x u) (hd : d ≤ sz ((g k).a * u + (g k).b - x)) : Best g (k + 1) lo hi x v d true := by
  obtain ⟨u1, u2, u3, u4, u5⟩ := hu
  rcases h with ⟨_, m, b1, rfl, b3⟩ | ⟨h, _⟩
  · refine .inl ⟨rfl, m, b1.more (by omega), rfl, fun w m' hc => ?_⟩
    rcases hc.last with h1 | ⟨h1, h2, rfl, h3, h4⟩
    · exact b3 _ _ h1
    · have h5 := u5 w h1 h2 h3 h4
      have hv : v < w := by
        obtain ⟨j, hj, j1, j2, _⟩ := b1
        have := hg.apart hj hk
        omega
      unfold Nearer at *
      omega
  · cases h
theorem Best.done {g : Nat → Ln} {n : Nat} {lo hi x v d : Int} {some : Bool} (h : Best g n lo hi x v d some) : Near g n lo hi x v (if some then 0 else 4) := by
  rcases h with ⟨rfl, m, b1, rfl, b3⟩ | ⟨rfl, rfl, rfl, b1⟩
  · exact .inl ⟨rfl, m, b1, b3⟩
  · exact .inr ⟨rfl, rfl, b1⟩

/-- The program's floor. -/
def fl (a b : Int) : Int := Int.fdiv a b
theorem fl_pos {a b : Int} (h : 0 < b) : b * fl a b ≤ a ∧ a < b * fl a b + b := by
  unfold fl
  have h1 := Int.fmod_add_mul_fdiv a b
  have h2 := Int.fmod_nonneg_of_pos a h
  have h3 := Int.fmod_lt_of_pos a h
  omega
theorem fl_neg {a b : Int} (h : b < 0) : a ≤ b * fl a b ∧ b * fl a b + b < a := by
  have h1 := fl_pos (a := -a) (b := -b) (by omega)
  have e : fl a b = fl (-a) (-b) := by unfold fl; rw [Int.neg_fdiv_neg]
  rw [e]
  generalize fl (-a) (-b) = q at *
  have e2 : -b * q = -(b * q) := Int.neg_mul _ _
  omega
theorem mul_le {a x y : Int} (ha : 0 < a) (h : x ≤ y) : a * x ≤ a * y := Int.mul_le_mul_of_nonneg_left h (by omega)
theorem mul_lt {a x y : Int} (ha : 0 < a) (h : x < y) : a * x + a ≤ a * y := by
  have := Int.mul_le_mul_of_nonneg_left (show x + 1 ≤ y by omega) (show 0 ≤ a by omega)
  rw [Int.mul_add, Int.mul_one] at this
  exact this
theorem fl_swap (a b : Int) : fl a b = fl (-a) (-b) := by unfold fl; rw [Int.neg_fdiv_neg]
theorem mul_ge {b x : Int} (hb : 0 < b) (hx : 0 ≤ x) : x ≤ b * x := by
  have := Int.mul_le_mul_of_nonneg_right (show 1 ≤ b by omega) hx
  omega
theorem fl_bound0 {a b M : Int} (h : 0 < b) (h1 : -M ≤ a) (h2 : a ≤ M) (hM : 0 ≤ M) : -M - 1 ≤ fl a b ∧ fl a b ≤ M := by
  have h3 := fl_pos (a := a) h
  generalize fl a b = q at *
  have h4 := mul_ge (x := M + 1) h (by omega)
  refine ⟨?_, ?_⟩
  · rcases Int.lt_or_le q (-M - 1) with hq | hq
    · have h5 := mul_le h (show q + 1 ≤ -(M + 1) by omega)
      rw [Int.mul_add, Int.mul_one, Int.mul_neg] at h5
      omega
    · exact hq
  · rcases Int.lt_or_le M q with hq | hq
    · have h5 := mul_le h (show M + 1 ≤ q by omega)
      omega
    · exact hq
theorem fl_bound {a b M : Int} (h : b ≠ 0) (h1 : -M ≤ a) (h2 : a ≤ M) (hM : 0 ≤ M) : -M - 1 ≤ fl a b ∧ fl a b ≤ M := by
  rcases Int.lt_or_gt_of_ne h with hb | hb
  · rw [fl_swap]; exact fl_bound0 (by omega) (by omega) (by omega) hM
  · exact fl_bound0 hb h1 h2 hM

/-- The program's ceil. -/
def cl (a b : Int) : Int := - fl (-a) b
theorem le_fl {a b w : Int} (h : 0 < a) : a * w ≤ b ↔ w ≤ fl b a := by
  have h1 := fl_pos (a := b) h
  generalize fl b a = q at *
  constructor
  · intro hw
    rcases Int.lt_or_le q w with h2 | h2
    · have := mul_lt h h2; omega
    · exact h2
  · intro hw
    have := mul_le h hw; omega
theorem cl_le {a b w : Int} (h : 0 < a) : b ≤ a * w ↔ cl b a ≤ w := by
  unfold cl
  have := le_fl (a := a) (b := -b) (w := -w) h
  rw [Int.mul_neg] at this
  omega
/-- Which values of a line can be. -/
def loV (l : Ln) (lo hi : Int) : Int := if l.a = 0 then (if l.b < lo ∨ hi < l.b then 1 else l.f) else max l.f (cl ((if l.a < 0 then hi else lo) - l.b) l.a)
def hiV (l : Ln) (lo hi : Int) : Int := if l.a = 0 then (if l.b < lo ∨ hi < l.b then 0 else l.t) else min l.t (fl ((if l.a < 0 then lo else hi) - l.b) l.a)
theorem possible_iff (l : Ln) (lo hi w : Int) : (loV l lo hi ≤ w ∧ w ≤ hiV l lo hi) ↔ (l.f ≤ w ∧ w ≤ l.t ∧ lo ≤ l.a * w + l.b ∧ l.a * w + l.b ≤ hi) := by
  unfold loV hiV
  rcases Int.lt_trichotomy l.a 0 with h | h | h
  · have h0 : ¬ l.a = 0 := by omega
    rw [if_neg h0, if_neg h0, if_pos h, if_pos h]
    have e1 : cl (hi - l.b) l.a = cl (-(hi - l.b)) (-l.a) := by
      unfold cl; rw [fl_swap]
    have e2 := fl_swap (lo - l.b) l.a
    rw [e1, e2]
    have h1 := cl_le (a := -l.a) (b := -(hi - l.b)) (w := w) (by omega)
    have h2 := le_fl (a := -l.a) (b := -(lo - l.b)) (w := w) (by omega)
    rw [Int.neg_mul] at h1 h2
    omega
  · rw [if_pos h, if_pos h, h, Int.zero_mul]
    split <;> omega
  · have h0 : ¬ l.a = 0 := by omega
    have h00 : ¬ l.a < 0 := by omega
    rw [if_neg h0, if_neg h0, if_neg h00, if_neg h00]
    have h1 := cl_le (a := l.a) (b := lo - l.b) (w := w) h
    have h2 := le_fl (a := l.a) (b := hi - l.b) (w := w) h
    omega
def clamp (x f t : Int) : Int := min (max x f) t
/-- The value that nearestFrom returns. -/
def nearV (l : Ln) (f t x : Int) : Int :=
  if l.a = 0 then f else
  if sz (l.a * clamp (fl (x - l.b) l.a + 1) f t + l.b - x) < sz (l.a * clamp (fl (x - l.b) l.a) f t + l.b - x) then clamp (fl (x - l.b) l.a + 1) f t else clamp (fl (x - l.b) l.a) f t
theorem valley {h : Int → Int} {q f t : Int} (h1 : ∀ w w', w < w' → w' ≤ q → h w' < h w) (h2 : ∀ w w', q + 1 ≤ w → w < w' → h w < h w') (hft : f ≤ t) {w : Int} (hw1 : f ≤ w) (hw2 : w ≤ t) :
    let u := if h (clamp (q + 1) f t) < h (clamp q f t) then clamp (q + 1) f t else clamp q f t
    (f ≤ u ∧ u ≤ t) ∧ (h u < h w ∨ h u = h w ∧ u ≤ w) := by
  intro u
  have hu : u = if h (clamp (q + 1) f t) < h (clamp q f t) then clamp (q + 1) f t else clamp q f t := rfl
  clear_value u
  by_cases c1 : q < f
  · have a1 : clamp q f t = f := by unfold clamp; omega
    have a2 : clamp (q + 1) f t = f := by unfold clamp; omega
    rw [a1, a2, if_neg (by omega)] at hu
    subst hu
    refine ⟨by omega, ?_⟩
    rcases Int.lt_or_le u w with h3 | h3
    · exact .inl (h2 _ _ (by omega) h3)
    · obtain rfl : w = u := by omega
      exact .inr ⟨rfl, by omega⟩
  · by_cases c2 : t ≤ q
    · have a1 : clamp q f t = t := by unfold clamp; omega
      have a2 : clamp (q + 1) f t = t := by unfold clamp; omega
      rw [a1, a2, if_neg (by omega)] at hu
      subst hu
      refine ⟨by omega, ?_⟩
      rcases Int.lt_or_le w u with h3 | h3
      · exact .inl (h1 _ _ h3 (by omega))
      · obtain rfl : w = u := by omega
        exact .inr ⟨rfl, by omega⟩
    · have a1 : clamp q f t = q := by unfold clamp; omega
      have a2 : clamp (q + 1) f t = q + 1 := by unfold clamp; omega
      rw [a1, a2] at hu
      have b1 : w < q → h q < h w := fun h3 => h1 _ _ h3 (by omega)
      have b2 : q + 1 < w → h (q + 1) < h w := fun h3 => h2 _ _ (by omega) h3
      rcases Int.lt_trichotomy w q with h3 | h3 | h3
      · have := b1 h3
        split at hu <;> subst hu <;> exact ⟨by omega, by omega⟩
      · subst h3
        split at hu <;> subst hu <;> exact ⟨by omega, by omega⟩
      · rcases Int.lt_or_le (q + 1) w with h4 | h4
        · have := b2 h4
          split at hu <;> subst hu <;> exact ⟨by omega, by omega⟩
        · obtain rfl : w = q + 1 := by omega
          split at hu <;> subst hu <;> exact ⟨by omega, by omega⟩
theorem sz_valley {a b x : Int} (ha : a ≠ 0) : (∀ w w', w < w' → w' ≤ fl (x - b) a → sz (a * w' + b - x) < sz (a * w + b - x)) ∧ (∀ w w', fl (x - b) a + 1 ≤ w → w < w' → sz (a * w + b - x) < sz (a * w' + b - x)) := by
  rcases Int.lt_or_gt_of_ne ha with h | h
  · have h1 := fl_neg (a := x - b) h
    generalize fl (x - b) a = q at *
    have e : ∀ y, a * y = -(-a * y) := fun y => by rw [Int.neg_mul, Int.neg_neg]
    refine ⟨fun w w' hw hq => ?_, fun w w' hw hq => ?_⟩
    · have k1 := mul_lt (a := -a) (by omega) hw
      have k2 := mul_le (a := -a) (by omega) hq
      have c1 := sz_cases (a * w' + b - x)
      have c2 := sz_cases (a * w + b - x)
      rw [← Int.neg_neg (a * w'), ← Int.neg_neg (a * w)] at *
      have e1 := e w; have e2 := e w'; have e3 := e q
      omega
    · have k1 := mul_lt (a := -a) (by omega) hq
      have k2 := mul_le (a := -a) (by omega) hw
      rw [Int.mul_add, Int.mul_one] at k2
      have c1 := sz_cases (a * w' + b - x)
      have c2 := sz_cases (a * w + b - x)
      have e1 := e w; have e2 := e w'; have e3 := e q
      omega
  · have h1 := fl_pos (a := x - b) h
    generalize fl (x - b) a = q at *
    refine ⟨fun w w' hw hq => ?_, fun w w' hw hq => ?_⟩
    · have k1 := mul_lt h hw
      have k2 := mul_le h hq
      have c1 := sz_cases (a * w' + b - x)
      have c2 := sz_cases (a * w + b - x)
      omega
    · have k1 := mul_lt h hq
      have k2 := mul_le h hw
      rw [Int.mul_add, Int.mul_one] at k2
      have c1 := sz_cases (a * w' + b - x)
      have c2 := sz_cases (a * w + b - x)
      omega
theorem nearV_best {l : Ln} {lo hi x : Int} (h : loV l lo hi ≤ hiV l lo hi) : LineBest l lo hi x (nearV l (loV l lo hi) (hiV l lo hi) x) := by
  have key : ∀ w, loV l lo hi ≤ w → w ≤ hiV l lo hi → (loV l lo hi ≤ nearV l (loV l lo hi) (hiV l lo hi) x ∧ nearV l (loV l lo hi) (hiV l lo hi) x ≤ hiV l lo hi) ∧ Nearer x (l.a * nearV l (loV l lo hi) (hiV l lo hi) x + l.b) (nearV l (loV l lo hi) (hiV l lo hi) x) (l.a * w + l.b) w := by
    intro w w1 w2
    unfold Nearer nearV
    by_cases ha : l.a = 0
    · rw [if_pos ha, ha]
      simp only [Int.zero_mul]
      exact ⟨by omega, .inr ⟨trivial, w1⟩⟩
    · rw [if_neg ha]
      obtain ⟨v1, v2⟩ := sz_valley (a := l.a) (b := l.b) (x := x) ha
      exact valley (h := fun w => sz (l.a * w + l.b - x)) v1 v2 h w1 w2
  have k0 := (key (loV l lo hi) (Int.le_refl _) h).1
  have k1 := (possible_iff l lo hi _).1 k0
  refine ⟨k1.1, k1.2.1, k1.2.2.1, k1.2.2.2, fun w a1 a2 a3 a4 => ?_⟩
  have := (possible_iff l lo hi w).2 ⟨a1, a2, a3, a4⟩
  exact (key w this.1 this.2).2
theorem none_of {l : Ln} {lo hi : Int} (h : hiV l lo hi < loV l lo hi) : ∀ w, l.f ≤ w → w ≤ l.t → ¬ (lo ≤ l.a * w + l.b ∧ l.a * w + l.b ≤ hi) := by
  intro w h1 h2 h3
  have := (possible_iff l lo hi w).2 ⟨h1, h2, h3.1, h3.2⟩
  omega
/-- The grain, as far as the first k lines. -/
def grainTo (g : Nat → Ln) : Nat → Int
  | 0 => 0
  | k + 1 => if (g k).f < (g k).t then max (grainTo g k) (sz (g k).a) else grainTo g k
theorem grain_in {g : Nat → Ln} {n : Nat} (h : Good g n) : ∀ k, k ≤ n → 0 ≤ grainTo g k ∧ grainTo g k ≤ 1048576
  | 0, _ => by unfold grainTo; omega
  | k + 1, hk => by
    have ih := grain_in h k (by omega)
    have h1 := h.ok k (by omega)
    have h2 := sz_cases (g k).a
    unfold lnOk at h1
    unfold grainTo
    split <;> omega

/-! The reference's way: candidates. -/
def candsY (l : Ln) (y : Int) : List Int := [clamp (fl (y - l.b) l.a + -1) l.f l.t, clamp (fl (y - l.b) l.a + 0) l.f l.t, clamp (fl (y - l.b) l.a + 1) l.f l.t, clamp (fl (y - l.b) l.a + 2) l.f l.t]
def cands (l : Ln) (lo hi x : Int) : List Int := if l.a = 0 then [l.f, l.t] else [l.f, l.t] ++ (candsY l x ++ (candsY l lo ++ candsY l hi))
theorem fl_step {a b : Int} (h : b ≠ 0) : cl a b = fl a b ∨ cl a b = fl a b + 1 := by
  unfold cl
  have key : ∀ a b : Int, 0 < b → -fl (-a) b = fl a b ∨ -fl (-a) b = fl a b + 1 := by
    intro a b hb
    have h1 := fl_pos (a := a) hb
    have h2 := fl_pos (a := -a) hb
    generalize fl a b = q at *
    generalize fl (-a) b = p at *
    have k1 : ¬ -p < q := fun h3 => by
      have := mul_lt hb h3
      rw [Int.mul_neg] at this
      omega
    have k2 : ¬ q + 1 < -p := fun h3 => by
      have := mul_lt hb h3
      rw [Int.mul_neg, Int.mul_add, Int.mul_one] at this
      omega
    omega
  rcases Int.lt_or_gt_of_ne h with hb | hb
  · rw [fl_swap (-a) b, fl_swap a b]; exact key (-a) (-b) (by omega)
  · exact key a b hb
theorem clamp_in {x f t : Int} (h1 : f ≤ x) (h2 : x ≤ t) : clamp x f t = x := by unfold clamp; omega
theorem nearV_cand {l : Ln} {lo hi x : Int} (h : loV l lo hi ≤ hiV l lo hi) : nearV l (loV l lo hi) (hiV l lo hi) x ∈ cands l lo hi x := by
  have hb := nearV_best (x := x) h
  have h1 := hb.1
  have h2 := hb.2.1
  by_cases ha : l.a = 0
  · unfold cands nearV
    rw [if_pos ha, if_pos ha]
    unfold loV hiV at h
    unfold loV
    rw [if_pos ha] at h ⊢
    split at h
    · omega
    · rename_i h3
      rw [if_neg h3]; simp
  · have hlo := fl_step (a := lo - l.b) ha
    have hhi := fl_step (a := hi - l.b) ha
    have cases_u : nearV l (loV l lo hi) (hiV l lo hi) x = fl (x - l.b) l.a ∨ nearV l (loV l lo hi) (hiV l lo hi) x = fl (x - l.b) l.a + 1 ∨ nearV l (loV l lo hi) (hiV l lo hi) x = loV l lo hi ∨ nearV l (loV l lo hi) (hiV l lo hi) x = hiV l lo hi := by
      unfold nearV
      rw [if_neg ha]
      generalize loV l lo hi = f at *
      generalize hiV l lo hi = t at *
      generalize fl (x - l.b) l.a = q at *
      have a1 : clamp q f t = q ∨ clamp q f t = f ∨ clamp q f t = t := by unfold clamp; omega
      have a2 : clamp (q + 1) f t = q + 1 ∨ clamp (q + 1) f t = f ∨ clamp (q + 1) f t = t := by unfold clamp; omega
      split
      · omega
      · omega
    have cases_lo : loV l lo hi = l.f ∨ loV l lo hi = fl (lo - l.b) l.a ∨ loV l lo hi = fl (lo - l.b) l.a + 1 ∨ loV l lo hi = fl (hi - l.b) l.a ∨ loV l lo hi = fl (hi - l.b) l.a + 1 := by
      unfold loV
      rw [if_neg ha]
      split <;> omega
    have cases_hi : hiV l lo hi = l.t ∨ hiV l lo hi = fl (lo - l.b) l.a ∨ hiV l lo hi = fl (hi - l.b) l.a := by
      unfold hiV
      rw [if_neg ha]
      split <;> omega
    generalize nearV l (loV l lo hi) (hiV l lo hi) x = u at *
    generalize loV l lo hi = f at *
    generalize hiV l lo hi = t at *
    have e0 : ∀ q d, u = q + d → u = clamp (q + d) l.f l.t := fun q d e => by rw [← e]; exact (clamp_in h1 h2).symm
    unfold cands candsY
    rw [if_neg ha]
    generalize fl (x - l.b) l.a = q at *
    generalize fl (lo - l.b) l.a = p at *
    generalize fl (hi - l.b) l.a = r at *
    have f1 : u = l.f ∨ u = l.t ∨ u = q ∨ u = q + 1 ∨ u = p ∨ u = p + 1 ∨ u = r ∨ u = r + 1 := by omega
    have z0 : ∀ y : Int, y + 0 = y := Int.add_zero
    simp only [List.mem_append, List.mem_cons, List.not_mem_nil, or_false]
    rcases f1 with f1 | f1 | f1 | f1 | f1 | f1 | f1 | f1
    · simp [f1]
    · simp [f1]
    · have := e0 q 0 (by omega); exact .inr (.inl (.inr (.inl this)))
    · have := e0 q 1 f1; exact .inr (.inl (.inr (.inr (.inl this))))
    · have := e0 p 0 (by omega); exact .inr (.inr (.inl (.inr (.inl this))))
    · have := e0 p 1 f1; exact .inr (.inr (.inl (.inr (.inr (.inl this)))))
    · have := e0 r 0 (by omega); exact .inr (.inr (.inr (.inr (.inl this))))
    · have := e0 r 1 f1; exact .inr (.inr (.inr (.inr (.inr (.inl this)))))

/-- The best of the candidates that were seen. -/
def RBest (g : Nat → Ln) (n : Nat) (S : Int → Prop) (lo hi x v d : Int) (some : Bool) : Prop :=
  (some = true ∧ ∃ m, Can g n lo hi v m ∧ d = sz (m - x) ∧ ∀ w m', S w → Can g n lo hi w m' → Nearer x m v m' w) ∨ (some = false ∧ v = 0 ∧ d = 0 ∧ ∀ w m', S w → ¬ Can g n lo hi w m')
theorem RBest.none {g : Nat → Ln} {n : Nat} {lo hi x : Int} {S : Int → Prop} (h : ∀ w, ¬ S w) : RBest g n S lo hi x 0 0 false := .inr ⟨rfl, rfl, rfl, fun w _ hs => absurd hs (h w)⟩
theorem RBest.skip {g : Nat → Ln} {n : Nat} {lo hi x v d c : Int} {some : Bool} {S : Int → Prop} (h : RBest g n S lo hi x v d some) (hc : ∀ m, ¬ Can g n lo hi c m) : RBest g n (fun w => S w ∨ w = c) lo hi x v d some := by
  rcases h with ⟨rfl, m, h1, h2, h3⟩ | ⟨rfl, rfl, rfl, h1⟩
  · refine .inl ⟨rfl, m, h1, h2, ?_⟩
    rintro w m' (hs | rfl) hm
    · exact h3 w m' hs hm
    · exact absurd hm (hc _)
  · refine .inr ⟨rfl, rfl, rfl, ?_⟩
    rintro w m' (hs | rfl) hm
    · exact h1 w m' hs hm
    · exact hc _ hm
theorem RBest.take {g : Nat → Ln} {n : Nat} (hg : Good g n) {lo hi x v d c m : Int} {some : Bool} {S : Int → Prop} (h : RBest g n S lo hi x v d some) (hc : Can g n lo hi c m) (hd : some = true → sz (m - x) < d ∨ sz (m - x) = d ∧ c < v) : RBest g n (fun w => S w ∨ w = c) lo hi x c (sz (m - x)) true := by
  refine .inl ⟨rfl, m, hc, rfl, ?_⟩
  rcases h with ⟨rfl, m0, h1, rfl, h3⟩ | ⟨rfl, rfl, rfl, h1⟩
  · have hd := hd rfl
    rintro w m' (hs | rfl) hm
    · have := h3 w m' hs hm
      unfold Nearer at *
      omega
    · rw [hc.eq hg hm]; unfold Nearer; omega
  · rintro w m' (hs | rfl) hm
    · exact absurd hm (h1 w m' hs)
    · rw [hc.eq hg hm]; unfold Nearer; omega
theorem RBest.stay {g : Nat → Ln} {n : Nat} (hg : Good g n) {lo hi x v d c m : Int} {S : Int → Prop} (h : RBest g n S lo hi x v d true) (hc : Can g n lo hi c m) (hd : d < sz (m - x) ∨ sz (m - x) = d ∧ v ≤ c) : RBest g n (fun w => S w ∨ w = c) lo hi x v d true := by
  rcases h with ⟨_, m0, h1, rfl, h3⟩ | ⟨h, _⟩
  · refine .inl ⟨rfl, m0, h1, rfl, ?_⟩
    rintro w m' (hs | rfl) hm
    · exact h3 w m' hs hm
    · rw [← hc.eq hg hm]; unfold Nearer; omega
  · cases h
theorem RBest.same {g : Nat → Ln} {n : Nat} {lo hi x v d : Int} {some : Bool} {S S' : Int → Prop} (h : RBest g n S lo hi x v d some) (hs : ∀ w, S' w → S w) : RBest g n S' lo hi x v d some := by
  rcases h with ⟨rfl, m, h1, h2, h3⟩ | ⟨rfl, rfl, rfl, h1⟩
  · exact .inl ⟨rfl, m, h1, h2, fun w m' hw hm => h3 w m' (hs w hw) hm⟩
  · exact .inr ⟨rfl, rfl, rfl, fun w m' hw hm => h1 w m' (hs w hw) hm⟩
theorem RBest.done {g : Nat → Ln} {n : Nat} {lo hi x v d : Int} {some : Bool} (h : RBest g n (fun w => ∃ k, k < n ∧ w ∈ cands (g k) lo hi x) lo hi x v d some) : Near g n lo hi x v (if some then 0 else 4) := by
  have key : ∀ w m', Can g n lo hi w m' → ∃ u m, (∃ k, k < n ∧ u ∈ cands (g k) lo hi x) ∧ Can g n lo hi u m ∧ Nearer x m u m' w := by
    rintro w m' ⟨k, hk, k1, k2, rfl, k3, k4⟩
    have hp := (possible_iff (g k) lo hi w).2 ⟨k1, k2, k3, k4⟩
    have hb := nearV_best (l := g k) (x := x) (lo := lo) (hi := hi) (by omega)
    have hc := nearV_cand (l := g k) (x := x) (lo := lo) (hi := hi) (by omega)
    obtain ⟨b1, b2, b3, b4, b5⟩ := hb
    exact ⟨_, _, ⟨k, hk, hc⟩, ⟨k, hk, b1, b2, rfl, b3, b4⟩, b5 w k1 k2 k3 k4⟩
  rcases h with ⟨rfl, m, b1, rfl, b3⟩ | ⟨rfl, rfl, rfl, b1⟩
  · refine .inl ⟨rfl, m, b1, fun w m' hw => ?_⟩
    obtain ⟨u, m2, hs, hu, hn⟩ := key w m' hw
    have := b3 u m2 hs hu
    unfold Nearer at *
    omega
  · refine .inr ⟨rfl, rfl, fun w m' hw => ?_⟩
    obtain ⟨u, m2, hs, hu, hn⟩ := key w m' hw
    exact b1 u m2 hs hu
attribute [irreducible] calE lnOk isN bad1 bad2 lnsE fl cl loV hiV clamp nearV grainTo sz
end Go.Proofs.Ytfbhjgaiejjfaaa
