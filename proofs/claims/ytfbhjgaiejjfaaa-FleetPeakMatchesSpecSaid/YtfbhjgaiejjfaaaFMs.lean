/-
  A flight under a mask of one grain: masked.
-/
import Derived.Test.YtfbhjgaiejjfaaaFMt
namespace Go.Proofs.Ytfbhjgaiejjfaaa
open Go.RowKit
-- AT2
-- AT3

theorem smAt_grown {W W' : World} {h : Nat → Sm} {n : Nat} {A : Option Addr} {r : Option Nat} (H : SmAt W h n A) (hg : W.grownBy W' r) (hne : ∀ b o, A = some ⟨b, o, none⟩ → r ≠ some b) : SmAt W' h n A := by
  refine SmAt.mk fun h0 => ?_
  obtain ⟨b, o, rfl, hb, HC⟩ := H.get h0
  have e : ∀ p : Nat, W'.cell? ⟨b, p, none⟩ = W.cell? ⟨b, p, none⟩ := fun p => by
    unfold World.cell?
    rw [hg.block b hb (fun e => hne b o rfl e.symm)]
  exact ⟨b, o, rfl, fun i hi => by rw [e, e, e]; exact HC.out i hi⟩
theorem Is.grown {W W' : World} {b : Nat} {t : TypeId} {r : Option Nat} (h : Is W b t) (hg : W.grownBy W' r) (hne : r ≠ some b) : Is W' b t := by
  obtain ⟨cs, hA⟩ := h
  exact ⟨cs, hA.grown hg hne⟩
/-- The cells of the first k of some tracks. -/
def tkC (J : Nat → TkR) : Nat → List Value
  | 0 => []
  | k + 1 => tkC J k ++ [.string (J k).s, .int .i64 (J k).den, .slice (J k).A (J k).n (J k).c, .int .i64 (J k).lg]
theorem tkC_same {J J' : Nat → TkR} : ∀ k, (∀ i, i < k → J i = J' i) → tkC J k = tkC J' k
  | 0, _ => rfl
  | k + 1, h => by unfold tkC; rw [tkC_same k fun i hi => h i (by omega), h k (by omega)]
theorem tkC_len (J : Nat → TkR) : ∀ k, (tkC J k).length = k * 4
  | 0 => rfl
  | k + 1 => by unfold tkC; rw [List.length_append, tkC_len J k]; simp; omega
theorem tkC_at (J : Nat → TkR) : ∀ k i, i < k → (tkC J k)[i * 4]? = some (.string (J i).s) ∧ (tkC J k)[i * 4 + 1]? = some (.int .i64 (J i).den) ∧ (tkC J k)[i * 4 + 2]? = some (.slice (J i).A (J i).n (J i).c) ∧ (tkC J k)[i * 4 + 3]? = some (.int .i64 (J i).lg)
  | 0, i, h => absurd h (by omega)
  | k + 1, i, h => by
    unfold tkC
    have hl := tkC_len J k
    by_cases e : i = k
    · subst e
      refine ⟨?_, ?_, ?_, ?_⟩ <;> rw [List.getElem?_append_right (by omega), hl]
      · rw [show i * 4 - i * 4 = 0 by omega]; rfl
      · rw [show i * 4 + 1 - i * 4 = 1 by omega]; rfl
      · rw [show i * 4 + 2 - i * 4 = 2 by omega]; rfl
      · rw [show i * 4 + 3 - i * 4 = 3 by omega]; rfl
    · obtain ⟨a, b, c, d⟩ := tkC_at J k i (by omega)
      refine ⟨?_, ?_, ?_, ?_⟩ <;> rw [List.getElem?_append_left (by omega)] <;> assumption
theorem el_track : Elem 22 62 4 56 := elem_of Try.underlying22 (by decide) (z := .agg #[.string ⟨#[]⟩, .int .i64 0, .slice none 0 0, .int .i64 0]) (by kernel_rfl) rfl
/-- A track J' is the track J under the grain g of the track named b. -/
structure UnderG (b : ByteArray) (g : Int) (J J' : TkR) : Prop where
  s : J'.s = J.s
  den : J'.den = J.den
  lg : J'.lg = J.lg
  n : J'.n = J.n
  f : J'.f = if b = J.s then mxF J.f g J.n else J.f
  nil : J'.A = none → J'.n = 0 ∧ J'.c = 0
  nc : J'.n ≤ J'.c
/-- While a flight is masked. -/
structure MdSt (w W : World) (RF RM : Array Value) (v : Value) (k : Nat) (J J' : Nat → TkR) (b : ByteArray) (g : Int) : Prop where
  gx : ∃ x, W = Go.Proofs.Ytfbhjgaiejjfaaa.gx w x
  t2 : At W w.heap.size (.cells RF 24 (0, 0))
  t3 : At W (w.heap.size + 1) (.cells RM 34 (0, 0))
  t4 : At W (w.heap.size + 1 + 1) (.cells #[.string ⟨#[]⟩, .string ⟨#[]⟩, .int .i64 0, .int .i64 0, .int .i64 0, .slice none 0 0] 24 (0, 0))
  own : Own w.heap.size W 62 4 v k (tkC J' k)
  sm : ∀ i, i < k → SmAt W (J' i).f (J' i).n (J' i).A
  bl : ∀ i, i < k → ∀ b o, (J' i).A = some ⟨b, o, none⟩ → Is W b 69 ∧ w.heap.size ≤ b
  rel : ∀ i, i < k → UnderG b g (J i) (J' i)
variable {w W : World} {RF RM : Array Value} {v : Value} {k : Nat} {J J' : Nat → TkR} {b : ByteArray} {g : Int}
theorem MdSt.on (H : MdSt w W RF RM v k J J' b g) (x : Ext) : MdSt w (Go.Proofs.Ytfbhjgaiejjfaaa.gx W x) RF RM v k J J' b g :=
  ⟨gxT H.gx ⟨x, rfl⟩, H.t2.gx, H.t3.gx, H.t4.gx, H.own.gx, fun i hi => (H.sm i hi).gx, fun i hi b o e => ⟨(H.bl i hi b o e).1.gx, (H.bl i hi b o e).2⟩, H.rel⟩
theorem MdSt.alloc (H : MdSt w W RF RM v k J J' b g) (ob : Obj) : MdSt w (W.alloc ob) RF RM v k J J' b g := by rw [alloc_is]; exact H.on _
theorem MdSt.via (H : MdSt w W RF RM v k J J' b g) {W' : World} (h : ∃ x, W' = Go.Proofs.Ytfbhjgaiejjfaaa.gx W x) : MdSt w W' RF RM v k J J' b g := by obtain ⟨x, rfl⟩ := h; exact H.on x
theorem MdSt.app (H : MdSt w W RF RM v k J J' b g) {W' : World} {v' : Value} {K : TkR} (hG : ∃ x, W' = Go.Proofs.Ytfbhjgaiejjfaaa.gx w x) (hO : Own w.heap.size W' 62 4 v' (k + 1) (tkC J' k ++ [.string K.s, .int .i64 K.den, .slice K.A K.n K.c, .int .i64 K.lg])) (hg : W.grownBy W' v.ownBlock)
    (hs : SmAt W K.f K.n K.A) (hb : ∀ b o, K.A = some ⟨b, o, none⟩ → Is W b 69 ∧ w.heap.size ≤ b) (hr : UnderG b g (J k) K) : MdSt w W' RF RM v' (k + 1) J (fun i => if i = k then K else J' i) b g := by
  have ne2 : v.ownBlock ≠ some w.heap.size := own_ne_at H.own H.t2 (by decide)
  have ne3 : v.ownBlock ≠ some (w.heap.size + 1) := own_ne_at H.own H.t3 (by decide)
  have ne4 : v.ownBlock ≠ some (w.heap.size + 1 + 1) := own_ne_at H.own H.t4 (by decide)
  have neS : ∀ q, Is W q 69 → v.ownBlock ≠ some q := fun q hq => by obtain ⟨cs, hA⟩ := hq; exact own_ne_at H.own hA (by decide)
  refine ⟨hG, H.t2.grown hg ne2, H.t3.grown hg ne3, H.t4.grown hg ne4, ?_, fun i hi => ?_, fun i hi => ?_, fun i hi => ?_⟩
  · unfold tkC
    rw [tkC_same (J' := J') k fun i hi => by rw [if_neg (by omega)]]
    simp only [if_pos]
    exact hO
  · by_cases e : i = k
    · simp only [if_pos e]; exact smAt_grown hs hg fun b o q => neS b (hb b o q).1
    · simp only [if_neg e]; exact smAt_grown (H.sm i (by omega)) hg fun b o q => neS b (H.bl i (by omega) b o q).1
  · by_cases e : i = k
    · simp only [if_pos e]; exact fun b o q => ⟨(hb b o q).1.grown hg (neS b (hb b o q).1), (hb b o q).2⟩
    · simp only [if_neg e]; exact fun b o q => ⟨(H.bl i (by omega) b o q).1.grown hg (neS b (H.bl i (by omega) b o q).1), (H.bl i (by omega) b o q).2⟩
  · by_cases e : i = k
    · simp only [if_pos e]; rw [e]; exact hr
    · simp only [if_neg e]; exact H.rel i (by omega)
theorem tksAt_own {W : World} {J : Nat → TkR} {n c m : Nat} {A : Option Addr} (h : Own m W 62 4 (.slice A n c) n (tkC J n)) (hs : ∀ i, i < n → SmAt W (J i).f (J i).n (J i).A) : TksAt W J n A := by
  unfold TksAt
  intro h0
  obtain ⟨A', c', e, _, _, _, hsh⟩ := h.is
  injection e with e1 e2 e3
  subst e1
  unfold Shows at hsh
  obtain ⟨g, o, rfl, hc⟩ := hsh (by rw [tkC_len]; omega)
  refine ⟨g, o, rfl, fun i hi => ⟨?_, hs i hi⟩⟩
  obtain ⟨e1, e2, e3, e4⟩ := tkC_at J n i hi
  have h1 := hc _ _ e1
  have h2 := hc _ _ e2
  have h3 := hc _ _ e3
  have h4 := hc _ _ e4
  rw [← Nat.add_assoc] at h2 h3 h4
  exact ⟨h1, h2, h3, h4⟩
/-- What stays while the two flights' variables are written. -/
structure Kp (w W : World) (v : Value) (n : Nat) (J' : Nat → TkR) : Prop where
  gx : ∃ x, W = Go.Proofs.Ytfbhjgaiejjfaaa.gx w x
  own : Own w.heap.size W 62 4 v n (tkC J' n)
  sm : ∀ i, i < n → SmAt W (J' i).f (J' i).n (J' i).A
  ne2 : v.ownBlock ≠ some w.heap.size
  ne4 : v.ownBlock ≠ some (w.heap.size + 1 + 1)
  ns2 : ∀ i, i < n → ∀ b o, (J' i).A = some ⟨b, o, none⟩ → w.heap.size ≠ b
  ns4 : ∀ i, i < n → ∀ b o, (J' i).A = some ⟨b, o, none⟩ → w.heap.size + 1 + 1 ≠ b
theorem MdSt.kp (H : MdSt w W RF RM v k J J' b g) : Kp w W v k J' := by
  have no : ∀ K (cs : Array Value) t, At W K (.cells cs t (0, 0)) → t ≠ 69 → ∀ i, i < k → ∀ b o, (J' i).A = some ⟨b, o, none⟩ → K ≠ b := fun K cs t hA ht i hi b o e q => by
    obtain ⟨⟨cs', hB⟩, -⟩ := H.bl i hi b o e
    subst q
    unfold At at hA hB
    rw [hA] at hB
    simp at hB
    exact ht hB.2
  exact ⟨H.gx, H.own, H.sm, own_ne_at H.own H.t2 (by decide), own_ne_at H.own H.t4 (by decide), no _ _ _ H.t2 (by decide), no _ _ _ H.t4 (by decide)⟩
theorem Kp.set2 {n : Nat} (H : Kp w W v n J') (o : Nat) (u : Value) : Kp w (W.setCell ⟨w.heap.size, o, none⟩ u) v n J' :=
  ⟨Gx.setCell H.gx (Nat.le_refl _), H.own.setc H.ne2, fun i hi => smAt_far (H.sm i hi) (H.ns2 i hi), H.ne2, H.ne4, H.ns2, H.ns4⟩
theorem Kp.set4 {n : Nat} (H : Kp w W v n J') (o : Nat) (u : Value) : Kp w (W.setCell ⟨w.heap.size + 1 + 1, o, none⟩ u) v n J' :=
  ⟨Gx.setCell H.gx (by omega), H.own.setc H.ne4, fun i hi => smAt_far (H.sm i hi) (H.ns4 i hi), H.ne2, H.ne4, H.ns2, H.ns4⟩
theorem IndexS_0 (s : ByteArray) (w : World) : Calls Try.prog 48 #[.slice none 0 0, .string s] w fun e w' => e = .returned (.int .i64 (-1)) ∧ ∃ x, w' = Go.Proofs.Ytfbhjgaiejjfaaa.gx w x := by
  go_enter Try.func48, Try.ntmps48
  go_wp2
  refine wp_loop_rounds 1 ?_
  rw [rounds_succ]
  go_wp2
  go_ret
  exact ⟨rfl, (by repeat (first | (with_reducible exact Gx.refl _) | (with_reducible assumption) | (with_reducible refine Gx.gx ?_) | (with_reducible refine Gx.alloc ?_) | (with_reducible refine Gx.drew ?_) | (with_reducible refine Gx.drewN ?_) | (with_reducible refine Gx.setRow ?_ (by first | omega | (simp; done) | (simp <;> omega))) | (with_reducible refine Gx.setCell ?_ (by first | omega | (simp; done) | (simp <;> omega)))))⟩
theorem ContainsS_0 (s : ByteArray) (w : World) : Calls Try.prog 33 #[.slice none 0 0, .string s] w fun e w' => e = .returned (.bool false) ∧ ∃ x, w' = Go.Proofs.Ytfbhjgaiejjfaaa.gx w x := by
  go_enter Try.func33, Try.ntmps33
  go_wp2_with (first | (go_at_call 48; refine (IndexS_0 _ _).mono ?_; rintro e w' ⟨rfl, x1, rfl⟩))
  go_ret
  exact ⟨rfl, (by repeat (first | (with_reducible exact Gx.refl _) | (with_reducible assumption) | (with_reducible refine Gx.gx ?_) | (with_reducible refine Gx.alloc ?_) | (with_reducible refine Gx.drew ?_) | (with_reducible refine Gx.drewN ?_) | (with_reducible refine Gx.setRow ?_ (by first | omega | (simp; done) | (simp <;> omega))) | (with_reducible refine Gx.setCell ?_ (by first | omega | (simp; done) | (simp <;> omega)))))⟩
theorem MdSt.start (w : World) (tl rt : ByteArray) (dy fr to : Int) (A : Option Addr) (n c gg : Nat) (J : Nat → TkR) (b : ByteArray) (g : Int) : MdSt w (((w.alloc (.cells #[.string tl, .string rt, .int .i64 dy, .int .i64 fr, .int .i64 to, .slice A n c] 24)).alloc (.cells #[.bool false, .int .i64 1, .slice none 0 0, .slice (some ⟨gg, 0, none⟩) 1 1, .int .i64 1] 34)).alloc (.cells #[.string ⟨#[]⟩, .string ⟨#[]⟩, .int .i64 0, .int .i64 0, .int .i64 0, .slice none 0 0] 24)) #[.string tl, .string rt, .int .i64 dy, .int .i64 fr, .int .i64 to, .slice A n c] #[.bool false, .int .i64 1, .slice none 0 0, .slice (some ⟨gg, 0, none⟩) 1 1, .int .i64 1] (.slice none 0 0) 0 J J b g := by
  have S2 : At (((w.alloc (.cells #[.string tl, .string rt, .int .i64 dy, .int .i64 fr, .int .i64 to, .slice A n c] 24)).alloc (.cells #[.bool false, .int .i64 1, .slice none 0 0, .slice (some ⟨gg, 0, none⟩) 1 1, .int .i64 1] 34)).alloc (.cells #[.string ⟨#[]⟩, .string ⟨#[]⟩, .int .i64 0, .int .i64 0, .int .i64 0, .slice none 0 0] 24)) w.heap.size (.cells #[.string tl, .string rt, .int .i64 dy, .int .i64 fr, .int .i64 to, .slice A n c] 24 (0, 0)) := by (focus (repeat (first | (with_reducible assumption) | (with_reducible exact At.new _ _) | (with_reducible refine At.row ?_) | ((with_reducible refine At.row_other ?_ ?_); rotate_left; (focus (simp <;> omega))) | (with_reducible refine At.app ?_) | (with_reducible refine At.tick ?_) | (with_reducible refine At.gx ?_) | ((with_reducible refine At.new' ?_); focus (simp; done)) | (with_reducible refine At.alloc ?_) | (with_reducible refine At.drew ?_) | (with_reducible exact Is.new _ _ _) | (with_reducible refine Is.row ?_) | ((with_reducible refine Is.row_other ?_ ?_); rotate_left; (focus (simp <;> omega))) | (with_reducible refine Is.gx ?_) | ((with_reducible refine Is.new' ?_); focus (simp; done)) | (with_reducible refine Is.alloc ?_) | (with_reducible refine Is.drew ?_))))
  have S3 : At (((w.alloc (.cells #[.string tl, .string rt, .int .i64 dy, .int .i64 fr, .int .i64 to, .slice A n c] 24)).alloc (.cells #[.bool false, .int .i64 1, .slice none 0 0, .slice (some ⟨gg, 0, none⟩) 1 1, .int .i64 1] 34)).alloc (.cells #[.string ⟨#[]⟩, .string ⟨#[]⟩, .int .i64 0, .int .i64 0, .int .i64 0, .slice none 0 0] 24)) (w.heap.size + 1) (.cells #[.bool false, .int .i64 1, .slice none 0 0, .slice (some ⟨gg, 0, none⟩) 1 1, .int .i64 1] 34 (0, 0)) := by (focus (repeat (first | (with_reducible assumption) | (with_reducible exact At.new _ _) | (with_reducible refine At.row ?_) | ((with_reducible refine At.row_other ?_ ?_); rotate_left; (focus (simp <;> omega))) | (with_reducible refine At.app ?_) | (with_reducible refine At.tick ?_) | (with_reducible refine At.gx ?_) | ((with_reducible refine At.new' ?_); focus (simp; done)) | (with_reducible refine At.alloc ?_) | (with_reducible refine At.drew ?_) | (with_reducible exact Is.new _ _ _) | (with_reducible refine Is.row ?_) | ((with_reducible refine Is.row_other ?_ ?_); rotate_left; (focus (simp <;> omega))) | (with_reducible refine Is.gx ?_) | ((with_reducible refine Is.new' ?_); focus (simp; done)) | (with_reducible refine Is.alloc ?_) | (with_reducible refine Is.drew ?_))))
  have S4 : At (((w.alloc (.cells #[.string tl, .string rt, .int .i64 dy, .int .i64 fr, .int .i64 to, .slice A n c] 24)).alloc (.cells #[.bool false, .int .i64 1, .slice none 0 0, .slice (some ⟨gg, 0, none⟩) 1 1, .int .i64 1] 34)).alloc (.cells #[.string ⟨#[]⟩, .string ⟨#[]⟩, .int .i64 0, .int .i64 0, .int .i64 0, .slice none 0 0] 24)) (w.heap.size + 1 + 1) (.cells #[.string ⟨#[]⟩, .string ⟨#[]⟩, .int .i64 0, .int .i64 0, .int .i64 0, .slice none 0 0] 24 (0, 0)) := by (focus (repeat (first | (with_reducible assumption) | (with_reducible exact At.new _ _) | (with_reducible refine At.row ?_) | ((with_reducible refine At.row_other ?_ ?_); rotate_left; (focus (simp <;> omega))) | (with_reducible refine At.app ?_) | (with_reducible refine At.tick ?_) | (with_reducible refine At.gx ?_) | ((with_reducible refine At.new' ?_); focus (simp; done)) | (with_reducible refine At.alloc ?_) | (with_reducible refine At.drew ?_) | (with_reducible exact Is.new _ _ _) | (with_reducible refine Is.row ?_) | ((with_reducible refine Is.row_other ?_ ?_); rotate_left; (focus (simp <;> omega))) | (with_reducible refine Is.gx ?_) | ((with_reducible refine Is.new' ?_); focus (simp; done)) | (with_reducible refine Is.alloc ?_) | (with_reducible refine Is.drew ?_))))
  have G : ∃ x, ((w.alloc (.cells #[.string tl, .string rt, .int .i64 dy, .int .i64 fr, .int .i64 to, .slice A n c] 24)).alloc (.cells #[.bool false, .int .i64 1, .slice none 0 0, .slice (some ⟨gg, 0, none⟩) 1 1, .int .i64 1] 34)).alloc (.cells #[.string ⟨#[]⟩, .string ⟨#[]⟩, .int .i64 0, .int .i64 0, .int .i64 0, .slice none 0 0] 24) = Go.Proofs.Ytfbhjgaiejjfaaa.gx w x := (by repeat (first | (with_reducible exact Gx.refl _) | (with_reducible assumption) | (with_reducible refine Gx.gx ?_) | (with_reducible refine Gx.alloc ?_) | (with_reducible refine Gx.drew ?_) | (with_reducible refine Gx.drewN ?_) | (with_reducible refine Gx.setRow ?_ (by first | omega | (simp; done) | (simp <;> omega))) | (with_reducible refine Gx.setCell ?_ (by first | omega | (simp; done) | (simp <;> omega)))))
  exact ⟨G, S2, S3, S4, Own.nil _ _ _ _, fun i h => absurd h (by omega), fun i h => absurd h (by omega), fun i h => absurd h (by omega)⟩
set_option maxHeartbeats 4000000 in
set_option maxRecDepth 100000 in
theorem masked_any (tl rt : ByteArray) (dy fr to : Int) (A : Option Addr) (n c gg : Nat) (J : Nat → TkR) (b : ByteArray) (g : Int) (w : World) (hL : TksAt w J n A) (hn : n ≤ 50) (hdy : 0 ≤ dy ∧ dy ≤ 1000000)
    (HMt : Hid (∀ k, k < n → ∀ W, (∃ x, W = Go.Proofs.Ytfbhjgaiejjfaaa.gx w x) → Calls Try.prog 34 #[.agg #[.string (J k).s, .int .i64 (J k).den, .slice (J k).A (J k).n (J k).c, .int .i64 (J k).lg], .slice (some ⟨gg, 0, none⟩) 1 1] W fun e w' => ∃ A7 c7, e = .returned (.agg #[.string (J k).s, .int .i64 (J k).den, .slice A7 (J k).n c7, .int .i64 (J k).lg]) ∧ (∃ x, w' = Go.Proofs.Ytfbhjgaiejjfaaa.gx W x) ∧ SmAt w' (if b = (J k).s then mxF (J k).f g (J k).n else (J k).f) (J k).n A7 ∧ (∀ b o, A7 = some ⟨b, o, none⟩ → Is w' b 69 ∧ W.heap.size ≤ b) ∧ (A7 = none → (J k).n = 0 ∧ c7 = 0) ∧ (J k).n ≤ c7)) :
    Calls Try.prog 16 #[flV tl rt dy fr to A n c, .agg #[.bool false, .int .i64 1, .slice none 0 0, .slice (some ⟨gg, 0, none⟩) 1 1, .int .i64 1]] w fun e w' => ∃ J' A' c', e = .returned (flV tl rt dy fr to A' n c') ∧ (∃ x, w' = Go.Proofs.Ytfbhjgaiejjfaaa.gx w x) ∧ TksAt w' J' n A' ∧ (∀ i, i < n → UnderG b g (J i) (J' i)) ∧ (n ≤ c' ∧ c' ≤ 9223372036854775807) ∧ (∀ q o, A' = some ⟨q, o, none⟩ → w.heap.size ≤ q) ∧ ∀ i, i < n → ∀ q o, (J' i).A = some ⟨q, o, none⟩ → w.heap.size ≤ q := by
  have HCd := Lib.hid (fun W => coarse_any dy 1 (by omega) (by omega) (by omega) (by omega) W)
  rw [fl_one] at HCd
  have HM0 := Lib.hid (MdSt.start w tl rt dy fr to A n c gg J b g)
  clear hdy
  go_enter Try.func16, Try.ntmps16
  go_wp2_with (first | go_skip | (go_at_call 32; refine (HCd.out _).mono ?_; rintro e w' ⟨rfl, rfl⟩))
  go_loopw [20, 5] (fun i v wr => ∃ (k : Nat) (J' : Nat → TkR) (A2 : Option Addr) (cq : Nat), k ≤ n ∧ i = .int .i64 k ∧ v = .slice A2 k cq ∧ MdSt w wr #[.string tl, .string rt, .int .i64 dy, .int .i64 fr, .int .i64 to, .slice A n c] #[.bool false, .int .i64 1, .slice none 0 0, .slice (some ⟨gg, 0, none⟩) 1 1, .int .i64 1] (.slice A2 k cq) k J J' b g) (fun i _ _ => n - (intOf i).toNat)
  case atStart => exact ⟨0, J, none, 0, Nat.zero_le _, rfl, rfl, HM0.out⟩
  case round =>
    clear HM0
    obtain ⟨k, J', A2, cq, hk, rfl, rfl, M⟩ := hrel
    by_cases hlt : k < n
    · have hkn : (k : Int) < (n : Int) := by omega
      obtain ⟨b0, o0, rfl, hbw, HC, -⟩ := (hL.on M.gx).get (by omega)
      obtain ⟨c0, c1, c2, c3⟩ := HC.out k hlt
      have HMk := Lib.hid (HMt.out k hlt)
      have m2 : wr.cell? ⟨w.heap.size + 1, 2, none⟩ = some (.slice none 0 0) := by rw [cell_of_row _ _ _ _ _ _ M.t3]; rfl
      have m3 : wr.cell? ⟨w.heap.size + 1, 3, none⟩ = some (.slice (some ⟨gg, 0, none⟩) 1 1) := by rw [cell_of_row _ _ _ _ _ _ M.t3]; rfl
      have l3 := M.t3.lt
      have l2 := M.t2.lt
      have hlow : w.heap.size ≤ wr.heap.size := by omega
      have HR : ∀ A7 c7, (A7 = none → (J k).n = 0 ∧ c7 = 0) → (J k).n ≤ c7 → UnderG b g (J k) ⟨(J k).s, (J k).den, A7, (J k).n, c7, (J k).lg, if b = (J k).s then mxF (J k).f g (J k).n else (J k).f⟩ := fun A7 c7 h1 h2 => ⟨rfl, rfl, rfl, rfl, rfl, h1, h2⟩
      have HM := Lib.hid M
      have HR := Lib.hid HR
      clear HC hL HMt M
      generalize hI : J k = I at *
      obtain ⟨s, den, A1, n1, m1, lg, f⟩ := I
      dsimp only at *
      generalize (if b = s then mxF f g n1 else f) = F at *
      go_wp2_with (first
        | go_skip
        | (go_at_call 33; refine (ContainsS_0 _ _).mono ?_; rintro e w' ⟨rfl, x1, rfl⟩)
        | (go_at_call 34; refine (HMk.out _ (gxT HM.out.gx (by repeat (first | (with_reducible exact Gx.refl _) | (with_reducible assumption) | (with_reducible refine Gx.gx ?_) | (with_reducible refine Gx.alloc ?_) | (with_reducible refine Gx.drew ?_) | (with_reducible refine Gx.drewN ?_) | (with_reducible refine Gx.setRow ?_ (by first | omega | (simp; done) | (simp <;> omega))) | (with_reducible refine Gx.setCell ?_ (by first | omega | (simp; done) | (simp <;> omega))))))).mono ?_; rintro e W3 ⟨A7, c7, rfl, hW3, hs3, hb3, hnil3, hnc3⟩; have M3 := HM.out.via (gxT (by repeat (first | (with_reducible exact Gx.refl _) | (with_reducible assumption) | (with_reducible refine Gx.gx ?_) | (with_reducible refine Gx.alloc ?_) | (with_reducible refine Gx.drew ?_) | (with_reducible refine Gx.drewN ?_) | (with_reducible refine Gx.setRow ?_ (by first | omega | (simp; done) | (simp <;> omega))) | (with_reducible refine Gx.setCell ?_ (by first | omega | (simp; done) | (simp <;> omega))))) hW3); have hl3 := M3.t4.lt; have hb3 : ∀ b o, A7 = some ⟨b, o, none⟩ → Is W3 b 69 ∧ w.heap.size ≤ b := (fun b o e => ⟨(hb3 b o e).1, Nat.le_trans (by simp; omega) (hb3 b o e).2⟩); clear hW3)
        | (at_builtin; (with_reducible apply append_new (o := ⟨some 36, _, _, _, _, _⟩) el_track w w.heap.size (v := .slice A2 k cq) (n := k) (xs := tkC J' k) (m := 1) (news := [.string s, .int .i64 den, .slice A7 n1 c7, .int .i64 lg])); go_loud (exact rfl; exact rfl; exact rfl; exact rfl; (focus omega); exact M3.own.alloc; exact Gx.alloc M3.gx; (focus (simp <;> omega)); exact rfl; (focus (repeat (first | (with_reducible assumption) | ((with_reducible apply Shows.whole); focus ((focus (repeat (first | (with_reducible assumption) | (with_reducible exact At.new _ _) | (with_reducible refine At.row ?_) | ((with_reducible refine At.row_other ?_ ?_); rotate_left; (focus (simp <;> omega))) | (with_reducible refine At.app ?_) | (with_reducible refine At.tick ?_) | (with_reducible refine At.gx ?_) | ((with_reducible refine At.new' ?_); focus (simp; done)) | (with_reducible refine At.alloc ?_) | (with_reducible refine At.drew ?_) | (with_reducible exact Is.new _ _ _) | (with_reducible refine Is.row ?_) | ((with_reducible refine Is.row_other ?_ ?_); rotate_left; (focus (simp <;> omega))) | (with_reducible refine Is.gx ?_) | ((with_reducible refine Is.new' ?_); focus (simp; done)) | (with_reducible refine Is.alloc ?_) | (with_reducible refine Is.drew ?_)))); done)) | (with_reducible refine Shows.app ?_) | (with_reducible refine Shows.tick ?_) | (with_reducible refine Shows.gx ?_) | (with_reducible refine Shows.alloc ?_) | (with_reducible refine Shows.drew ?_)))); (focus (simp [Value.oneCell']; done)); (focus (simp only [maxLen]; omega)); (focus omega); rintro v2 W4 hW4 hO4 hg4; obtain ⟨A3, c3, rfl, -⟩ := hO4.is; have M4 := (M3.alloc _).app (K := ⟨s, den, A7, n1, c7, lg, F⟩) hW4 hO4 hg4 (SmAt.alloc hs3) (fun b o e => ⟨by rw [alloc_is]; exact (hb3 b o e).1.gx, (hb3 b o e).2⟩) (by rw [hI]; exact HR.out A7 c7 hnil3 hnc3); clear hW4 hO4 hg4)))
      go_roundw
      all_goals first
        | (simp [intOf]; omega)
        | exact ⟨k + 1, _, A3, c3, by omega, by go_num, rfl, M4⟩
    · obtain rfl : n = k := by omega
      have q0 : wr.cell? ⟨w.heap.size, 0, none⟩ = some (.string tl) := by rw [cell_of_row _ _ _ _ _ _ M.t2]; rfl
      have q1 : wr.cell? ⟨w.heap.size, 1, none⟩ = some (.string rt) := by rw [cell_of_row _ _ _ _ _ _ M.t2]; rfl
      have q2 : wr.cell? ⟨w.heap.size, 2, none⟩ = some (.int .i64 dy) := by rw [cell_of_row _ _ _ _ _ _ M.t2]; rfl
      have q3 : wr.cell? ⟨w.heap.size, 3, none⟩ = some (.int .i64 fr) := by rw [cell_of_row _ _ _ _ _ _ M.t2]; rfl
      have q4 : wr.cell? ⟨w.heap.size, 4, none⟩ = some (.int .i64 to) := by rw [cell_of_row _ _ _ _ _ _ M.t2]; rfl
      have q5 : wr.cell? ⟨w.heap.size, 5, none⟩ = some (.slice A n c) := by rw [cell_of_row _ _ _ _ _ _ M.t2]; rfl
      have r0 : wr.cell? ⟨w.heap.size + 1 + 1, 0, none⟩ = some (.string ⟨#[]⟩) := by rw [cell_of_row _ _ _ _ _ _ M.t4]; rfl
      have r1 : wr.cell? ⟨w.heap.size + 1 + 1, 1, none⟩ = some (.string ⟨#[]⟩) := by rw [cell_of_row _ _ _ _ _ _ M.t4]; rfl
      have r2 : wr.cell? ⟨w.heap.size + 1 + 1, 2, none⟩ = some (.int .i64 0) := by rw [cell_of_row _ _ _ _ _ _ M.t4]; rfl
      have r3 : wr.cell? ⟨w.heap.size + 1 + 1, 3, none⟩ = some (.int .i64 0) := by rw [cell_of_row _ _ _ _ _ _ M.t4]; rfl
      have r4 : wr.cell? ⟨w.heap.size + 1 + 1, 4, none⟩ = some (.int .i64 0) := by rw [cell_of_row _ _ _ _ _ _ M.t4]; rfl
      have r5 : wr.cell? ⟨w.heap.size + 1 + 1, 5, none⟩ = some (.slice none 0 0) := by rw [cell_of_row _ _ _ _ _ _ M.t4]; rfl
      have z5 : wr.frozen? ⟨w.heap.size, 5, none⟩ = false := M.t2.frz
      have y0 : wr.frozen? ⟨w.heap.size + 1 + 1, 0, none⟩ = false := M.t4.frz
      have y1 : wr.frozen? ⟨w.heap.size + 1 + 1, 1, none⟩ = false := M.t4.frz
      have y2 : wr.frozen? ⟨w.heap.size + 1 + 1, 2, none⟩ = false := M.t4.frz
      have y3 : wr.frozen? ⟨w.heap.size + 1 + 1, 3, none⟩ = false := M.t4.frz
      have y4 : wr.frozen? ⟨w.heap.size + 1 + 1, 4, none⟩ = false := M.t4.frz
      have y5 : wr.frozen? ⟨w.heap.size + 1 + 1, 5, none⟩ = false := M.t4.frz
      have l2 := M.t2.lt
      have l4 := M.t4.lt
      have HK := M.kp
      have HR := M.rel
      have HB := fun i hi q o e => (M.bl i hi q o e).2
      clear M hL HMt HCd
      go_wp2
      refine bodyPost_ret (v := flV tl rt dy fr to A2 n cq) (by simp [results, Try.results16, go_sem, r0, r1, r2, r3, r4, r5]) rfl ?_
      have HF := ((((((HK.set2 5 (.slice A2 n cq)).set4 0 (.string tl)).set4 1 (.string rt)).set4 2 (.int .i64 dy)).set4 3 (.int .i64 fr)).set4 4 (.int .i64 to)).set4 5 (.slice A2 n cq)
      refine ⟨J', A2, cq, rfl, HF.gx, tksAt_own HF.own HF.sm, HR, ?_, fun q o e => (HF.own.blk q o e).2, HB⟩
      obtain ⟨_, _, e1, e2, e3, -⟩ := HF.own.is
      injection e1 with _ _ e4
      simp only [maxLen] at e3
      omega
end Go.Proofs.Ytfbhjgaiejjfaaa
