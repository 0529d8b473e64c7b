/-
  A track under a mask of one grain: maskedTrack.
-/
import Derived.Test.YtfbhjgaiejjfaaaFGr
namespace Go.Proofs.Ytfbhjgaiejjfaaa
open Go.RowKit
-- AT2
-- AT3

/-- A number under a grain. -/
def czN (n N : Int) : Int := max (fl N n * n) (-1125899906842624)
/-- The samples of which the first k were made coarse. -/
def mxF (f : Nat → Sm) (n : Int) (k : Nat) : Nat → Sm := fun i => if i < k ∧ 2 ≤ (f i).m then ⟨(f i).t, czN n (f i).n, (f i).m⟩ else f i
theorem mxF_0 (f : Nat → Sm) (n : Int) : mxF f n 0 = f := by funext i; unfold mxF; rw [if_neg (by omega)]
theorem mxF_at {f : Nat → Sm} {n : Int} {k : Nat} : mxF f n k k = f k := by unfold mxF; rw [if_neg (by omega)]
theorem mxF_lost {f : Nat → Sm} {n : Int} {k : Nat} (h : ¬ 2 ≤ (f k).m) : mxF f n (k + 1) = mxF f n k := by
  funext i
  unfold mxF
  by_cases e : i = k
  · subst e; rw [if_neg (fun q => h q.2), if_neg (fun q => h q.2)]
  · by_cases q : i < k ∧ 2 ≤ (f i).m
    · rw [if_pos ⟨by omega, q.2⟩, if_pos q]
    · rw [if_neg (fun q' => q ⟨by omega, q'.2⟩), if_neg q]
theorem mxF_step {f : Nat → Sm} {n : Int} {k : Nat} (h : 2 ≤ (f k).m) : mxF f n (k + 1) = fun i => if i = k then ⟨(f k).t, czN n (f k).n, (f k).m⟩ else mxF f n k i := by
  funext i
  unfold mxF
  by_cases e : i = k
  · subst e; rw [if_pos ⟨by omega, h⟩, if_pos rfl]
  · rw [if_neg e]
    by_cases q : i < k ∧ 2 ≤ (f i).m
    · rw [if_pos ⟨by omega, q.2⟩, if_pos q]
    · rw [if_neg (fun q' => q ⟨by omega, q'.2⟩), if_neg q]
theorem At.setc_same {W : World} {g o : Nat} {cs : Array Value} {t : TypeId} {u : Value} (h : At W g (.cells cs t (0, 0))) : At (W.setCell ⟨g, o, none⟩ u) g (.cells (cs.setIfInBounds o u) t (0, 0)) := by
  unfold At at *
  simp [World.setCell, Array.getElem?_modify, h]
theorem smAt_put {W : World} {h : Nat → Sm} {n j : Nat} {b o : Nat} {t v m : Int} (H : SmAt W h n (some ⟨b, o, none⟩)) (hj : j < n) (ht : (h j).t = t) (hm : (h j).m = m) :
    SmAt (W.setCell ⟨b, o + j * 3 + 1, none⟩ (.int .i64 v)) (fun i => if i = j then ⟨t, v, m⟩ else h i) n (some ⟨b, o, none⟩) := by
  obtain ⟨b', o', e, -, HC⟩ := H.get (by omega)
  obtain ⟨rfl, rfl⟩ : b = b' ∧ o = o' := by injection e with e; injection e with e1 e2; exact ⟨e1, e2⟩
  refine SmAt.mk fun _ => ⟨b, o, rfl, fun i hi => ?_⟩
  obtain ⟨c0, c1, c2⟩ := HC.out i hi
  have ne : ∀ p q : Nat, p ≠ q → (⟨b, p, none⟩ : Addr) ≠ ⟨b, q, none⟩ := fun p q hpq e => by injection e with _ e2; exact hpq e2
  by_cases e : i = j
  · subst e
    rw [if_pos rfl]
    refine ⟨?_, World.cell?_setCell_same _ _ _ c1, ?_⟩
    · rw [← ht]; exact setc_other c0 (ne _ _ (by omega))
    · rw [← hm]; exact setc_other c2 (ne _ _ (by omega))
  · rw [if_neg e]
    exact ⟨setc_other c0 (ne _ _ (by omega)), setc_other c1 (ne _ _ (by omega)), setc_other c2 (ne _ _ (by omega))⟩
theorem smAt_far {W : World} {h : Nat → Sm} {n : Nat} {A : Option Addr} {K q : Nat} {u : Value} (H : SmAt W h n A) (hne : ∀ b o, A = some ⟨b, o, none⟩ → K ≠ b) : SmAt (W.setCell ⟨K, q, none⟩ u) h n A := by
  refine SmAt.mk fun h0 => ?_
  obtain ⟨b, o, rfl, -, HC⟩ := H.get h0
  refine ⟨b, o, rfl, fun i hi => ?_⟩
  obtain ⟨c0, c1, c2⟩ := HC.out i hi
  have ne : ∀ p : Nat, (⟨K, q, none⟩ : Addr) ≠ ⟨b, p, none⟩ := fun p e => by injection e with e1; exact hne b o rfl e1
  exact ⟨setc_other c0 (ne _), setc_other c1 (ne _), setc_other c2 (ne _)⟩
/-- While a track is made coarse: its two variables, and its samples in a block of the call's own. -/
structure MkSt (w W : World) (ra rb : Array Value) (A7 : Option Addr) (n : Nat) (h : Nat → Sm) : Prop where
  gx : ∃ x, W = Go.Proofs.Ytfbhjgaiejjfaaa.gx w x
  t2 : At W w.heap.size (.cells ra 62 (0, 0))
  t4 : At W (w.heap.size + 1) (.cells rb 62 (0, 0))
  sm : SmAt W h n A7
  bl : ∀ b o, A7 = some ⟨b, o, none⟩ → Is W b 69 ∧ w.heap.size ≤ b
theorem MkSt.ne {w W : World} {ra rb : Array Value} {A7 : Option Addr} {n : Nat} {h : Nat → Sm} (H : MkSt w W ra rb A7 n h) {b o : Nat} (e : A7 = some ⟨b, o, none⟩) : w.heap.size ≠ b ∧ w.heap.size + 1 ≠ b := by
  obtain ⟨⟨cs, hA⟩, -⟩ := H.bl b o e
  have h2 := H.t2
  have h4 := H.t4
  unfold At at h2 h4 hA
  constructor
  · intro q; rw [q] at h2; rw [hA] at h2; simp at h2
  · intro q; rw [q] at h4; rw [hA] at h4; simp at h4
theorem MkSt.on {w W : World} {ra rb : Array Value} {A7 : Option Addr} {n : Nat} {h : Nat → Sm} (H : MkSt w W ra rb A7 n h) (x : Ext) : MkSt w (Go.Proofs.Ytfbhjgaiejjfaaa.gx W x) ra rb A7 n h :=
  ⟨gxT H.gx ⟨x, rfl⟩, H.t2.gx, H.t4.gx, H.sm.gx, fun b o e => ⟨(H.bl b o e).1.gx, (H.bl b o e).2⟩⟩
theorem MkSt.alloc {w W : World} {ra rb : Array Value} {A7 : Option Addr} {n : Nat} {h : Nat → Sm} (H : MkSt w W ra rb A7 n h) (ob : Obj) : MkSt w (W.alloc ob) ra rb A7 n h := by rw [alloc_is]; exact H.on _
theorem MkSt.drew {w W : World} {ra rb : Array Value} {A7 : Option Addr} {n : Nat} {h : Nat → Sm} (H : MkSt w W ra rb A7 n h) : MkSt w W.drew ra rb A7 n h := by rw [drew_is]; exact H.on _
theorem MkSt.put {w W : World} {ra rb : Array Value} {A7 : Option Addr} {n j b o : Nat} {h : Nat → Sm} {t v m : Int} (H : MkSt w W ra rb A7 n h) (e : A7 = some ⟨b, o, none⟩) (hj : j < n) (ht : (h j).t = t) (hm : (h j).m = m) :
    MkSt w (W.setCell ⟨b, o + j * 3 + 1, none⟩ (.int .i64 v)) ra rb A7 n (fun i => if i = j then ⟨t, v, m⟩ else h i) := by
  obtain ⟨n2, n4⟩ := H.ne e
  subst e
  refine ⟨Gx.setCell H.gx (H.bl b o rfl).2, At.setc_other H.t2 (Ne.symm n2), At.setc_other H.t4 (Ne.symm n4), smAt_put H.sm hj ht hm, fun b' o' e' => ⟨(H.bl b' o' e').1.setc, (H.bl b' o' e').2⟩⟩
theorem MkSt.fin {w W : World} {ra rb : Array Value} {A7 : Option Addr} {n : Nat} {h : Nat → Sm} (H : MkSt w W ra rb A7 n h) (v0 v1 v2 v3 : Value) :
    (∃ x, (((W.setCell ⟨w.heap.size + 1, 0, none⟩ v0).setCell ⟨w.heap.size + 1, 1, none⟩ v1).setCell ⟨w.heap.size + 1, 2, none⟩ v2).setCell ⟨w.heap.size + 1, 3, none⟩ v3 = Go.Proofs.Ytfbhjgaiejjfaaa.gx w x) ∧ SmAt ((((W.setCell ⟨w.heap.size + 1, 0, none⟩ v0).setCell ⟨w.heap.size + 1, 1, none⟩ v1).setCell ⟨w.heap.size + 1, 2, none⟩ v2).setCell ⟨w.heap.size + 1, 3, none⟩ v3) h n A7 ∧ ∀ b o, A7 = some ⟨b, o, none⟩ → Is ((((W.setCell ⟨w.heap.size + 1, 0, none⟩ v0).setCell ⟨w.heap.size + 1, 1, none⟩ v1).setCell ⟨w.heap.size + 1, 2, none⟩ v2).setCell ⟨w.heap.size + 1, 3, none⟩ v3) b 69 ∧ w.heap.size ≤ b := by
  have ne := fun b o e => (H.ne (b := b) (o := o) e).2
  exact ⟨Gx.setCell (Gx.setCell (Gx.setCell (Gx.setCell H.gx (by omega)) (by omega)) (by omega)) (by omega), smAt_far (smAt_far (smAt_far (smAt_far H.sm ne) ne) ne) ne, fun b o e => ⟨(H.bl b o e).1.setc.setc.setc.setc, (H.bl b o e).2⟩⟩
theorem Own.blk {b : Nat} {W : World} {A : Option Addr} {n c : Nat} {xs : List Value} {e : TypeId} {size : Nat} (h : Own b W e size (.slice A n c) n xs) : ∀ k o, A = some ⟨k, o, none⟩ → Is W k e ∧ b ≤ k := by
  intro k o hA
  subst hA
  rcases h.out.2 with ⟨e1, _⟩ | ⟨g, cap, cur, e1, hb, hg, hr⟩
  · simp at e1
  · injection e1 with e2 e3 e4
    injection e2 with e2
    injection e2 with e5 e6
    subst e5
    exact ⟨⟨_, hg⟩, hb⟩
theorem MkSt.start {w W1 : World} {s : ByteArray} {den lg : Int} {A A7 : Option Addr} {n c c7 : Nat} {f : Nat → Sm} (G : ∃ x, W1 = Go.Proofs.Ytfbhjgaiejjfaaa.gx w x) (S2 : At W1 w.heap.size (.cells #[.string s, .int .i64 den, .slice A n c, .int .i64 lg] 62 (0, 0))) (S4 : At W1 (w.heap.size + 1) (.cells #[.string ⟨#[]⟩, .int .i64 0, .slice none 0 0, .int .i64 0] 62 (0, 0))) (hO : Own w.heap.size W1 69 3 (.slice A7 n c7) n (smC f n)) :
    MkSt w (W1.setCell ⟨w.heap.size, 2, none⟩ (.slice A7 n c7)) #[.string s, .int .i64 den, .slice A7 n c7, .int .i64 lg] #[.string ⟨#[]⟩, .int .i64 0, .slice none 0 0, .int .i64 0] A7 n f := by
  have ne := own_ne_at hO S2 (by decide)
  refine ⟨Gx.setCell G (Nat.le_refl _), S2.setc_same, At.setc_other S4 (by omega), (hO.setc ne).sm, fun b o e => ?_⟩
  obtain ⟨h1, h2⟩ := hO.blk b o e
  exact ⟨h1.setc, h2⟩
set_option maxHeartbeats 4000000 in
set_option maxRecDepth 100000 in
theorem mTrack_no (s : ByteArray) (den : Int) (A : Option Addr) (n c : Nat) (lg : Int) (f : Nat → Sm) (gg : Nat) (w : World) (hL : SmAt w f n A) (hN : A = none → n = 0 ∧ c = 0) (hn : n ≤ 20000)
    (HGn : Hid (∀ W, (∃ x, W = gx w x) → Calls Try.prog 46 #[.slice (some ⟨gg, 0, none⟩) 1 1, .string s] W fun e W' => e = .returned (.int .i64 (-1)) ∧ ∃ x, W' = gx W x)) :
    Calls Try.prog 34 #[.agg #[.string s, .int .i64 den, .slice A n c, .int .i64 lg], .slice (some ⟨gg, 0, none⟩) 1 1] w fun e w' => ∃ A7 c7, e = .returned (.agg #[.string s, .int .i64 den, .slice A7 n c7, .int .i64 lg]) ∧ (∃ x, w' = gx w x) ∧ SmAt w' f n A7 ∧ (∀ b o, A7 = some ⟨b, o, none⟩ → Is w' b 69 ∧ w.heap.size ≤ b) ∧ (A7 = none → n = 0 ∧ c7 = 0) ∧ n ≤ c7 := by
  have HCl := Lib.hid (fun W (hW : ∃ x, W = gx w x) => Clone_any f n c A W (smAt_of hL hW) hN hn)
  clear hL hN
  go_enter Try.func34, Try.ntmps34
  go_wp2_with (first | go_skip | (go_at_call 40; refine (HCl.out _ (by repeat (first | (with_reducible exact Gx.refl _) | (with_reducible assumption) | (with_reducible refine Gx.gx ?_) | (with_reducible refine Gx.alloc ?_) | (with_reducible refine Gx.drew ?_) | (with_reducible refine Gx.drewN ?_) | (with_reducible refine Gx.setRow ?_ (by first | omega | (simp; done) | (simp <;> omega))) | (with_reducible refine Gx.setCell ?_ (by first | omega | (simp; done) | (simp <;> omega)))))).mono ?_; rintro e W1 ⟨A7, c7, x7, rfl, hW1, hO⟩; have G1 : ∃ x, W1 = gx w x := (hW1 ▸ (by repeat (first | (with_reducible exact Gx.refl _) | (with_reducible assumption) | (with_reducible refine Gx.gx ?_) | (with_reducible refine Gx.alloc ?_) | (with_reducible refine Gx.drew ?_) | (with_reducible refine Gx.drewN ?_) | (with_reducible refine Gx.setRow ?_ (by first | omega | (simp; done) | (simp <;> omega))) | (with_reducible refine Gx.setCell ?_ (by first | omega | (simp; done) | (simp <;> omega)))))); have S2 : At W1 w.heap.size (.cells #[.string s, .int .i64 den, .slice A n c, .int .i64 lg] 62 (0, 0)) := (by rw [hW1]; (focus (repeat (first | (with_reducible assumption) | (with_reducible exact At.new _ _) | (with_reducible refine At.row ?_) | ((with_reducible refine At.row_other ?_ ?_); rotate_left; (focus (simp <;> omega))) | (with_reducible refine At.app ?_) | (with_reducible refine At.tick ?_) | (with_reducible refine At.gx ?_) | ((with_reducible refine At.new' ?_); focus (simp; done)) | (with_reducible refine At.alloc ?_) | (with_reducible refine At.drew ?_) | (with_reducible exact Is.new _ _ _) | (with_reducible refine Is.row ?_) | ((with_reducible refine Is.row_other ?_ ?_); rotate_left; (focus (simp <;> omega))) | (with_reducible refine Is.gx ?_) | ((with_reducible refine Is.new' ?_); focus (simp; done)) | (with_reducible refine Is.alloc ?_) | (with_reducible refine Is.drew ?_))))); have S4 : At W1 (w.heap.size + 1) (.cells #[.string ⟨#[]⟩, .int .i64 0, .slice none 0 0, .int .i64 0] 62 (0, 0)) := (by rw [hW1]; (focus (repeat (first | (with_reducible assumption) | (with_reducible exact At.new _ _) | (with_reducible refine At.row ?_) | ((with_reducible refine At.row_other ?_ ?_); rotate_left; (focus (simp <;> omega))) | (with_reducible refine At.app ?_) | (with_reducible refine At.tick ?_) | (with_reducible refine At.gx ?_) | ((with_reducible refine At.new' ?_); focus (simp; done)) | (with_reducible refine At.alloc ?_) | (with_reducible refine At.drew ?_) | (with_reducible exact Is.new _ _ _) | (with_reducible refine Is.row ?_) | ((with_reducible refine Is.row_other ?_ ?_); rotate_left; (focus (simp <;> omega))) | (with_reducible refine Is.gx ?_) | ((with_reducible refine Is.new' ?_); focus (simp; done)) | (with_reducible refine Is.alloc ?_) | (with_reducible refine Is.drew ?_))))); have hO1 : Own w.heap.size W1 69 3 (.slice A7 n c7) n (smC f n) := hO.base (by simp; omega); have hc7 := hO1.is; have hnil := hO1.nilc; have M2 := MkSt.start G1 S2 S4 hO1; have s0 : W1.cell? ⟨w.heap.size, 0, none⟩ = some (.string s) := (by rw [cell_of_row _ _ _ _ _ _ S2]; rfl); have s2 : W1.cell? ⟨w.heap.size, 2, none⟩ = some (.slice A n c) := (by rw [cell_of_row _ _ _ _ _ _ S2]; rfl); have f2 : W1.frozen? ⟨w.heap.size, 2, none⟩ = false := S2.frz; have l2 := S2.lt; clear hW1 hO hO1 S2 S4) | (go_at_call 46; refine (HGn.out _ M2.gx).mono ?_; rintro e W3 ⟨rfl, x3, hW3⟩; have M3 : MkSt w W3 #[.string s, .int .i64 den, .slice A7 n c7, .int .i64 lg] #[.string ⟨#[]⟩, .int .i64 0, .slice none 0 0, .int .i64 0] A7 n f := (hW3 ▸ M2.on x3); clear hW3 M2 s0 s2 f2 l2 G1; have q0 : W3.cell? ⟨w.heap.size, 0, none⟩ = some (.string s) := (by rw [cell_of_row _ _ _ _ _ _ M3.t2]; rfl); have q1 : W3.cell? ⟨w.heap.size, 1, none⟩ = some (.int .i64 den) := (by rw [cell_of_row _ _ _ _ _ _ M3.t2]; rfl); have q2 : W3.cell? ⟨w.heap.size, 2, none⟩ = some (.slice A7 n c7) := (by rw [cell_of_row _ _ _ _ _ _ M3.t2]; rfl); have q3 : W3.cell? ⟨w.heap.size, 3, none⟩ = some (.int .i64 lg) := (by rw [cell_of_row _ _ _ _ _ _ M3.t2]; rfl); have r0 : W3.cell? ⟨w.heap.size + 1, 0, none⟩ = some (.string ⟨#[]⟩) := (by rw [cell_of_row _ _ _ _ _ _ M3.t4]; rfl); have r1 : W3.cell? ⟨w.heap.size + 1, 1, none⟩ = some (.int .i64 0) := (by rw [cell_of_row _ _ _ _ _ _ M3.t4]; rfl); have r2 : W3.cell? ⟨w.heap.size + 1, 2, none⟩ = some (.slice none 0 0) := (by rw [cell_of_row _ _ _ _ _ _ M3.t4]; rfl); have r3 : W3.cell? ⟨w.heap.size + 1, 3, none⟩ = some (.int .i64 0) := (by rw [cell_of_row _ _ _ _ _ _ M3.t4]; rfl); have z0 : W3.frozen? ⟨w.heap.size + 1, 0, none⟩ = false := M3.t4.frz; have z1 : W3.frozen? ⟨w.heap.size + 1, 1, none⟩ = false := M3.t4.frz; have z2 : W3.frozen? ⟨w.heap.size + 1, 2, none⟩ = false := M3.t4.frz; have z3 : W3.frozen? ⟨w.heap.size + 1, 3, none⟩ = false := M3.t4.frz; have l3 := M3.t2.lt; have l4 := M3.t4.lt))
  refine bodyPost_ret (v := .agg #[.string s, .int .i64 den, .slice A7 n c7, .int .i64 lg]) (by simp [results, Try.results34, go_sem, r0, r1, r2, r3]) rfl ?_
  obtain ⟨a1, a2, a3⟩ := M3.fin (.string s) (.int .i64 den) (.slice A7 n c7) (.int .i64 lg)
  refine ⟨A7, c7, rfl, a1, a2, a3, hnil, ?_⟩
  obtain ⟨_, _, e1, e2, -⟩ := hc7
  injection e1 with _ _ e3
  omega
set_option maxHeartbeats 4000000 in
set_option maxRecDepth 100000 in
theorem mTrack_yes (s : ByteArray) (den : Int) (A : Option Addr) (n c : Nat) (lg : Int) (f : Nat → Sm) (gg : Nat) (g : Int) (w : World) (hL : SmAt w f n A) (hN : A = none → n = 0 ∧ c = 0) (hn : n ≤ 20000) (hG : ∀ i, i < n → -1125899906842624 ≤ (f i).n ∧ (f i).n ≤ 1125899906842624) (hg : 1 ≤ g ∧ g ≤ 1125899906842624) (b : ByteArray) (hgr : GrAt w gg b g)
    (HGn : Hid (∀ W, (∃ x, W = gx w x) → Calls Try.prog 46 #[.slice (some ⟨gg, 0, none⟩) 1 1, .string s] W fun e W' => e = .returned (.int .i64 0) ∧ ∃ x, W' = gx W x)) :
    Calls Try.prog 34 #[.agg #[.string s, .int .i64 den, .slice A n c, .int .i64 lg], .slice (some ⟨gg, 0, none⟩) 1 1] w fun e w' => ∃ A7 c7, e = .returned (.agg #[.string s, .int .i64 den, .slice A7 n c7, .int .i64 lg]) ∧ (∃ x, w' = gx w x) ∧ SmAt w' (mxF f g n) n A7 ∧ (∀ b o, A7 = some ⟨b, o, none⟩ → Is w' b 69 ∧ w.heap.size ≤ b) ∧ (A7 = none → n = 0 ∧ c7 = 0) ∧ n ≤ c7 := by
  have HCl := Lib.hid (fun W (hW : ∃ x, W = gx w x) => Clone_any f n c A W (smAt_of hL hW) hN hn)
  have HGr := Lib.hid (fun W (hW : ∃ x, W = gx w x) => hgr.on hW)
  have hgw : gg < w.heap.size := World.block_lt_of_cell? w _ hgr.c0
  have HR := Lib.hid hG
  clear hL hN hgr hG
  go_enter Try.func34, Try.ntmps34
  go_wp2_with (first | go_skip | (go_at_call 40; refine (HCl.out _ (by repeat (first | (with_reducible exact Gx.refl _) | (with_reducible assumption) | (with_reducible refine Gx.gx ?_) | (with_reducible refine Gx.alloc ?_) | (with_reducible refine Gx.drew ?_) | (with_reducible refine Gx.drewN ?_) | (with_reducible refine Gx.setRow ?_ (by first | omega | (simp; done) | (simp <;> omega))) | (with_reducible refine Gx.setCell ?_ (by first | omega | (simp; done) | (simp <;> omega)))))).mono ?_; rintro e W1 ⟨A7, c7, x7, rfl, hW1, hO⟩; have G1 : ∃ x, W1 = gx w x := (hW1 ▸ (by repeat (first | (with_reducible exact Gx.refl _) | (with_reducible assumption) | (with_reducible refine Gx.gx ?_) | (with_reducible refine Gx.alloc ?_) | (with_reducible refine Gx.drew ?_) | (with_reducible refine Gx.drewN ?_) | (with_reducible refine Gx.setRow ?_ (by first | omega | (simp; done) | (simp <;> omega))) | (with_reducible refine Gx.setCell ?_ (by first | omega | (simp; done) | (simp <;> omega)))))); have S2 : At W1 w.heap.size (.cells #[.string s, .int .i64 den, .slice A n c, .int .i64 lg] 62 (0, 0)) := (by rw [hW1]; (focus (repeat (first | (with_reducible assumption) | (with_reducible exact At.new _ _) | (with_reducible refine At.row ?_) | ((with_reducible refine At.row_other ?_ ?_); rotate_left; (focus (simp <;> omega))) | (with_reducible refine At.app ?_) | (with_reducible refine At.tick ?_) | (with_reducible refine At.gx ?_) | ((with_reducible refine At.new' ?_); focus (simp; done)) | (with_reducible refine At.alloc ?_) | (with_reducible refine At.drew ?_) | (with_reducible exact Is.new _ _ _) | (with_reducible refine Is.row ?_) | ((with_reducible refine Is.row_other ?_ ?_); rotate_left; (focus (simp <;> omega))) | (with_reducible refine Is.gx ?_) | ((with_reducible refine Is.new' ?_); focus (simp; done)) | (with_reducible refine Is.alloc ?_) | (with_reducible refine Is.drew ?_))))); have S4 : At W1 (w.heap.size + 1) (.cells #[.string ⟨#[]⟩, .int .i64 0, .slice none 0 0, .int .i64 0] 62 (0, 0)) := (by rw [hW1]; (focus (repeat (first | (with_reducible assumption) | (with_reducible exact At.new _ _) | (with_reducible refine At.row ?_) | ((with_reducible refine At.row_other ?_ ?_); rotate_left; (focus (simp <;> omega))) | (with_reducible refine At.app ?_) | (with_reducible refine At.tick ?_) | (with_reducible refine At.gx ?_) | ((with_reducible refine At.new' ?_); focus (simp; done)) | (with_reducible refine At.alloc ?_) | (with_reducible refine At.drew ?_) | (with_reducible exact Is.new _ _ _) | (with_reducible refine Is.row ?_) | ((with_reducible refine Is.row_other ?_ ?_); rotate_left; (focus (simp <;> omega))) | (with_reducible refine Is.gx ?_) | ((with_reducible refine Is.new' ?_); focus (simp; done)) | (with_reducible refine Is.alloc ?_) | (with_reducible refine Is.drew ?_))))); have hO1 : Own w.heap.size W1 69 3 (.slice A7 n c7) n (smC f n) := hO.base (by simp; omega); have hc7 := hO1.is; have hnil := hO1.nilc; have M2 := MkSt.start G1 S2 S4 hO1; have s0 : W1.cell? ⟨w.heap.size, 0, none⟩ = some (.string s) := (by rw [cell_of_row _ _ _ _ _ _ S2]; rfl); have s2 : W1.cell? ⟨w.heap.size, 2, none⟩ = some (.slice A n c) := (by rw [cell_of_row _ _ _ _ _ _ S2]; rfl); have f2 : W1.frozen? ⟨w.heap.size, 2, none⟩ = false := S2.frz; have l2 := S2.lt; clear hW1 hO hO1 S2 S4) | (go_at_call 46; refine (HGn.out _ M2.gx).mono ?_; rintro e W3 ⟨rfl, x3, hW3⟩; have M3 : MkSt w W3 #[.string s, .int .i64 den, .slice A7 n c7, .int .i64 lg] #[.string ⟨#[]⟩, .int .i64 0, .slice none 0 0, .int .i64 0] A7 n f := (hW3 ▸ M2.on x3); clear hW3 M2 s0 s2 f2 l2 G1; have q0 : W3.cell? ⟨w.heap.size, 0, none⟩ = some (.string s) := (by rw [cell_of_row _ _ _ _ _ _ M3.t2]; rfl); have q1 : W3.cell? ⟨w.heap.size, 1, none⟩ = some (.int .i64 den) := (by rw [cell_of_row _ _ _ _ _ _ M3.t2]; rfl); have q2 : W3.cell? ⟨w.heap.size, 2, none⟩ = some (.slice A7 n c7) := (by rw [cell_of_row _ _ _ _ _ _ M3.t2]; rfl); have q3 : W3.cell? ⟨w.heap.size, 3, none⟩ = some (.int .i64 lg) := (by rw [cell_of_row _ _ _ _ _ _ M3.t2]; rfl); have r0 : W3.cell? ⟨w.heap.size + 1, 0, none⟩ = some (.string ⟨#[]⟩) := (by rw [cell_of_row _ _ _ _ _ _ M3.t4]; rfl); have r1 : W3.cell? ⟨w.heap.size + 1, 1, none⟩ = some (.int .i64 0) := (by rw [cell_of_row _ _ _ _ _ _ M3.t4]; rfl); have r2 : W3.cell? ⟨w.heap.size + 1, 2, none⟩ = some (.slice none 0 0) := (by rw [cell_of_row _ _ _ _ _ _ M3.t4]; rfl); have r3 : W3.cell? ⟨w.heap.size + 1, 3, none⟩ = some (.int .i64 0) := (by rw [cell_of_row _ _ _ _ _ _ M3.t4]; rfl); have z0 : W3.frozen? ⟨w.heap.size + 1, 0, none⟩ = false := M3.t4.frz; have z1 : W3.frozen? ⟨w.heap.size + 1, 1, none⟩ = false := M3.t4.frz; have z2 : W3.frozen? ⟨w.heap.size + 1, 2, none⟩ = false := M3.t4.frz; have z3 : W3.frozen? ⟨w.heap.size + 1, 3, none⟩ = false := M3.t4.frz; have l3 := M3.t2.lt; have l4 := M3.t4.lt))
  clear q0 q1 q2 q3 r0 r1 r2 r3 z0 z1 z2 z3 l3 l4
  go_loopw [25] (fun i wr => ∃ k : Nat, k ≤ n ∧ i = .int .i64 k ∧ MkSt w wr #[.string s, .int .i64 den, .slice A7 n c7, .int .i64 lg] #[.string ⟨#[]⟩, .int .i64 0, .slice none 0 0, .int .i64 0] A7 n (mxF f g k)) (fun i _ => n - (intOf i).toNat)
  case atStart => exact ⟨0, Nat.zero_le _, rfl, by rw [mxF_0]; exact M3⟩
  case round =>
    clear M3
    obtain ⟨k, hk, rfl, M⟩ := hrel
    by_cases hlt : k < n
    · have hkn : (k : Int) < (n : Int) := by omega
      obtain ⟨bb, oo, rfl, hbw, HC⟩ := M.sm.get (by omega)
      obtain ⟨c0, c1, c2⟩ := HC.out k hlt
      obtain ⟨hN1, hN2⟩ := HR.out k hlt
      obtain ⟨n2, n4⟩ := M.ne rfl
      have hlow := (M.bl bb oo rfl).2
      have hfz : wr.frozen? ⟨bb, oo + k * 3 + 1, none⟩ = false := by obtain ⟨cs, hA⟩ := (M.bl bb oo rfl).1; exact At.frz hA
      have hs := M.t2.lt
      rw [mxF_at] at c0 c1 c2
      have HX1 : Hid (¬ 2 ≤ (f k).m → mxF f g (k + 1) = mxF f g k) := Lib.hid mxF_lost
      have HX2 : Hid (2 ≤ (f k).m → mxF f g (k + 1) = fun i => if i = k then ⟨(f k).t, czN g (f k).n, (f k).m⟩ else mxF f g k i) := Lib.hid mxF_step
      generalize hqk : f k = q at *
      obtain ⟨t, N, m⟩ := q
      dsimp only at *
      by_cases hm : 2 ≤ m
      · have hd : decide (2 ≤ m) = true := decide_eq_true hm
        have HX := Lib.hid (HX2.out hm)
        have HCo := Lib.hid (fun W => coarse_any N g hg.1 hg.2 hN1 hN2 W)
        have HV : Hid (max (fl N g * g) (-1125899906842624) = czN g N) := Lib.hid rfl
        clear hm HX1 HX2 HC
        go_wp2
        have hwr : wr.heap.size = wr.heap.size := rfl
        have M8 := M.alloc (.cells #[.int .i64 t, .int .i64 N, .int .i64 m] 69)
        have hA : At (wr.alloc (.cells #[.int .i64 t, .int .i64 N, .int .i64 m] 69)) wr.heap.size (.cells #[.int .i64 t, .int .i64 N, .int .i64 m] 69 (0, 0)) := At.new _ _
        have q2 : World.cell? (wr.alloc (.cells #[.int .i64 t, .int .i64 N, .int .i64 m] 69)) ⟨w.heap.size, 2, none⟩ = some (.slice (some ⟨bb, oo, none⟩) n c7) := by rw [cell_of_row _ _ _ _ _ _ M8.t2]; rfl
        have q1 : World.cell? (wr.alloc (.cells #[.int .i64 t, .int .i64 N, .int .i64 m] 69)) ⟨wr.heap.size, 1, none⟩ = some (.int .i64 N) := by rw [cell_of_row _ _ _ _ _ _ hA]; rfl
        have q3 := (HGr.out _ M8.gx).c1
        have q4 : World.cell? (wr.alloc (.cells #[.int .i64 t, .int .i64 N, .int .i64 m] 69)) ⟨bb, oo + k * 3 + 1, none⟩ = some (.int .i64 N) := cell_keep_alloc c1
        have q5 : World.frozen? (wr.alloc (.cells #[.int .i64 t, .int .i64 N, .int .i64 m] 69)) ⟨bb, oo + k * 3 + 1, none⟩ = false := by obtain ⟨cs, hA'⟩ := (M8.bl bb oo rfl).1; exact At.frz hA'
        have n7 : wr.heap.size ≠ bb := by omega
        have ng : gg ≠ bb := by omega
        have l7 := hA.lt
        have l8 : bb < (wr.alloc (.cells #[.int .i64 t, .int .i64 N, .int .i64 m] 69)).heap.size := by simp; omega
        have l9 : w.heap.size < (wr.alloc (.cells #[.int .i64 t, .int .i64 N, .int .i64 m] 69)).heap.size := M8.t2.lt
        have l6 : gg < (wr.alloc (.cells #[.int .i64 t, .int .i64 N, .int .i64 m] 69)).heap.size := by omega
        clear hA hwr M c0 c1 c2 hfz hs hbw
        generalize wr.alloc (.cells #[.int .i64 t, .int .i64 N, .int .i64 m] 69) = Wc at *
        generalize wr.heap.size = gi at *
        have G8 := M8.gx
        have HM := Lib.hid M8
        clear M8
        go_region_held3 (fun W => (∃ x, W = gx w x) ∧ W.cell? ⟨w.heap.size, 2, none⟩ = some (.slice (some ⟨bb, oo, none⟩) n c7) ∧ W.cell? ⟨gi, 1, none⟩ = some (.int .i64 N) ∧ W.cell? ⟨gg, 1, none⟩ = some (.int .i64 g))
          (refine ⟨?_, ?_, ?_, ?_⟩ <;> first | assumption | exact G8 | exact Gx.drew G8 | exact Gx.setCell G8 hlow | exact Gx.setCell (Gx.drew G8) hlow | exact setc_other (by assumption) (fun e => by injection e with e1; omega) | exact cell_keep_gx ‹_› | go_keep | (simp [go_sem]; done))
          (first | (go_at_call 32; refine (HCo.out _).mono ?_; rintro e w' ⟨rfl, rfl⟩))
        all_goals go_wp2
        all_goals go_roundw
        all_goals first
          | (simp [intOf]; omega)
          | exact ⟨k + 1, by omega, by go_num, by rw [HX.out]; first | exact (HM.out.put rfl hlt (by rw [mxF_at, hqk]) (by rw [mxF_at, hqk])).drew | exact HM.out.put rfl hlt (by rw [mxF_at, hqk]) (by rw [mxF_at, hqk])⟩
      · have hd : decide (2 ≤ m) = false := decide_eq_false hm
        have HX := Lib.hid (HX1.out hm)
        have HM := Lib.hid M
        clear HX1 HX2 HC hm
        go_wp2
        go_roundw
        all_goals first
          | (simp [intOf]; omega)
          | exact ⟨k + 1, by omega, by go_num, by rw [HX.out]; first | exact HM.out.alloc _ | exact HM.out⟩
    · obtain rfl : n = k := by omega
      have q0 : wr.cell? ⟨w.heap.size, 0, none⟩ = some (.string s) := by rw [cell_of_row _ _ _ _ _ _ M.t2]; rfl
      have q1 : wr.cell? ⟨w.heap.size, 1, none⟩ = some (.int .i64 den) := by rw [cell_of_row _ _ _ _ _ _ M.t2]; rfl
      have q2 : wr.cell? ⟨w.heap.size, 2, none⟩ = some (.slice A7 n c7) := by rw [cell_of_row _ _ _ _ _ _ M.t2]; rfl
      have q3 : wr.cell? ⟨w.heap.size, 3, none⟩ = some (.int .i64 lg) := by rw [cell_of_row _ _ _ _ _ _ M.t2]; rfl
      have r0 : wr.cell? ⟨w.heap.size + 1, 0, none⟩ = some (.string ⟨#[]⟩) := by rw [cell_of_row _ _ _ _ _ _ M.t4]; rfl
      have r1 : wr.cell? ⟨w.heap.size + 1, 1, none⟩ = some (.int .i64 0) := by rw [cell_of_row _ _ _ _ _ _ M.t4]; rfl
      have r2 : wr.cell? ⟨w.heap.size + 1, 2, none⟩ = some (.slice none 0 0) := by rw [cell_of_row _ _ _ _ _ _ M.t4]; rfl
      have r3 : wr.cell? ⟨w.heap.size + 1, 3, none⟩ = some (.int .i64 0) := by rw [cell_of_row _ _ _ _ _ _ M.t4]; rfl
      have z0 : wr.frozen? ⟨w.heap.size + 1, 0, none⟩ = false := M.t4.frz
      have z1 : wr.frozen? ⟨w.heap.size + 1, 1, none⟩ = false := M.t4.frz
      have z2 : wr.frozen? ⟨w.heap.size + 1, 2, none⟩ = false := M.t4.frz
      have z3 : wr.frozen? ⟨w.heap.size + 1, 3, none⟩ = false := M.t4.frz
      have l3 := M.t2.lt
      have l4 := M.t4.lt
      go_wp2
      refine bodyPost_ret (v := .agg #[.string s, .int .i64 den, .slice A7 n c7, .int .i64 lg]) (by simp [results, Try.results34, go_sem, r0, r1, r2, r3]) rfl ?_
      obtain ⟨a1, a2, a3⟩ := M.fin (.string s) (.int .i64 den) (.slice A7 n c7) (.int .i64 lg)
      refine ⟨A7, c7, rfl, a1, a2, a3, hnil, ?_⟩
      obtain ⟨_, _, e1, e2, -⟩ := hc7
      injection e1 with _ _ e3
      omega
end Go.Proofs.Ytfbhjgaiejjfaaa
