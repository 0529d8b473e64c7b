/-
  Lists of tracks: what is wrong with one, both sides; the number of a track.
-/
import Derived.Test.YtfbhjgaiejjfaaaSRSer
import Derived.Test.YtfbhjgaiejjfaaaPRNm2
import Derived.Deep.RegionHeld3
namespace Go.Proofs.Ytfbhjgaiejjfaaa
open Go.RowKit
-- AT2
-- AT3

theorem gxT {w Wa W : World} (h1 : ∃ x, Wa = gx w x) (h2 : ∃ x, W = gx Wa x) : ∃ x, W = gx w x := by
  obtain ⟨x, rfl⟩ := h1; obtain ⟨y, rfl⟩ := h2; exact ⟨_, gx_gx ..⟩
theorem ne0t {q : Int} (h : q ≠ 0) : decide (q = 0) = false := decide_eq_false h
theorem beq0 {q : Int} (h : q ≠ 0) : (q == 0) = false := beq_eq_false_iff_ne.2 h
theorem bne0 {q : Int} (h : q ≠ 0) : (q != 0) = true := by rw [bne, beq0 h]; rfl
/-- The first of some that has a property, or none. -/
theorem first_of (P : Nat → Prop) [DecidablePred P] : ∀ m, (∃ k, k < m ∧ P k ∧ ∀ j, j < k → ¬ P j) ∨ ∀ j, j < m → ¬ P j
  | 0 => .inr fun j h => absurd h (by omega)
  | m + 1 => by
    rcases first_of P m with ⟨k, hk, h⟩ | h
    · exact .inl ⟨k, by omega, h⟩
    · by_cases hp : P m
      · exact .inl ⟨m, by omega, hp, h⟩
      · refine .inr fun j hj => ?_
        by_cases e : j = m
        · rw [e]; exact hp
        · exact h j (by omega)
theorem toL_inj {a b : ByteArray} (h : a.toList = b.toList) : a = b := by
  rw [ByteArray.toList_eq, ByteArray.toList_eq] at h
  exact ByteArray.ext (Array.ext' h)
theorem eqS {a b : ByteArray} (h : a = b) : (a.toList == b.toList) = true := by rw [h]; exact beq_self_eq_true _
theorem neS {a b : ByteArray} (h : a ≠ b) : (a.toList == b.toList) = false := beq_eq_false_iff_ne.2 fun e => h (toL_inj e)
/-- A track with its samples. -/
structure TkR where
  s : ByteArray
  den : Int
  A : Option Addr
  n : Nat
  c : Nat
  lg : Int
  f : Nat → Sm
abbrev TkR.v (J : TkR) : Value := .agg #[.string J.s, .int .i64 J.den, .slice J.A J.n J.c, .int .i64 J.lg]
/-- The tracks J 0 .. J (n - 1) lie at A, each with its samples. -/
@[irreducible] def TksAt (w : World) (J : Nat → TkR) (n : Nat) (A : Option Addr) : Prop := 0 < n → ∃ b o, A = some ⟨b, o, none⟩ ∧ ∀ k, k < n → (w.cell? ⟨b, o + k * 4, none⟩ = some (.string (J k).s) ∧ w.cell? ⟨b, o + k * 4 + 1, none⟩ = some (.int .i64 (J k).den) ∧ w.cell? ⟨b, o + k * 4 + 2, none⟩ = some (.slice (J k).A (J k).n (J k).c) ∧ w.cell? ⟨b, o + k * 4 + 3, none⟩ = some (.int .i64 (J k).lg)) ∧ SmAt w (J k).f (J k).n (J k).A
theorem TksAt.get {w : World} {J : Nat → TkR} {n : Nat} {A : Option Addr} (h : TksAt w J n A) (h0 : 0 < n) : ∃ b o, A = some ⟨b, o, none⟩ ∧ b < w.heap.size ∧ Hid (∀ k, k < n → w.cell? ⟨b, o + k * 4, none⟩ = some (.string (J k).s) ∧ w.cell? ⟨b, o + k * 4 + 1, none⟩ = some (.int .i64 (J k).den) ∧ w.cell? ⟨b, o + k * 4 + 2, none⟩ = some (.slice (J k).A (J k).n (J k).c) ∧ w.cell? ⟨b, o + k * 4 + 3, none⟩ = some (.int .i64 (J k).lg)) ∧ Hid (∀ k, k < n → SmAt w (J k).f (J k).n (J k).A) := by
  unfold TksAt at h
  obtain ⟨b, o, e, hc⟩ := h h0
  exact ⟨b, o, e, World.block_lt_of_cell? w _ (hc 0 h0).1.1, Lib.hid fun k hk => (hc k hk).1, Lib.hid fun k hk => (hc k hk).2⟩
theorem TksAt.gx {w : World} {J : Nat → TkR} {n : Nat} {A : Option Addr} {x : Ext} (h : TksAt w J n A) : TksAt (gx w x) J n A := by
  unfold TksAt at *
  intro h0
  obtain ⟨b, o, e, hc⟩ := h h0
  refine ⟨b, o, e, fun k hk => ?_⟩
  obtain ⟨⟨c0, c1, c2, c3⟩, hz⟩ := hc k hk
  exact ⟨⟨cell_keep_gx c0, cell_keep_gx c1, cell_keep_gx c2, cell_keep_gx c3⟩, hz.gx⟩
theorem TksAt.on {w W : World} {J : Nat → TkR} {n : Nat} {A : Option Addr} (h : TksAt w J n A) (hW : ∃ x, W = Go.Proofs.Ytfbhjgaiejjfaaa.gx w x) : TksAt W J n A := by
  obtain ⟨x, rfl⟩ := hW; exact h.gx
theorem TksAt.sm {w : World} {J : Nat → TkR} {n : Nat} {A : Option Addr} (h : TksAt w J n A) {k : Nat} (hk : k < n) : SmAt w (J k).f (J k).n (J k).A := by
  obtain ⟨b, o, -, -, -, HS⟩ := h.get (by omega)
  exact HS.out k hk
theorem TksAt.less {w : World} {J : Nat → TkR} {n m : Nat} {A : Option Addr} (h : TksAt w J n A) (hm : m ≤ n) : TksAt w J m A := by
  unfold TksAt at *
  intro h0
  obtain ⟨b, o, e, hc⟩ := h (by omega)
  exact ⟨b, o, e, fun k hk => hc k (by omega)⟩
/-- The number r of the track named b among the first k. -/
def NumT (J : Nat → TkR) (k : Nat) (b : ByteArray) (r : Int) : Prop := (∃ K, K < k ∧ (J K).s = b ∧ (∀ i, i < K → (J i).s ≠ b) ∧ r = K) ∨ ((∀ i, i < k → (J i).s ≠ b) ∧ r = -1)
theorem numT_is (J : Nat → TkR) (k : Nat) (b : ByteArray) : ∃ r, NumT J k b r := by
  classical
  rcases first_of (fun j => (J j).s = b) k with ⟨K, h1, h2, h3⟩ | h
  · exact ⟨K, .inl ⟨K, h1, h2, h3, rfl⟩⟩
  · exact ⟨-1, .inr ⟨h, rfl⟩⟩
set_option maxHeartbeats 4000000 in
set_option maxRecDepth 100000 in
theorem isT_any (s : ByteArray) (den : Int) (A1 : Option Addr) (n1 m1 : Nat) (lg : Int) (gi : Nat) (b : ByteArray) (B : Bool) (w : World) (hv : w.cell? ⟨gi, 0, none⟩ = some (.string b)) (h1 : (s.toList == b.toList) = B) :
    Calls Try.prog 38 #[.agg #[.string s, .int .i64 den, .slice A1 n1 m1, .int .i64 lg], .pointer (some ⟨gi, 0, none⟩)] w fun e w' => e = .returned (.bool B) ∧ ∃ x, w' = gx w x := by
  have hg : gi < w.heap.size := World.block_lt_of_cell? w _ hv
  go_enter Try.func38, Try.ntmps38
  go_wp2
  go_ret
  exact ⟨by first | rfl | (rw [h1]; done) | simp [h1], (by repeat (first | (with_reducible exact Gx.refl _) | (with_reducible assumption) | (with_reducible refine Gx.gx ?_) | (with_reducible refine Gx.alloc ?_) | (with_reducible refine Gx.drew ?_) | (with_reducible refine Gx.drewN ?_) | (with_reducible refine Gx.setRow ?_ (by first | omega | (simp; done) | (simp <;> omega))) | (with_reducible refine Gx.setCell ?_ (by first | omega | (simp; done) | (simp <;> omega)))))⟩
set_option maxHeartbeats 4000000 in
set_option maxRecDepth 100000 in
theorem IndexT_any (J : Nat → TkR) (A : Option Addr) (k c gi : Nat) (b : ByteArray) (w : World) (hL : TksAt w J k A) (hk : k ≤ 9223372036854775807) (hv : w.cell? ⟨gi, 0, none⟩ = some (.string b)) (r : Int) (K : Nat) (hK : K ≤ k) (HN : Hid (∀ j, j < K → (J j).s ≠ b)) (HR : Hid ((K = k ∧ r = -1) ∨ (K < k ∧ (J K).s = b ∧ r = K))) :
    Calls Try.prog 37 #[.slice A k c, .func (.func 38) #[] #[.pointer (some ⟨gi, 0, none⟩)]] w fun e w' => e = .returned (.int .i64 r) ∧ ∃ x, w' = gx w x := by
  have HV := Lib.hid hv
  clear hv
  go_enter Try.func37, Try.ntmps37
  go_wp2
  go_loopw [8] (fun i wr => ∃ j : Nat, j ≤ K ∧ i = .int .i64 j ∧ ∃ x, wr = gx w x) (fun i _ => k - (intOf i).toNat)
  case atStart => exact ⟨0, Nat.zero_le _, rfl, (by repeat (first | (with_reducible exact Gx.refl _) | (with_reducible assumption) | (with_reducible refine Gx.gx ?_) | (with_reducible refine Gx.alloc ?_) | (with_reducible refine Gx.drew ?_) | (with_reducible refine Gx.drewN ?_) | (with_reducible refine Gx.setRow ?_ (by first | omega | (simp; done) | (simp <;> omega))) | (with_reducible refine Gx.setCell ?_ (by first | omega | (simp; done) | (simp <;> omega)))))⟩
  case round =>
    obtain ⟨j, hj, rfl, y, rfl⟩ := hrel
    by_cases hlt : j < k
    · obtain ⟨b0, o0, rfl, hbw, HC, HZ⟩ := hL.get (by omega)
      obtain ⟨c0, c1, c2, c3⟩ := HC.out j hlt
      have HB : ∃ B : Bool, Hid ((((J j).s.toList == b.toList) = B) ∧ ((B = false ∧ j < K) ∨ (B = true ∧ r = j))) := by
        by_cases hjK : j < K
        · exact ⟨false, Lib.hid ⟨neS (HN.out j hjK), .inl ⟨rfl, hjK⟩⟩⟩
        · obtain rfl : j = K := by omega
          rcases HR.out with ⟨h, -⟩ | ⟨-, h1, h2⟩
          · omega
          · exact ⟨true, Lib.hid ⟨eqS h1, .inr ⟨rfl, h2⟩⟩⟩
      obtain ⟨B, HB⟩ := HB
      generalize J j = I at *
      obtain ⟨s, den, A1, n1, m1, lg, f⟩ := I
      dsimp only at *
      have HM := Lib.hid (fun W (hW : ∃ x, W = gx w x) => isT_any s den A1 n1 m1 lg gi b B W (by obtain ⟨x, rfl⟩ := hW; exact cell_keep_gx HV.out) HB.out.1)
      rcases HB.out.2 with ⟨rfl, hjK⟩ | ⟨rfl, hr⟩
      · clear HB
        go_wp2_with (first | (go_at_call 38; refine (HM.out _ (by repeat (first | (with_reducible exact Gx.refl _) | (with_reducible assumption) | (with_reducible refine Gx.gx ?_) | (with_reducible refine Gx.alloc ?_) | (with_reducible refine Gx.drew ?_) | (with_reducible refine Gx.drewN ?_) | (with_reducible refine Gx.setRow ?_ (by first | omega | (simp; done) | (simp <;> omega))) | (with_reducible refine Gx.setCell ?_ (by first | omega | (simp; done) | (simp <;> omega)))))).mono ?_; rintro e w' ⟨rfl, x1, rfl⟩))
        go_roundw
        case rel => exact ⟨j + 1, by omega, by go_num, (by repeat (first | (with_reducible exact Gx.refl _) | (with_reducible assumption) | (with_reducible refine Gx.gx ?_) | (with_reducible refine Gx.alloc ?_) | (with_reducible refine Gx.drew ?_) | (with_reducible refine Gx.drewN ?_) | (with_reducible refine Gx.setRow ?_ (by first | omega | (simp; done) | (simp <;> omega))) | (with_reducible refine Gx.setCell ?_ (by first | omega | (simp; done) | (simp <;> omega)))))⟩
        case measure => simp [intOf]; omega
      · clear HB
        go_wp2_with (first | (go_at_call 38; refine (HM.out _ (by repeat (first | (with_reducible exact Gx.refl _) | (with_reducible assumption) | (with_reducible refine Gx.gx ?_) | (with_reducible refine Gx.alloc ?_) | (with_reducible refine Gx.drew ?_) | (with_reducible refine Gx.drewN ?_) | (with_reducible refine Gx.setRow ?_ (by first | omega | (simp; done) | (simp <;> omega))) | (with_reducible refine Gx.setCell ?_ (by first | omega | (simp; done) | (simp <;> omega)))))).mono ?_; rintro e w' ⟨rfl, x1, rfl⟩))
        go_ret
        exact ⟨by rw [hr]; first | done | rfl, (by repeat (first | (with_reducible exact Gx.refl _) | (with_reducible assumption) | (with_reducible refine Gx.gx ?_) | (with_reducible refine Gx.alloc ?_) | (with_reducible refine Gx.drew ?_) | (with_reducible refine Gx.drewN ?_) | (with_reducible refine Gx.setRow ?_ (by first | omega | (simp; done) | (simp <;> omega))) | (with_reducible refine Gx.setCell ?_ (by first | omega | (simp; done) | (simp <;> omega)))))⟩
    · obtain rfl : j = k := by omega
      obtain rfl : j = K := by omega
      obtain rfl : r = -1 := by
        rcases HR.out with ⟨-, h⟩ | ⟨h, -⟩
        · exact h
        · omega
      go_wp2
      go_ret
      exact ⟨rfl, (by repeat (first | (with_reducible exact Gx.refl _) | (with_reducible assumption) | (with_reducible refine Gx.gx ?_) | (with_reducible refine Gx.alloc ?_) | (with_reducible refine Gx.drew ?_) | (with_reducible refine Gx.drewN ?_) | (with_reducible refine Gx.setRow ?_ (by first | omega | (simp; done) | (simp <;> omega))) | (with_reducible refine Gx.setCell ?_ (by first | omega | (simp; done) | (simp <;> omega)))))⟩
set_option maxHeartbeats 4000000 in
set_option maxRecDepth 100000 in
theorem TrackNumber_any (J : Nat → TkR) (A : Option Addr) (k c : Nat) (b : ByteArray) (r : Int) (hr : NumT J k b r) (w : World) (hL : TksAt w J k A) (hk : k ≤ 9223372036854775807) :
    Calls Try.prog 21 #[.slice A k c, .string b] w fun e w' => e = .returned (.int .i64 r) ∧ ∃ x, w' = gx w x := by
  have HI : Hid (∀ W gi, (∃ x, W = gx w x) → W.cell? ⟨gi, 0, none⟩ = some (.string b) → Calls Try.prog 37 #[.slice A k c, .func (.func 38) #[] #[.pointer (some ⟨gi, 0, none⟩)]] W fun e W' => e = .returned (.int .i64 r) ∧ ∃ x, W' = gx W x) := by
    rcases hr with ⟨K, hK, he, hn, hr⟩ | ⟨hn, hr⟩
    · exact Lib.hid fun W gi hW hv => IndexT_any J A k c gi b W (hL.on hW) hk hv r K (by omega) (Lib.hid hn) (Lib.hid (.inr ⟨hK, he, hr⟩))
    · exact Lib.hid fun W gi hW hv => IndexT_any J A k c gi b W (hL.on hW) hk hv r k (by omega) (Lib.hid hn) (Lib.hid (.inl ⟨rfl, hr⟩))
  clear hr hL
  go_enter Try.func21, Try.ntmps21
  go_wp2_with (first | (go_at_call 37; refine (HI.out _ _ (by repeat (first | (with_reducible exact Gx.refl _) | (with_reducible assumption) | (with_reducible refine Gx.gx ?_) | (with_reducible refine Gx.alloc ?_) | (with_reducible refine Gx.drew ?_) | (with_reducible refine Gx.drewN ?_) | (with_reducible refine Gx.setRow ?_ (by first | omega | (simp; done) | (simp <;> omega))) | (with_reducible refine Gx.setCell ?_ (by first | omega | (simp; done) | (simp <;> omega))))) (by first | assumption | exact cell_keep_gx ‹_› | go_keep | (simp [go_sem]; done))).mono ?_; rintro e w' ⟨rfl, x1, rfl⟩))
  go_ret
  exact ⟨rfl, (by repeat (first | (with_reducible exact Gx.refl _) | (with_reducible assumption) | (with_reducible refine Gx.gx ?_) | (with_reducible refine Gx.alloc ?_) | (with_reducible refine Gx.drew ?_) | (with_reducible refine Gx.drewN ?_) | (with_reducible refine Gx.setRow ?_ (by first | omega | (simp; done) | (simp <;> omega))) | (with_reducible refine Gx.setCell ?_ (by first | omega | (simp; done) | (simp <;> omega)))))⟩
/-- What is wrong with the track k, nothing being wrong with those before. -/
def badT (N D : Nat → Bool) (Q lg : Nat → Int) (k : Nat) : Int := if N k = false then 8 else if D k = true then 5 else if Q k ≠ 0 then Q k else if 0 ≤ lg k ∧ lg k ≤ 1099511627776 then 0 else 9
theorem badT_8 {N D : Nat → Bool} {Q lg : Nat → Int} {k : Nat} (h : N k = false) : badT N D Q lg k = 8 := by unfold badT; rw [if_pos h]
theorem badT_5 {N D : Nat → Bool} {Q lg : Nat → Int} {k : Nat} (h : N k = true) (h2 : D k = true) : badT N D Q lg k = 5 := by unfold badT; rw [if_neg (by rw [h]; decide), if_pos h2]
theorem badT_Q {N D : Nat → Bool} {Q lg : Nat → Int} {k : Nat} (h : N k = true) (h2 : D k = false) (h3 : Q k ≠ 0) : badT N D Q lg k = Q k := by unfold badT; rw [if_neg (by rw [h]; decide), if_neg (by rw [h2]; decide), if_pos h3]
theorem badT_9 {N D : Nat → Bool} {Q lg : Nat → Int} {k : Nat} (h : N k = true) (h2 : D k = false) (h3 : Q k = 0) (h4 : ¬ (0 ≤ lg k ∧ lg k ≤ 1099511627776)) : badT N D Q lg k = 9 := by unfold badT; rw [if_neg (by rw [h]; decide), if_neg (by rw [h2]; decide), if_neg (by rw [h3]; decide), if_neg h4]
theorem badT_0 {N D : Nat → Bool} {Q lg : Nat → Int} {k : Nat} (h : N k = true) (h2 : D k = false) (h3 : Q k = 0) (h4 : 0 ≤ lg k ∧ lg k ≤ 1099511627776) : badT N D Q lg k = 0 := by unfold badT; rw [if_neg (by rw [h]; decide), if_neg (by rw [h2]; decide), if_neg (by rw [h3]; decide), if_pos h4]
theorem badT_all {N D : Nat → Bool} {Q lg : Nat → Int} {k : Nat} (h : badT N D Q lg k = 0) : N k = true ∧ D k = false ∧ Q k = 0 ∧ 0 ≤ lg k ∧ lg k ≤ 1099511627776 := by
  unfold badT at h
  split at h
  · exact absurd h (by decide)
  split at h
  · exact absurd h (by decide)
  split at h
  · exact absurd h ‹_›
  split at h
  · rename_i h1 h2 h3 h4
    exact ⟨by simpa using h1, by simpa using h2, by simpa using h3, h4⟩
  · exact absurd h (by decide)
set_option maxHeartbeats 4000000 in
set_option maxRecDepth 100000 in
theorem Tracks_big (A : Option Addr) (n c : Nat) (w : World) (hn : 50 < n) :
    Calls Try.prog 17 #[.slice A n c] w fun e w' => e = .returned (.int .i64 3) ∧ ∃ x, w' = gx w x := by
  have k0 : decide (50 < (n : Int)) = true := decide_eq_true (by omega)
  clear hn
  go_enter Try.func17, Try.ntmps17
  go_wp2_with go_skip
  go_ret
  exact ⟨rfl, (by repeat (first | (with_reducible exact Gx.refl _) | (with_reducible assumption) | (with_reducible refine Gx.gx ?_) | (with_reducible refine Gx.alloc ?_) | (with_reducible refine Gx.drew ?_) | (with_reducible refine Gx.drewN ?_) | (with_reducible refine Gx.setRow ?_ (by first | omega | (simp; done) | (simp <;> omega))) | (with_reducible refine Gx.setCell ?_ (by first | omega | (simp; done) | (simp <;> omega)))))⟩
set_option maxHeartbeats 4000000 in
set_option maxRecDepth 100000 in
theorem RTracks_big (A : Option Addr) (n c : Nat) (w : World) (hn : 50 < n) :
    Calls Try.prog 25 #[.slice A n c] w fun e w' => e = .returned (.int .i64 3) ∧ ∃ x, w' = gx w x := by
  have k0 : decide (50 < (n : Int)) = true := decide_eq_true (by omega)
  clear hn
  go_enter Try.func25, Try.ntmps25
  go_wp2_with go_skip
  go_ret
  exact ⟨rfl, (by repeat (first | (with_reducible exact Gx.refl _) | (with_reducible assumption) | (with_reducible refine Gx.gx ?_) | (with_reducible refine Gx.alloc ?_) | (with_reducible refine Gx.drew ?_) | (with_reducible refine Gx.drewN ?_) | (with_reducible refine Gx.setRow ?_ (by first | omega | (simp; done) | (simp <;> omega))) | (with_reducible refine Gx.setCell ?_ (by first | omega | (simp; done) | (simp <;> omega)))))⟩
set_option maxHeartbeats 4000000 in
set_option maxRecDepth 100000 in
theorem Tracks_loop (J : Nat → TkR) (A : Option Addr) (n c : Nat) (hnc : n ≤ c) (N D : Nat → Bool) (Q R : Nat → Int) (w : World) (hL : TksAt w J n A) (hn : n ≤ 50) (HN : Hid (∀ k, k < n → ∀ W, Calls Try.prog 9 #[.string (J k).s] W fun e W' => e = .returned (.bool (N k)) ∧ ∃ x, W' = gx W x)) (HQ : Hid (∀ k, k < n → ∀ W, (∃ x, W = gx w x) → Calls Try.prog 35 #[serV (J k).den (J k).A (J k).n (J k).c] W fun e W' => e = .returned (.int .i64 (Q k)) ∧ ∃ x, W' = gx W x)) (HT : Hid (∀ k, k < n → ∀ W, (∃ x, W = gx w x) → Calls Try.prog 21 #[.slice A k c, .string (J k).s] W fun e W' => e = .returned (.int .i64 (R k)) ∧ ∃ x, W' = gx W x)) (HR : Hid (∀ k, k < n → decide (0 ≤ R k) = D k)) :
    Calls Try.prog 17 #[.slice A n c] w fun e w' => e = .returned (.int .i64 (firstOf (badT N D Q fun k => (J k).lg) n)) ∧ ∃ x, w' = gx w x := by
  have k0 : decide (50 < (n : Int)) = false := decide_eq_false (by omega)
  go_enter Try.func17, Try.ntmps17
  go_wp2_with go_skip
  clear k0
  go_loopw [11] (fun i wr => ∃ k : Nat, k ≤ n ∧ i = .int .i64 k ∧ firstOf (badT N D Q fun k => (J k).lg) k = 0 ∧ ∃ x, wr = gx w x) (fun i _ => n - (intOf i).toNat)
  case atStart => exact ⟨0, Nat.zero_le _, rfl, firstOf_0 _, Gx.refl _⟩
  case round =>
    obtain ⟨k, hk, rfl, hck, y, rfl⟩ := hrel
    have HCK := Lib.hid hck
    clear hck
    by_cases hlt : k < n
    · obtain ⟨b0, o0, rfl, hbw, HK, HZ⟩ := hL.get (by omega)
      obtain ⟨c0, c1, c2, c3⟩ := HK.out k hlt
      have HNk := Lib.hid (HN.out k hlt)
      have HQk := Lib.hid (HQ.out k hlt)
      have HTk := Lib.hid (HT.out k hlt)
      have HRk := HR.out k hlt
      have hkc : (k : Int) ≤ (c : Int) := by omega
      have F8 : N k = false → firstOf (badT N D Q fun k => (J k).lg) n = 8 := fun h => firstOf_bad HCK.out hlt (badT_8 h) (by decide)
      have F5 : N k = true → D k = true → firstOf (badT N D Q fun k => (J k).lg) n = 5 := fun h h2 => firstOf_bad HCK.out hlt (badT_5 h h2) (by decide)
      have FQ : N k = true → D k = false → Q k ≠ 0 → firstOf (badT N D Q fun k => (J k).lg) n = Q k := fun h h2 h3 => firstOf_bad HCK.out hlt (badT_Q h h2 h3) h3
      have F9 : N k = true → D k = false → Q k = 0 → ¬ (0 ≤ (J k).lg ∧ (J k).lg ≤ 1099511627776) → firstOf (badT N D Q fun k => (J k).lg) n = 9 := fun h h2 h3 h4 => firstOf_bad HCK.out hlt (badT_9 h h2 h3 h4) (by decide)
      have F0 : N k = true → D k = false → Q k = 0 → 0 ≤ (J k).lg ∧ (J k).lg ≤ 1099511627776 → firstOf (badT N D Q fun k => (J k).lg) (k + 1) = 0 := fun h h2 h3 h4 => (firstOf_succ HCK.out).trans (badT_0 h h2 h3 h4)
      have HF := Lib.hid (And.intro F8 (And.intro F5 (And.intro FQ (And.intro F9 F0))))
      clear F8 F5 FQ F9 F0 HN HQ HT HR HK HZ hL
      generalize J k = I at *
      obtain ⟨s, den, A1, n1, m1, lg, f⟩ := I
      dsimp only at *
      generalize N k = Nk at *
      generalize D k = Dk at *
      generalize Q k = Qk at *
      generalize R k = Rk at *
      cases Nk with
      | false =>
        have HE := Lib.hid (HF.out.1 (by trivial) )
        clear HF
        go_wp2_with (first | (go_at_call 9; refine (HNk.out _).mono ?_; rintro e w' ⟨rfl, x1, rfl⟩))
        go_ret
        exact ⟨by rw [HE.out]; first | done | rfl, (by repeat (first | (with_reducible exact Gx.refl _) | (with_reducible assumption) | (with_reducible refine Gx.gx ?_) | (with_reducible refine Gx.alloc ?_) | (with_reducible refine Gx.drew ?_) | (with_reducible refine Gx.drewN ?_) | (with_reducible refine Gx.setRow ?_ (by first | omega | (simp; done) | (simp <;> omega))) | (with_reducible refine Gx.setCell ?_ (by first | omega | (simp; done) | (simp <;> omega)))))⟩
      | true =>
        go_wp2_with (first | (go_at_call 9; refine (HNk.out _).mono ?_; rintro e w' ⟨rfl, x1, rfl⟩))
        have hA : At (((gx ((gx w y).alloc (.cells #[.string s, .int .i64 den, .slice A1 n1 m1, .int .i64 lg] 62)) x1))) (w.heap.size + y.n) (.cells #[.string s, .int .i64 den, .slice A1 n1 m1, .int .i64 lg] 62 (0, 0)) := by (focus (repeat (first | (with_reducible assumption) | (with_reducible exact At.new _ _) | (with_reducible refine At.row ?_) | ((with_reducible refine At.row_other ?_ ?_); rotate_left; (focus (simp <;> omega))) | (with_reducible refine At.app ?_) | (with_reducible refine At.tick ?_) | (with_reducible refine At.gx ?_) | ((with_reducible refine At.new' ?_); focus (simp; done)) | (with_reducible refine At.alloc ?_) | (with_reducible refine At.drew ?_) | (with_reducible exact Is.new _ _ _) | (with_reducible refine Is.row ?_) | ((with_reducible refine Is.row_other ?_ ?_); rotate_left; (focus (simp <;> omega))) | (with_reducible refine Is.gx ?_) | ((with_reducible refine Is.new' ?_); focus (simp; done)) | (with_reducible refine Is.alloc ?_) | (with_reducible refine Is.drew ?_))))
        have G8 : ∃ x, ((gx ((gx w y).alloc (.cells #[.string s, .int .i64 den, .slice A1 n1 m1, .int .i64 lg] 62)) x1)) = gx w x := (by repeat (first | (with_reducible exact Gx.refl _) | (with_reducible assumption) | (with_reducible refine Gx.gx ?_) | (with_reducible refine Gx.alloc ?_) | (with_reducible refine Gx.drew ?_) | (with_reducible refine Gx.drewN ?_) | (with_reducible refine Gx.setRow ?_ (by first | omega | (simp; done) | (simp <;> omega))) | (with_reducible refine Gx.setCell ?_ (by first | omega | (simp; done) | (simp <;> omega)))))
        have q0 : World.cell? (((gx ((gx w y).alloc (.cells #[.string s, .int .i64 den, .slice A1 n1 m1, .int .i64 lg] 62)) x1))) ⟨w.heap.size + y.n, 0, none⟩ = some (.string s) := by rw [cell_of_row _ _ _ _ _ _ hA]; rfl
        have q1 : World.cell? (((gx ((gx w y).alloc (.cells #[.string s, .int .i64 den, .slice A1 n1 m1, .int .i64 lg] 62)) x1))) ⟨w.heap.size + y.n, 1, none⟩ = some (.int .i64 den) := by rw [cell_of_row _ _ _ _ _ _ hA]; rfl
        have q2 : World.cell? (((gx ((gx w y).alloc (.cells #[.string s, .int .i64 den, .slice A1 n1 m1, .int .i64 lg] 62)) x1))) ⟨w.heap.size + y.n, 2, none⟩ = some (.slice A1 n1 m1) := by rw [cell_of_row _ _ _ _ _ _ hA]; rfl
        have q3 : World.cell? (((gx ((gx w y).alloc (.cells #[.string s, .int .i64 den, .slice A1 n1 m1, .int .i64 lg] 62)) x1))) ⟨w.heap.size + y.n, 3, none⟩ = some (.int .i64 lg) := by rw [cell_of_row _ _ _ _ _ _ hA]; rfl
        have l8 := hA.lt
        clear hA c0 c1 c2 c3
        generalize ((gx ((gx w y).alloc (.cells #[.string s, .int .i64 den, .slice A1 n1 m1, .int .i64 lg] 62)) x1)) = Wc at *
        generalize w.heap.size + y.n = gi at *
        cases Dk with
        | true =>
          have HE := Lib.hid (HF.out.2.1 (by trivial) (by trivial) )
          clear HF
          go_region_held3 (fun W => (∃ x, W = gx Wc x) ∧ W.cell? ⟨gi, 0, none⟩ = some (.string s) ∧ W.cell? ⟨gi, 1, none⟩ = some (.int .i64 den) ∧ W.cell? ⟨gi, 2, none⟩ = some (.slice A1 n1 m1) ∧ W.cell? ⟨gi, 3, none⟩ = some (.int .i64 lg)) (refine ⟨(by repeat (first | (with_reducible exact Gx.refl _) | (with_reducible assumption) | (with_reducible refine Gx.gx ?_) | (with_reducible refine Gx.alloc ?_) | (with_reducible refine Gx.drew ?_) | (with_reducible refine Gx.drewN ?_) | (with_reducible refine Gx.setRow ?_ (by first | omega | (simp; done) | (simp <;> omega))) | (with_reducible refine Gx.setCell ?_ (by first | omega | (simp; done) | (simp <;> omega))))), ?_, ?_, ?_, ?_⟩ <;> first | assumption | exact cell_keep_gx ‹_› | go_keep | (simp [go_sem]; done)) (first | (go_at_call 21; refine (HTk.out _ (gxT G8 (by repeat (first | (with_reducible exact Gx.refl _) | (with_reducible assumption) | (with_reducible refine Gx.gx ?_) | (with_reducible refine Gx.alloc ?_) | (with_reducible refine Gx.drew ?_) | (with_reducible refine Gx.drewN ?_) | (with_reducible refine Gx.setRow ?_ (by first | omega | (simp; done) | (simp <;> omega))) | (with_reducible refine Gx.setCell ?_ (by first | omega | (simp; done) | (simp <;> omega))))))).mono ?_; rintro e w' ⟨rfl, x2, rfl⟩))
          all_goals go_wp2
          all_goals go_ret
          all_goals exact ⟨by rw [HE.out]; first | done | rfl, gxT G8 (by repeat (first | (with_reducible exact Gx.refl _) | (with_reducible assumption) | (with_reducible refine Gx.gx ?_) | (with_reducible refine Gx.alloc ?_) | (with_reducible refine Gx.drew ?_) | (with_reducible refine Gx.drewN ?_) | (with_reducible refine Gx.setRow ?_ (by first | omega | (simp; done) | (simp <;> omega))) | (with_reducible refine Gx.setCell ?_ (by first | omega | (simp; done) | (simp <;> omega)))))⟩
        | false =>
          by_cases hQ : Qk = 0
          · subst hQ
            by_cases h1 : lg < 0
            · have HE := Lib.hid (HF.out.2.2.2.1 (by trivial) (by trivial) (by trivial) (by omega))
              have k1 : decide (lg < 0) = true := decide_eq_true h1
              clear HF h1
              go_region_held3 (fun W => (∃ x, W = gx Wc x) ∧ W.cell? ⟨gi, 0, none⟩ = some (.string s) ∧ W.cell? ⟨gi, 1, none⟩ = some (.int .i64 den) ∧ W.cell? ⟨gi, 2, none⟩ = some (.slice A1 n1 m1) ∧ W.cell? ⟨gi, 3, none⟩ = some (.int .i64 lg)) (refine ⟨(by repeat (first | (with_reducible exact Gx.refl _) | (with_reducible assumption) | (with_reducible refine Gx.gx ?_) | (with_reducible refine Gx.alloc ?_) | (with_reducible refine Gx.drew ?_) | (with_reducible refine Gx.drewN ?_) | (with_reducible refine Gx.setRow ?_ (by first | omega | (simp; done) | (simp <;> omega))) | (with_reducible refine Gx.setCell ?_ (by first | omega | (simp; done) | (simp <;> omega))))), ?_, ?_, ?_, ?_⟩ <;> first | assumption | exact cell_keep_gx ‹_› | go_keep | (simp [go_sem]; done)) (first | (go_at_call 21; refine (HTk.out _ (gxT G8 (by repeat (first | (with_reducible exact Gx.refl _) | (with_reducible assumption) | (with_reducible refine Gx.gx ?_) | (with_reducible refine Gx.alloc ?_) | (with_reducible refine Gx.drew ?_) | (with_reducible refine Gx.drewN ?_) | (with_reducible refine Gx.setRow ?_ (by first | omega | (simp; done) | (simp <;> omega))) | (with_reducible refine Gx.setCell ?_ (by first | omega | (simp; done) | (simp <;> omega))))))).mono ?_; rintro e w' ⟨rfl, x2, rfl⟩))
              all_goals go_wp2_with (first | go_skip | (go_at_call 35; refine (HQk.out _ (gxT G8 (by repeat (first | (with_reducible exact Gx.refl _) | (with_reducible assumption) | (with_reducible refine Gx.gx ?_) | (with_reducible refine Gx.alloc ?_) | (with_reducible refine Gx.drew ?_) | (with_reducible refine Gx.drewN ?_) | (with_reducible refine Gx.setRow ?_ (by first | omega | (simp; done) | (simp <;> omega))) | (with_reducible refine Gx.setCell ?_ (by first | omega | (simp; done) | (simp <;> omega))))))).mono ?_; rintro e w' ⟨rfl, x3, rfl⟩))
              all_goals go_ret
              all_goals exact ⟨by rw [HE.out]; first | done | rfl, gxT G8 (by repeat (first | (with_reducible exact Gx.refl _) | (with_reducible assumption) | (with_reducible refine Gx.gx ?_) | (with_reducible refine Gx.alloc ?_) | (with_reducible refine Gx.drew ?_) | (with_reducible refine Gx.drewN ?_) | (with_reducible refine Gx.setRow ?_ (by first | omega | (simp; done) | (simp <;> omega))) | (with_reducible refine Gx.setCell ?_ (by first | omega | (simp; done) | (simp <;> omega)))))⟩
            by_cases h2 : 1099511627776 < lg
            · have HE := Lib.hid (HF.out.2.2.2.1 (by trivial) (by trivial) (by trivial) (by omega))
              have k1 : decide (lg < 0) = false := decide_eq_false h1
              have k2 : decide (1099511627776 < lg) = true := decide_eq_true h2
              clear HF h1 h2
              go_region_held3 (fun W => (∃ x, W = gx Wc x) ∧ W.cell? ⟨gi, 0, none⟩ = some (.string s) ∧ W.cell? ⟨gi, 1, none⟩ = some (.int .i64 den) ∧ W.cell? ⟨gi, 2, none⟩ = some (.slice A1 n1 m1) ∧ W.cell? ⟨gi, 3, none⟩ = some (.int .i64 lg)) (refine ⟨(by repeat (first | (with_reducible exact Gx.refl _) | (with_reducible assumption) | (with_reducible refine Gx.gx ?_) | (with_reducible refine Gx.alloc ?_) | (with_reducible refine Gx.drew ?_) | (with_reducible refine Gx.drewN ?_) | (with_reducible refine Gx.setRow ?_ (by first | omega | (simp; done) | (simp <;> omega))) | (with_reducible refine Gx.setCell ?_ (by first | omega | (simp; done) | (simp <;> omega))))), ?_, ?_, ?_, ?_⟩ <;> first | assumption | exact cell_keep_gx ‹_› | go_keep | (simp [go_sem]; done)) (first | (go_at_call 21; refine (HTk.out _ (gxT G8 (by repeat (first | (with_reducible exact Gx.refl _) | (with_reducible assumption) | (with_reducible refine Gx.gx ?_) | (with_reducible refine Gx.alloc ?_) | (with_reducible refine Gx.drew ?_) | (with_reducible refine Gx.drewN ?_) | (with_reducible refine Gx.setRow ?_ (by first | omega | (simp; done) | (simp <;> omega))) | (with_reducible refine Gx.setCell ?_ (by first | omega | (simp; done) | (simp <;> omega))))))).mono ?_; rintro e w' ⟨rfl, x2, rfl⟩))
              all_goals go_wp2_with (first | go_skip | (go_at_call 35; refine (HQk.out _ (gxT G8 (by repeat (first | (with_reducible exact Gx.refl _) | (with_reducible assumption) | (with_reducible refine Gx.gx ?_) | (with_reducible refine Gx.alloc ?_) | (with_reducible refine Gx.drew ?_) | (with_reducible refine Gx.drewN ?_) | (with_reducible refine Gx.setRow ?_ (by first | omega | (simp; done) | (simp <;> omega))) | (with_reducible refine Gx.setCell ?_ (by first | omega | (simp; done) | (simp <;> omega))))))).mono ?_; rintro e w' ⟨rfl, x3, rfl⟩))
              all_goals go_ret
              all_goals exact ⟨by rw [HE.out]; first | done | rfl, gxT G8 (by repeat (first | (with_reducible exact Gx.refl _) | (with_reducible assumption) | (with_reducible refine Gx.gx ?_) | (with_reducible refine Gx.alloc ?_) | (with_reducible refine Gx.drew ?_) | (with_reducible refine Gx.drewN ?_) | (with_reducible refine Gx.setRow ?_ (by first | omega | (simp; done) | (simp <;> omega))) | (with_reducible refine Gx.setCell ?_ (by first | omega | (simp; done) | (simp <;> omega)))))⟩
            · have HE := Lib.hid (HF.out.2.2.2.2 (by trivial) (by trivial) (by trivial) (by omega))
              have k1 : decide (lg < 0) = false := decide_eq_false h1
              have k2 : decide (1099511627776 < lg) = false := decide_eq_false h2
              clear HF h1 h2
              go_region_held3 (fun W => (∃ x, W = gx Wc x) ∧ W.cell? ⟨gi, 0, none⟩ = some (.string s) ∧ W.cell? ⟨gi, 1, none⟩ = some (.int .i64 den) ∧ W.cell? ⟨gi, 2, none⟩ = some (.slice A1 n1 m1) ∧ W.cell? ⟨gi, 3, none⟩ = some (.int .i64 lg)) (refine ⟨(by repeat (first | (with_reducible exact Gx.refl _) | (with_reducible assumption) | (with_reducible refine Gx.gx ?_) | (with_reducible refine Gx.alloc ?_) | (with_reducible refine Gx.drew ?_) | (with_reducible refine Gx.drewN ?_) | (with_reducible refine Gx.setRow ?_ (by first | omega | (simp; done) | (simp <;> omega))) | (with_reducible refine Gx.setCell ?_ (by first | omega | (simp; done) | (simp <;> omega))))), ?_, ?_, ?_, ?_⟩ <;> first | assumption | exact cell_keep_gx ‹_› | go_keep | (simp [go_sem]; done)) (first | (go_at_call 21; refine (HTk.out _ (gxT G8 (by repeat (first | (with_reducible exact Gx.refl _) | (with_reducible assumption) | (with_reducible refine Gx.gx ?_) | (with_reducible refine Gx.alloc ?_) | (with_reducible refine Gx.drew ?_) | (with_reducible refine Gx.drewN ?_) | (with_reducible refine Gx.setRow ?_ (by first | omega | (simp; done) | (simp <;> omega))) | (with_reducible refine Gx.setCell ?_ (by first | omega | (simp; done) | (simp <;> omega))))))).mono ?_; rintro e w' ⟨rfl, x2, rfl⟩))
              all_goals go_wp2_with (first | go_skip | (go_at_call 35; refine (HQk.out _ (gxT G8 (by repeat (first | (with_reducible exact Gx.refl _) | (with_reducible assumption) | (with_reducible refine Gx.gx ?_) | (with_reducible refine Gx.alloc ?_) | (with_reducible refine Gx.drew ?_) | (with_reducible refine Gx.drewN ?_) | (with_reducible refine Gx.setRow ?_ (by first | omega | (simp; done) | (simp <;> omega))) | (with_reducible refine Gx.setCell ?_ (by first | omega | (simp; done) | (simp <;> omega))))))).mono ?_; rintro e w' ⟨rfl, x3, rfl⟩))
              all_goals go_roundw
              all_goals first
                | (simp [intOf]; omega)
                | exact ⟨k + 1, by omega, by go_num, HE.out, gxT G8 (by repeat (first | (with_reducible exact Gx.refl _) | (with_reducible assumption) | (with_reducible refine Gx.gx ?_) | (with_reducible refine Gx.alloc ?_) | (with_reducible refine Gx.drew ?_) | (with_reducible refine Gx.drewN ?_) | (with_reducible refine Gx.setRow ?_ (by first | omega | (simp; done) | (simp <;> omega))) | (with_reducible refine Gx.setCell ?_ (by first | omega | (simp; done) | (simp <;> omega)))))⟩
          · have HE := Lib.hid (HF.out.2.2.1 (by trivial) (by trivial) hQ)
            have k0 := beq0 hQ
            have k1 := bne0 hQ
            have k2 := ne0t hQ
            clear HF hQ
            go_region_held3 (fun W => (∃ x, W = gx Wc x) ∧ W.cell? ⟨gi, 0, none⟩ = some (.string s) ∧ W.cell? ⟨gi, 1, none⟩ = some (.int .i64 den) ∧ W.cell? ⟨gi, 2, none⟩ = some (.slice A1 n1 m1) ∧ W.cell? ⟨gi, 3, none⟩ = some (.int .i64 lg)) (refine ⟨(by repeat (first | (with_reducible exact Gx.refl _) | (with_reducible assumption) | (with_reducible refine Gx.gx ?_) | (with_reducible refine Gx.alloc ?_) | (with_reducible refine Gx.drew ?_) | (with_reducible refine Gx.drewN ?_) | (with_reducible refine Gx.setRow ?_ (by first | omega | (simp; done) | (simp <;> omega))) | (with_reducible refine Gx.setCell ?_ (by first | omega | (simp; done) | (simp <;> omega))))), ?_, ?_, ?_, ?_⟩ <;> first | assumption | exact cell_keep_gx ‹_› | go_keep | (simp [go_sem]; done)) (first | (go_at_call 21; refine (HTk.out _ (gxT G8 (by repeat (first | (with_reducible exact Gx.refl _) | (with_reducible assumption) | (with_reducible refine Gx.gx ?_) | (with_reducible refine Gx.alloc ?_) | (with_reducible refine Gx.drew ?_) | (with_reducible refine Gx.drewN ?_) | (with_reducible refine Gx.setRow ?_ (by first | omega | (simp; done) | (simp <;> omega))) | (with_reducible refine Gx.setCell ?_ (by first | omega | (simp; done) | (simp <;> omega))))))).mono ?_; rintro e w' ⟨rfl, x2, rfl⟩))
            all_goals go_wp2_with (first | go_skip | (go_at_call 35; refine (HQk.out _ (gxT G8 (by repeat (first | (with_reducible exact Gx.refl _) | (with_reducible assumption) | (with_reducible refine Gx.gx ?_) | (with_reducible refine Gx.alloc ?_) | (with_reducible refine Gx.drew ?_) | (with_reducible refine Gx.drewN ?_) | (with_reducible refine Gx.setRow ?_ (by first | omega | (simp; done) | (simp <;> omega))) | (with_reducible refine Gx.setCell ?_ (by first | omega | (simp; done) | (simp <;> omega))))))).mono ?_; rintro e w' ⟨rfl, x3, rfl⟩))
            all_goals go_ret
            all_goals exact ⟨by rw [HE.out]; first | done | rfl, gxT G8 (by repeat (first | (with_reducible exact Gx.refl _) | (with_reducible assumption) | (with_reducible refine Gx.gx ?_) | (with_reducible refine Gx.alloc ?_) | (with_reducible refine Gx.drew ?_) | (with_reducible refine Gx.drewN ?_) | (with_reducible refine Gx.setRow ?_ (by first | omega | (simp; done) | (simp <;> omega))) | (with_reducible refine Gx.setCell ?_ (by first | omega | (simp; done) | (simp <;> omega)))))⟩
    · obtain rfl : k = n := by omega
      go_wp2
      go_ret
      exact ⟨by rw [HCK.out]; first | done | rfl, (by repeat (first | (with_reducible exact Gx.refl _) | (with_reducible assumption) | (with_reducible refine Gx.gx ?_) | (with_reducible refine Gx.alloc ?_) | (with_reducible refine Gx.drew ?_) | (with_reducible refine Gx.drewN ?_) | (with_reducible refine Gx.setRow ?_ (by first | omega | (simp; done) | (simp <;> omega))) | (with_reducible refine Gx.setCell ?_ (by first | omega | (simp; done) | (simp <;> omega)))))⟩
set_option maxHeartbeats 4000000 in
set_option maxRecDepth 100000 in
theorem outsideE_any (n lo hi : Int) (b : Bool) (hb : (b = false ∧ lo ≤ n ∧ n ≤ hi) ∨ (b = true ∧ n < lo) ∨ (b = true ∧ lo ≤ n ∧ hi < n)) (w : World) : Calls Try.prog 43 #[.int .i64 n, .int .i64 lo, .int .i64 hi] w fun e w' => e = .returned (.bool b) ∧ w = w' := by
  rcases hb with ⟨rfl, h1, h2⟩ | ⟨rfl, h1⟩ | ⟨rfl, h1, h2⟩
  · have k1 : decide (n < lo) = false := decide_eq_false (by omega)
    have k2 : decide (hi < n) = false := decide_eq_false (by omega)
    clear h1 h2
    go_enter Try.func43, Try.ntmps43
    go_wp2_with go_skip
    go_ret
    exact ⟨rfl, rfl⟩
  · have k1 : decide (n < lo) = true := decide_eq_true h1
    clear h1
    go_enter Try.func43, Try.ntmps43
    go_wp2_with go_skip
    go_ret
    exact ⟨rfl, rfl⟩
  · have k1 : decide (n < lo) = false := decide_eq_false (by omega)
    have k2 : decide (hi < n) = true := decide_eq_true h2
    clear h1 h2
    go_enter Try.func43, Try.ntmps43
    go_wp2_with go_skip
    go_ret
    exact ⟨rfl, rfl⟩
set_option maxHeartbeats 4000000 in
set_option maxRecDepth 100000 in
theorem RTracks_loop (J : Nat → TkR) (A : Option Addr) (n c : Nat) (hnc : n ≤ c) (N D : Nat → Bool) (Q : Nat → Int) (w : World) (hL : TksAt w J n A) (hn : n ≤ 50) (HN : Hid (∀ k, k < n → ∀ W, Calls Try.prog 12 #[.string (J k).s] W fun e W' => e = .returned (.bool (N k)) ∧ ∃ x, W' = gx W x)) (HQ : Hid (∀ k, k < n → ∀ W, (∃ x, W = gx w x) → Calls Try.prog 42 #[serV (J k).den (J k).A (J k).n (J k).c] W fun e W' => e = .returned (.int .i64 (Q k)) ∧ ∃ x, W' = gx W x)) (HD : Hid (∀ k, k < n → (D k = true ∧ ∃ j, j < k ∧ (J j).s = (J k).s ∧ ∀ i, i < j → (J i).s ≠ (J k).s) ∨ (D k = false ∧ ∀ j, j < k → (J j).s ≠ (J k).s))) :
    Calls Try.prog 25 #[.slice A n c] w fun e w' => e = .returned (.int .i64 (firstOf (badT N D Q fun k => (J k).lg) n)) ∧ ∃ x, w' = gx w x := by
  have k0 : decide (50 < (n : Int)) = false := decide_eq_false (by omega)
  go_enter Try.func25, Try.ntmps25
  go_wp2_with go_skip
  clear k0
  go_loopw [3] (fun i wr => ∃ k : Nat, k ≤ n ∧ i = .int .i64 k ∧ firstOf (badT N D Q fun k => (J k).lg) k = 0 ∧ ∃ x, wr = gx w x) (fun i _ => n - (intOf i).toNat)
  case atStart => exact ⟨0, Nat.zero_le _, rfl, firstOf_0 _, Gx.refl _⟩
  case round =>
    obtain ⟨k, hk, rfl, hck, y, rfl⟩ := hrel
    have HCK := Lib.hid hck
    clear hck
    by_cases hlt : k < n
    · obtain ⟨b0, o0, rfl, hbw, HK, HZ⟩ := hL.get (by omega)
      obtain ⟨c0, c1, c2, c3⟩ := HK.out k hlt
      have HNk := Lib.hid (HN.out k hlt)
      have HQk := Lib.hid (HQ.out k hlt)
      have hkc : (k : Int) ≤ (c : Int) := by omega
      have hkn : (k : Int) < (n : Int) := by omega
      obtain ⟨K, hKk, HNo, HRo⟩ : ∃ K, K ≤ k ∧ Hid (∀ j, j < K → (J j).s ≠ (J k).s) ∧ Hid ((K = k ∧ D k = false) ∨ (K < k ∧ (J K).s = (J k).s ∧ D k = true)) := by
        rcases HD.out k hlt with ⟨h, j, hj, he, hn'⟩ | ⟨h, hn'⟩
        · exact ⟨j, by omega, Lib.hid hn', Lib.hid (.inr ⟨hj, he, h⟩)⟩
        · exact ⟨k, by omega, Lib.hid hn', Lib.hid (.inl ⟨rfl, h⟩)⟩
      have F8 : N k = false → firstOf (badT N D Q fun k => (J k).lg) n = 8 := fun h => firstOf_bad HCK.out hlt (badT_8 h) (by decide)
      have F5 : N k = true → D k = true → firstOf (badT N D Q fun k => (J k).lg) n = 5 := fun h h2 => firstOf_bad HCK.out hlt (badT_5 h h2) (by decide)
      have FQ : N k = true → D k = false → Q k ≠ 0 → firstOf (badT N D Q fun k => (J k).lg) n = Q k := fun h h2 h3 => firstOf_bad HCK.out hlt (badT_Q h h2 h3) h3
      have F9 : N k = true → D k = false → Q k = 0 → ¬ (0 ≤ (J k).lg ∧ (J k).lg ≤ 1099511627776) → firstOf (badT N D Q fun k => (J k).lg) n = 9 := fun h h2 h3 h4 => firstOf_bad HCK.out hlt (badT_9 h h2 h3 h4) (by decide)
      have F0 : N k = true → D k = false → Q k = 0 → 0 ≤ (J k).lg ∧ (J k).lg ≤ 1099511627776 → firstOf (badT N D Q fun k => (J k).lg) (k + 1) = 0 := fun h h2 h3 h4 => (firstOf_succ HCK.out).trans (badT_0 h h2 h3 h4)
      obtain ⟨I, hI⟩ : ∃ I, J k = I := ⟨_, rfl⟩
      rw [hI] at HNk HQk HNo HRo F9 F0 c0 c1 c2 c3
      have HF := Lib.hid (And.intro F8 (And.intro F5 (And.intro FQ (And.intro F9 F0))))
      clear F8 F5 FQ F9 F0 HN HQ HD HZ hL hI
      obtain ⟨s, den, A1, n1, m1, lg, f⟩ := I
      dsimp only at *
      generalize N k = Nk at *
      generalize D k = Dk at *
      generalize Q k = Qk at *
      cases Nk with
      | false =>
        have HE := Lib.hid (HF.out.1 (by trivial))
        clear HF
        go_wp2_with (first | (go_at_call 12; refine (HNk.out _).mono ?_; rintro e w' ⟨rfl, x1, rfl⟩))
        go_ret
        exact ⟨by rw [HE.out]; first | done | rfl, (by repeat (first | (with_reducible exact Gx.refl _) | (with_reducible assumption) | (with_reducible refine Gx.gx ?_) | (with_reducible refine Gx.alloc ?_) | (with_reducible refine Gx.drew ?_) | (with_reducible refine Gx.drewN ?_) | (with_reducible refine Gx.setRow ?_ (by first | omega | (simp; done) | (simp <;> omega))) | (with_reducible refine Gx.setCell ?_ (by first | omega | (simp; done) | (simp <;> omega)))))⟩
      | true =>
        go_wp2_with (first | (go_at_call 12; refine (HNk.out _).mono ?_; rintro e w' ⟨rfl, x1, rfl⟩))
        go_loopw [4] (fun i wr => ∃ j : Nat, j ≤ K ∧ i = .int .i64 j ∧ ∃ x, wr = gx w x) (fun i _ => k - (intOf i).toNat)
        case atStart => exact ⟨0, Nat.zero_le _, rfl, (by repeat (first | (with_reducible exact Gx.refl _) | (with_reducible assumption) | (with_reducible refine Gx.gx ?_) | (with_reducible refine Gx.alloc ?_) | (with_reducible refine Gx.drew ?_) | (with_reducible refine Gx.drewN ?_) | (with_reducible refine Gx.setRow ?_ (by first | omega | (simp; done) | (simp <;> omega))) | (with_reducible refine Gx.setCell ?_ (by first | omega | (simp; done) | (simp <;> omega)))))⟩
        case round =>
          obtain ⟨j, hj, rfl, v, rfl⟩ := hrel
          by_cases hlj : j < k
          · obtain ⟨d0, d1, d2, d3⟩ := HK.out j (by omega)
            have hlj' : (j : Int) < (k : Int) := by omega
            have hjn : (j : Int) < (n : Int) := by omega
            have HB : ∃ B : Bool, Hid ((((J j).s.toList == s.toList) = B) ∧ ((s.toList == (J j).s.toList) = B) ∧ ((B = false ∧ j < K) ∨ (B = true ∧ Dk = true))) := by
              by_cases hjK : j < K
              · exact ⟨false, Lib.hid ⟨neS (HNo.out j hjK), neS fun h => HNo.out j hjK h.symm, .inl ⟨rfl, hjK⟩⟩⟩
              · obtain rfl : j = K := by omega
                rcases HRo.out with ⟨h, -⟩ | ⟨-, h1, h2⟩
                · omega
                · exact ⟨true, Lib.hid ⟨eqS h1, eqS h1.symm, .inr ⟨rfl, h2⟩⟩⟩
            obtain ⟨B, HB⟩ := HB
            clear HNo HRo HK
            generalize (J j).s = s2 at *
            obtain ⟨b1, b2, hB⟩ := HB.out
            rcases hB with ⟨rfl, hjK⟩ | ⟨rfl, hd⟩
            · clear HB HF
              go_wp2
              go_quiet (fail)
              go_wp2
              go_roundw
              case rel => exact ⟨j + 1, by omega, by go_num, (by repeat (first | (with_reducible exact Gx.refl _) | (with_reducible assumption) | (with_reducible refine Gx.gx ?_) | (with_reducible refine Gx.alloc ?_) | (with_reducible refine Gx.drew ?_) | (with_reducible refine Gx.drewN ?_) | (with_reducible refine Gx.setRow ?_ (by first | omega | (simp; done) | (simp <;> omega))) | (with_reducible refine Gx.setCell ?_ (by first | omega | (simp; done) | (simp <;> omega)))))⟩
              case measure => simp [intOf]; omega
            · clear HB
              have HE := Lib.hid (HF.out.2.1 (by trivial) hd)
              clear hd HF
              go_wp2
              go_quiet (fail)
              go_wp2
              go_ret
              exact ⟨by rw [HE.out]; first | done | rfl, (by repeat (first | (with_reducible exact Gx.refl _) | (with_reducible assumption) | (with_reducible refine Gx.gx ?_) | (with_reducible refine Gx.alloc ?_) | (with_reducible refine Gx.drew ?_) | (with_reducible refine Gx.drewN ?_) | (with_reducible refine Gx.setRow ?_ (by first | omega | (simp; done) | (simp <;> omega))) | (with_reducible refine Gx.setCell ?_ (by first | omega | (simp; done) | (simp <;> omega)))))⟩
          · obtain rfl : j = k := by omega
            have hDk : Dk = false := by
              rcases HRo.out with ⟨-, h⟩ | ⟨h, -⟩
              · exact h
              · omega
            subst hDk
            clear HRo HNo HK
            by_cases hQ : Qk = 0
            · subst hQ
              by_cases hlg : 0 ≤ lg ∧ lg ≤ 1099511627776
              · have HE := Lib.hid (HF.out.2.2.2.2 (by trivial) (by trivial) (by trivial) hlg)
                have HO := Lib.hid (fun W => outsideE_any lg 0 1099511627776 false (.inl ⟨rfl, hlg.1, hlg.2⟩) W)
                clear HF hlg
                go_wp2_with (first | go_skip | (go_at_call 42; refine (HQk.out _ (by repeat (first | (with_reducible exact Gx.refl _) | (with_reducible assumption) | (with_reducible refine Gx.gx ?_) | (with_reducible refine Gx.alloc ?_) | (with_reducible refine Gx.drew ?_) | (with_reducible refine Gx.drewN ?_) | (with_reducible refine Gx.setRow ?_ (by first | omega | (simp; done) | (simp <;> omega))) | (with_reducible refine Gx.setCell ?_ (by first | omega | (simp; done) | (simp <;> omega)))))).mono ?_; rintro e w' ⟨rfl, x3, rfl⟩) | (go_at_call 43; refine (HO.out _).mono ?_; rintro e w' ⟨rfl, rfl⟩))
                go_roundw
                case rel => exact ⟨j + 1, by omega, by go_num, HE.out, (by repeat (first | (with_reducible exact Gx.refl _) | (with_reducible assumption) | (with_reducible refine Gx.gx ?_) | (with_reducible refine Gx.alloc ?_) | (with_reducible refine Gx.drew ?_) | (with_reducible refine Gx.drewN ?_) | (with_reducible refine Gx.setRow ?_ (by first | omega | (simp; done) | (simp <;> omega))) | (with_reducible refine Gx.setCell ?_ (by first | omega | (simp; done) | (simp <;> omega)))))⟩
                case measure => simp [intOf]; omega
              · have HE := Lib.hid (HF.out.2.2.2.1 (by trivial) (by trivial) (by trivial) hlg)
                have HO := Lib.hid (fun W => outsideE_any lg 0 1099511627776 true (by by_cases h : lg < 0; exact .inr (.inl ⟨rfl, h⟩); exact .inr (.inr ⟨rfl, by omega, by omega⟩)) W)
                clear HF hlg
                go_wp2_with (first | go_skip | (go_at_call 42; refine (HQk.out _ (by repeat (first | (with_reducible exact Gx.refl _) | (with_reducible assumption) | (with_reducible refine Gx.gx ?_) | (with_reducible refine Gx.alloc ?_) | (with_reducible refine Gx.drew ?_) | (with_reducible refine Gx.drewN ?_) | (with_reducible refine Gx.setRow ?_ (by first | omega | (simp; done) | (simp <;> omega))) | (with_reducible refine Gx.setCell ?_ (by first | omega | (simp; done) | (simp <;> omega)))))).mono ?_; rintro e w' ⟨rfl, x3, rfl⟩) | (go_at_call 43; refine (HO.out _).mono ?_; rintro e w' ⟨rfl, rfl⟩))
                go_ret
                exact ⟨by rw [HE.out]; first | done | rfl, (by repeat (first | (with_reducible exact Gx.refl _) | (with_reducible assumption) | (with_reducible refine Gx.gx ?_) | (with_reducible refine Gx.alloc ?_) | (with_reducible refine Gx.drew ?_) | (with_reducible refine Gx.drewN ?_) | (with_reducible refine Gx.setRow ?_ (by first | omega | (simp; done) | (simp <;> omega))) | (with_reducible refine Gx.setCell ?_ (by first | omega | (simp; done) | (simp <;> omega)))))⟩
            · have HE := Lib.hid (HF.out.2.2.1 (by trivial) (by trivial) hQ)
              have k0 := beq0 hQ
              have k1 := bne0 hQ
              have k2 := ne0t hQ
              clear HF hQ
              go_wp2_with (first | go_skip | (go_at_call 42; refine (HQk.out _ (by repeat (first | (with_reducible exact Gx.refl _) | (with_reducible assumption) | (with_reducible refine Gx.gx ?_) | (with_reducible refine Gx.alloc ?_) | (with_reducible refine Gx.drew ?_) | (with_reducible refine Gx.drewN ?_) | (with_reducible refine Gx.setRow ?_ (by first | omega | (simp; done) | (simp <;> omega))) | (with_reducible refine Gx.setCell ?_ (by first | omega | (simp; done) | (simp <;> omega)))))).mono ?_; rintro e w' ⟨rfl, x3, rfl⟩))
              go_ret
              exact ⟨by rw [HE.out]; first | done | rfl, (by repeat (first | (with_reducible exact Gx.refl _) | (with_reducible assumption) | (with_reducible refine Gx.gx ?_) | (with_reducible refine Gx.alloc ?_) | (with_reducible refine Gx.drew ?_) | (with_reducible refine Gx.drewN ?_) | (with_reducible refine Gx.setRow ?_ (by first | omega | (simp; done) | (simp <;> omega))) | (with_reducible refine Gx.setCell ?_ (by first | omega | (simp; done) | (simp <;> omega)))))⟩
    · obtain rfl : k = n := by omega
      go_wp2
      go_ret
      exact ⟨by rw [HCK.out]; first | done | rfl, (by repeat (first | (with_reducible exact Gx.refl _) | (with_reducible assumption) | (with_reducible refine Gx.gx ?_) | (with_reducible refine Gx.alloc ?_) | (with_reducible refine Gx.drew ?_) | (with_reducible refine Gx.drewN ?_) | (with_reducible refine Gx.setRow ?_ (by first | omega | (simp; done) | (simp <;> omega))) | (with_reducible refine Gx.setCell ?_ (by first | omega | (simp; done) | (simp <;> omega)))))⟩
end Go.Proofs.Ytfbhjgaiejjfaaa
