/-
  Peak of both sides: one answer.
-/
import Derived.Test.YtfbhjgaiejjfaaaFPk
namespace Go.Proofs.Ytfbhjgaiejjfaaa
open Go.RowKit
-- AT2
-- AT3

/-- Nothing is wrong with a flight. -/
@[irreducible] def GoodFl (tl rt : ByteArray) (dy fr to : Int) (J : Nat → TkR) (n : Nat) : Prop := (tl.size = 0 ∨ nameT tl = true) ∧ nameT rt = true ∧ (0 ≤ dy ∧ dy ≤ 1000000) ∧ (0 ≤ fr ∧ fr ≤ to ∧ to < 4194304) ∧ to - fr < 20000 ∧ n ≤ 30 ∧ GoodTks J n
theorem GoodFl.out {tl rt : ByteArray} {dy fr to : Int} {J : Nat → TkR} {n : Nat} (h : GoodFl tl rt dy fr to J n) : (tl.size = 0 ∨ nameT tl = true) ∧ nameT rt = true ∧ (0 ≤ dy ∧ dy ≤ 1000000) ∧ (0 ≤ fr ∧ fr ≤ to ∧ to < 4194304) ∧ to - fr < 20000 ∧ n ≤ 30 ∧ GoodTks J n := by unfold GoodFl at h; exact h
theorem GoodFl.mk {tl rt : ByteArray} {dy fr to : Int} {J : Nat → TkR} {n : Nat} (h : (tl.size = 0 ∨ nameT tl = true) ∧ nameT rt = true ∧ (0 ≤ dy ∧ dy ≤ 1000000) ∧ (0 ≤ fr ∧ fr ≤ to ∧ to < 4194304) ∧ to - fr < 20000 ∧ n ≤ 30 ∧ GoodTks J n) : GoodFl tl rt dy fr to J n := by unfold GoodFl; exact h
/-- What lies in a flight can be there. -/
structure FitFl (tl rt : ByteArray) (J : Nat → TkR) (n c : Nat) : Prop where
  tl : tl.size ≤ 9223372036854775807
  rt : rt.size ≤ 9223372036854775807
  nc : n ≤ c ∧ c ≤ 9223372036854775807
  nm : ∀ k, k < n → (J k).s.size ≤ 9223372036854775807
  sm : ∀ k, k < n → ((J k).A = none → (J k).n = 0 ∧ (J k).c = 0) ∧ (J k).n ≤ (J k).c
theorem Flight_both (tl rt : ByteArray) (dy fr to : Int) (A : Option Addr) (n c : Nat) (J : Nat → TkR) (hF : FitFl tl rt J n c) : ∃ E : Int, (∀ W, TksAt W J n A → Calls Try.prog 8 #[flV tl rt dy fr to A n c] W fun e W' => e = .returned (.int .i64 E) ∧ ∃ x, W' = gx W x) ∧ (∀ W, TksAt W J n A → Calls Try.prog 11 #[flV tl rt dy fr to A n c] W fun e W' => e = .returned (.int .i64 E) ∧ ∃ x, W' = gx W x) ∧ (E = 0 ↔ GoodFl tl rt dy fr to J n) := by
  obtain ⟨Et, C1, C2, hE⟩ := Tracks_both J A n c hF.nc hF.nm
  refine ⟨flE (decide (tl.size = 0)) (nameT tl) (nameT rt) dy fr to n Et, fun W hW => ?_, fun W hW => ?_, ?_, ?_⟩
  · exact pfl_any tl rt dy fr to A n c _ _ _ W (Lib.hid fun W' => (IsNameE_any _ hF.tl W').mono fun e w' h => ⟨h.1, h.2 ▸ Gx.refl _⟩) (Lib.hid fun W' => (IsNameE_any _ hF.rt W').mono fun e w' h => ⟨h.1, h.2 ▸ Gx.refl _⟩) (Lib.hid fun W' hW' => C1 W' (hW.on hW'))
  · exact rfl_any tl rt dy fr to A n c _ _ _ W (Lib.hid fun W' => RIsNameT_any _ hF.tl W') (Lib.hid fun W' => RIsNameT_any _ hF.rt W') (Lib.hid fun W' hW' => C2 W' (hW.on hW'))
  · intro h
    obtain ⟨h1, h2, h3, h4, h5, h6, h7, h8, h9, h10⟩ := flE_all h
    refine GoodFl.mk ⟨?_, h2, ⟨h3, h4⟩, ⟨h5, h6, h7⟩, h8, h9, hE.1 h10⟩
    rcases h1 with h | h
    · exact .inl (of_decide_eq_true h)
    · exact .inr h
  · intro h
    obtain ⟨h1, h2, h3, h4, h5, h6, h7⟩ := h.out
    rw [flE_E ?_ h2 (by omega) (by omega)]
    · exact hE.2 h7
    · rcases h1 with h | h
      · exact .inl (decide_eq_true h)
      · exact .inr h
theorem GoodTks.size {J : Nat → TkR} {n : Nat} (h : GoodTks J n) : ∀ k, k < n → (J k).n ≤ 20000 := fun k hk => (goodS_of (h.out.2.1 k hk).2.1).2.1
/-- There is a peak. -/
theorem isPk_is (J : Nat → TkR) (n : Nat) (b : ByteArray) (fr to : Int) (hf : 0 ≤ fr ∧ fr ≤ to ∧ to < 4194304) (hg : GoodTks J n) : ∃ V B, IsPk J n b fr to V B := by
  classical
  rcases first_of (fun k => (J k).s = b) n with ⟨K, hK, he, -⟩ | hn
  · have key : ∀ V' B', IsMx (J K).f (J K).n fr to V' B' → IsPk J n b fr to V' B' := fun V' B' h => by unfold IsPk; exact .inl ⟨K, hK, he, h⟩
    exact ⟨_, _, key _ _ (peak_is (hg.out.2.1 K hK).2.1 hf).2⟩
  · exact ⟨0, false, by unfold IsPk; exact .inr ⟨hn, rfl, rfl⟩⟩
theorem peakOf_any (tl rt : ByteArray) (dy fr to : Int) (A : Option Addr) (n c : Nat) (J : Nat → TkR) (hF : FitFl tl rt J n c) (hg : GoodFl tl rt dy fr to J n) (b : ByteArray) (V : Int) (B : Bool) (hV : IsPk J n b fr to V B) (w : World) (hL : TksAt w J n A) :
    Calls Try.prog 10 #[flV tl rt dy fr to A n c, .string b] w fun e w' => ∃ d : Int, e = .returned (.tuple #[.agg #[.int .i64 0, .int .i64 V, .int .i64 d], .bool B]) ∧ ∃ x, w' = gx w x := by
  obtain ⟨-, -, -, hf, -, hn30, hT⟩ := hg.out
  obtain ⟨-, hk, hd⟩ := hT.out
  obtain ⟨r, hr⟩ := numT_is J n b
  have HT := fun W (hW : ∃ x, W = gx w x) => TrackNumber_any J A n c b r hr W (hL.on hW) (by omega)
  rcases hr with ⟨K, hK, he, hno, rfl⟩ | ⟨hno, rfl⟩
  · obtain ⟨h1, h2, h3⟩ := hk K hK
    obtain ⟨p1, p2⟩ := peak_is h2 hf
    have key : ∀ V' B', IsMx (J K).f (J K).n fr to V' B' → IsPk J n b fr to V' B' := fun V' B' h => by unfold IsPk; exact .inl ⟨K, hK, he, h⟩
    have hV' := key _ _ p2
    obtain ⟨rfl, rfl⟩ := IsPk.eq hd hV hV'
    obtain ⟨b0, o0, rfl, hbw, HK, HZ⟩ := hL.get (by omega)
    obtain ⟨c0, c1, c2, c3⟩ := HK.out K hK
    have hsm := HZ.out K hK
    obtain ⟨hN, hnc⟩ := hF.sm K hK
    refine (peakOf_at tl rt dy fr to b0 o0 n c K hK b (J K).den (J K).A (J K).n (J K).c (ptF (J K).f (aheadN (J K).f (64 * fr) (J K).n)) (aheadN (J K).f (64 * (to + 1)) (J K).n - aheadN (J K).f (64 * fr) (J K).n) (64 * fr) (to + 1) (64 * (to + 1)) _ _ _ _ w (Lib.hid HT) (by omega) c1 c2 (IntWalk.i64_in _ (by omega)) (IntWalk.i64_in _ (by omega)) (IntWalk.i64_in _ (by omega)) (Lib.hid fun W hW => ?_) (Lib.hid fun W A2 q2 hs => Range_any _ _ _ q2 A2 W hs) (by rw [Bool.eq_iff_iff]; simp) rfl).mono fun e w' h => ⟨_, h⟩
    have := Part_any (J K).den (J K).f (J K).n (J K).c (J K).A hN hnc (64 * fr) (64 * (to + 1)) W (by obtain ⟨x, rfl⟩ := hW; exact hsm.gx)
    rw [p1, if_pos rfl, if_pos rfl] at this
    exact this
  · rcases hV.out with ⟨K, hK, he, -⟩ | ⟨-, rfl, rfl⟩
    · exact absurd he (hno K hK)
    · exact (peakOf_none tl rt dy fr to A n c b w (Lib.hid HT)).mono fun e w' h => ⟨0, h⟩
set_option maxHeartbeats 4000000 in
set_option maxRecDepth 100000 in
theorem pPeak_a (tl rt : ByteArray) (dy fr to : Int) (A : Option Addr) (n c : Nat) (b : ByteArray) (E : Int) (h0 : E ≠ 0) (w : World) (H : Hid (∀ W, (∃ x, W = gx w x) → Calls Try.prog 8 #[flV tl rt dy fr to A n c] W fun e W' => e = .returned (.int .i64 E) ∧ ∃ x, W' = gx W x)) :
    Calls Try.prog 4 #[flV tl rt dy fr to A n c, .string b] w fun e w' => e = .returned (.tuple #[.int .i64 0, .bool false, .int .i64 E]) ∧ ∃ x, w' = gx w x := by
  have k0 := beq0 h0
  have k1 := bne0 h0
  have k2 := ne0t h0
  clear h0
  go_enter Try.func4, Try.ntmps4
  go_wp2_with (first | go_skip | (go_at_call 8; refine (H.out _ (by repeat (first | (with_reducible exact Gx.refl _) | (with_reducible assumption) | (with_reducible refine Gx.gx ?_) | (with_reducible refine Gx.alloc ?_) | (with_reducible refine Gx.drew ?_) | (with_reducible refine Gx.drewN ?_) | (with_reducible refine Gx.setRow ?_ (by first | omega | (simp; done) | (simp <;> omega))) | (with_reducible refine Gx.setCell ?_ (by first | omega | (simp; done) | (simp <;> omega)))))).mono ?_; rintro e w' ⟨rfl, x1, rfl⟩))
  exact bodyPost_ret (v := .tuple #[.int .i64 0, .bool false, .int .i64 E]) (by simp [results, Try.results4, go_sem]) rfl ⟨rfl, (by repeat (first | (with_reducible exact Gx.refl _) | (with_reducible assumption) | (with_reducible refine Gx.gx ?_) | (with_reducible refine Gx.alloc ?_) | (with_reducible refine Gx.drew ?_) | (with_reducible refine Gx.drewN ?_) | (with_reducible refine Gx.setRow ?_ (by first | omega | (simp; done) | (simp <;> omega))) | (with_reducible refine Gx.setCell ?_ (by first | omega | (simp; done) | (simp <;> omega)))))⟩
set_option maxHeartbeats 4000000 in
set_option maxRecDepth 100000 in
theorem pPeak_b (tl rt : ByteArray) (dy fr to : Int) (A : Option Addr) (n c : Nat) (b : ByteArray) (w : World) (H : Hid (∀ W, (∃ x, W = gx w x) → Calls Try.prog 8 #[flV tl rt dy fr to A n c] W fun e W' => e = .returned (.int .i64 0) ∧ ∃ x, W' = gx W x)) (HN : Hid (∀ W, Calls Try.prog 9 #[.string b] W fun e W' => e = .returned (.bool false) ∧ ∃ x, W' = gx W x)) :
    Calls Try.prog 4 #[flV tl rt dy fr to A n c, .string b] w fun e w' => e = .returned (.tuple #[.int .i64 0, .bool false, .int .i64 8]) ∧ ∃ x, w' = gx w x := by
  go_enter Try.func4, Try.ntmps4
  go_wp2_with (first | go_skip | (go_at_call 8; refine (H.out _ (by repeat (first | (with_reducible exact Gx.refl _) | (with_reducible assumption) | (with_reducible refine Gx.gx ?_) | (with_reducible refine Gx.alloc ?_) | (with_reducible refine Gx.drew ?_) | (with_reducible refine Gx.drewN ?_) | (with_reducible refine Gx.setRow ?_ (by first | omega | (simp; done) | (simp <;> omega))) | (with_reducible refine Gx.setCell ?_ (by first | omega | (simp; done) | (simp <;> omega)))))).mono ?_; rintro e w' ⟨rfl, x1, rfl⟩) | (go_at_call 9; refine (HN.out _).mono ?_; rintro e w' ⟨rfl, x2, rfl⟩))
  exact bodyPost_ret (v := .tuple #[.int .i64 0, .bool false, .int .i64 8]) (by simp [results, Try.results4, go_sem]) rfl ⟨rfl, (by repeat (first | (with_reducible exact Gx.refl _) | (with_reducible assumption) | (with_reducible refine Gx.gx ?_) | (with_reducible refine Gx.alloc ?_) | (with_reducible refine Gx.drew ?_) | (with_reducible refine Gx.drewN ?_) | (with_reducible refine Gx.setRow ?_ (by first | omega | (simp; done) | (simp <;> omega))) | (with_reducible refine Gx.setCell ?_ (by first | omega | (simp; done) | (simp <;> omega)))))⟩
set_option maxHeartbeats 4000000 in
set_option maxRecDepth 100000 in
theorem pPeak_c (tl rt : ByteArray) (dy fr to : Int) (A : Option Addr) (n c : Nat) (b : ByteArray) (V : Int) (B : Bool) (w : World) (H : Hid (∀ W, (∃ x, W = gx w x) → Calls Try.prog 8 #[flV tl rt dy fr to A n c] W fun e W' => e = .returned (.int .i64 0) ∧ ∃ x, W' = gx W x)) (HN : Hid (∀ W, Calls Try.prog 9 #[.string b] W fun e W' => e = .returned (.bool true) ∧ ∃ x, W' = gx W x)) (HP : Hid (∀ W, (∃ x, W = gx w x) → Calls Try.prog 10 #[flV tl rt dy fr to A n c, .string b] W fun e W' => ∃ d : Int, e = .returned (.tuple #[.agg #[.int .i64 0, .int .i64 V, .int .i64 d], .bool B]) ∧ ∃ x, W' = gx W x)) :
    Calls Try.prog 4 #[flV tl rt dy fr to A n c, .string b] w fun e w' => e = .returned (.tuple #[.int .i64 V, .bool B, .int .i64 0]) ∧ ∃ x, w' = gx w x := by
  go_enter Try.func4, Try.ntmps4
  go_wp2_with (first | go_skip | (go_at_call 8; refine (H.out _ (by repeat (first | (with_reducible exact Gx.refl _) | (with_reducible assumption) | (with_reducible refine Gx.gx ?_) | (with_reducible refine Gx.alloc ?_) | (with_reducible refine Gx.drew ?_) | (with_reducible refine Gx.drewN ?_) | (with_reducible refine Gx.setRow ?_ (by first | omega | (simp; done) | (simp <;> omega))) | (with_reducible refine Gx.setCell ?_ (by first | omega | (simp; done) | (simp <;> omega)))))).mono ?_; rintro e w' ⟨rfl, x1, rfl⟩) | (go_at_call 9; refine (HN.out _).mono ?_; rintro e w' ⟨rfl, x2, rfl⟩) | (go_at_call 10; refine (HP.out _ (by repeat (first | (with_reducible exact Gx.refl _) | (with_reducible assumption) | (with_reducible refine Gx.gx ?_) | (with_reducible refine Gx.alloc ?_) | (with_reducible refine Gx.drew ?_) | (with_reducible refine Gx.drewN ?_) | (with_reducible refine Gx.setRow ?_ (by first | omega | (simp; done) | (simp <;> omega))) | (with_reducible refine Gx.setCell ?_ (by first | omega | (simp; done) | (simp <;> omega)))))).mono ?_; rintro e w' ⟨d, rfl, x3, rfl⟩))
  exact bodyPost_ret (v := .tuple #[.int .i64 V, .bool B, .int .i64 0]) (by simp [results, Try.results4, go_sem]) rfl ⟨rfl, (by repeat (first | (with_reducible exact Gx.refl _) | (with_reducible assumption) | (with_reducible refine Gx.gx ?_) | (with_reducible refine Gx.alloc ?_) | (with_reducible refine Gx.drew ?_) | (with_reducible refine Gx.drewN ?_) | (with_reducible refine Gx.setRow ?_ (by first | omega | (simp; done) | (simp <;> omega))) | (with_reducible refine Gx.setCell ?_ (by first | omega | (simp; done) | (simp <;> omega)))))⟩
set_option maxHeartbeats 4000000 in
set_option maxRecDepth 100000 in
theorem rPeak_a (tl rt : ByteArray) (dy fr to : Int) (A : Option Addr) (n c : Nat) (b : ByteArray) (E : Int) (h0 : E ≠ 0) (w : World) (H : Hid (∀ W, (∃ x, W = gx w x) → Calls Try.prog 11 #[flV tl rt dy fr to A n c] W fun e W' => e = .returned (.int .i64 E) ∧ ∃ x, W' = gx W x)) :
    Calls Try.prog 5 #[flV tl rt dy fr to A n c, .string b] w fun e w' => e = .returned (.tuple #[.int .i64 0, .bool false, .int .i64 E]) ∧ ∃ x, w' = gx w x := by
  have k0 := beq0 h0
  have k1 := bne0 h0
  have k2 := ne0t h0
  clear h0
  go_enter Try.func5, Try.ntmps5
  go_wp2_with (first | go_skip | (go_at_call 11; refine (H.out _ (by repeat (first | (with_reducible exact Gx.refl _) | (with_reducible assumption) | (with_reducible refine Gx.gx ?_) | (with_reducible refine Gx.alloc ?_) | (with_reducible refine Gx.drew ?_) | (with_reducible refine Gx.drewN ?_) | (with_reducible refine Gx.setRow ?_ (by first | omega | (simp; done) | (simp <;> omega))) | (with_reducible refine Gx.setCell ?_ (by first | omega | (simp; done) | (simp <;> omega)))))).mono ?_; rintro e w' ⟨rfl, x1, rfl⟩))
  exact bodyPost_ret (v := .tuple #[.int .i64 0, .bool false, .int .i64 E]) (by simp [results, Try.results5, go_sem]) rfl ⟨rfl, (by repeat (first | (with_reducible exact Gx.refl _) | (with_reducible assumption) | (with_reducible refine Gx.gx ?_) | (with_reducible refine Gx.alloc ?_) | (with_reducible refine Gx.drew ?_) | (with_reducible refine Gx.drewN ?_) | (with_reducible refine Gx.setRow ?_ (by first | omega | (simp; done) | (simp <;> omega))) | (with_reducible refine Gx.setCell ?_ (by first | omega | (simp; done) | (simp <;> omega)))))⟩
set_option maxHeartbeats 4000000 in
set_option maxRecDepth 100000 in
theorem rPeak_b (tl rt : ByteArray) (dy fr to : Int) (A : Option Addr) (n c : Nat) (b : ByteArray) (w : World) (H : Hid (∀ W, (∃ x, W = gx w x) → Calls Try.prog 11 #[flV tl rt dy fr to A n c] W fun e W' => e = .returned (.int .i64 0) ∧ ∃ x, W' = gx W x)) (HN : Hid (∀ W, Calls Try.prog 12 #[.string b] W fun e W' => e = .returned (.bool false) ∧ ∃ x, W' = gx W x)) :
    Calls Try.prog 5 #[flV tl rt dy fr to A n c, .string b] w fun e w' => e = .returned (.tuple #[.int .i64 0, .bool false, .int .i64 8]) ∧ ∃ x, w' = gx w x := by
  go_enter Try.func5, Try.ntmps5
  go_wp2_with (first | go_skip | (go_at_call 11; refine (H.out _ (by repeat (first | (with_reducible exact Gx.refl _) | (with_reducible assumption) | (with_reducible refine Gx.gx ?_) | (with_reducible refine Gx.alloc ?_) | (with_reducible refine Gx.drew ?_) | (with_reducible refine Gx.drewN ?_) | (with_reducible refine Gx.setRow ?_ (by first | omega | (simp; done) | (simp <;> omega))) | (with_reducible refine Gx.setCell ?_ (by first | omega | (simp; done) | (simp <;> omega)))))).mono ?_; rintro e w' ⟨rfl, x1, rfl⟩) | (go_at_call 12; refine (HN.out _).mono ?_; rintro e w' ⟨rfl, x2, rfl⟩))
  exact bodyPost_ret (v := .tuple #[.int .i64 0, .bool false, .int .i64 8]) (by simp [results, Try.results5, go_sem]) rfl ⟨rfl, (by repeat (first | (with_reducible exact Gx.refl _) | (with_reducible assumption) | (with_reducible refine Gx.gx ?_) | (with_reducible refine Gx.alloc ?_) | (with_reducible refine Gx.drew ?_) | (with_reducible refine Gx.drewN ?_) | (with_reducible refine Gx.setRow ?_ (by first | omega | (simp; done) | (simp <;> omega))) | (with_reducible refine Gx.setCell ?_ (by first | omega | (simp; done) | (simp <;> omega)))))⟩
set_option maxHeartbeats 4000000 in
set_option maxRecDepth 100000 in
theorem rPeak_c (tl rt : ByteArray) (dy fr to : Int) (A : Option Addr) (n c : Nat) (b : ByteArray) (V : Int) (B : Bool) (w : World) (H : Hid (∀ W, (∃ x, W = gx w x) → Calls Try.prog 11 #[flV tl rt dy fr to A n c] W fun e W' => e = .returned (.int .i64 0) ∧ ∃ x, W' = gx W x)) (HN : Hid (∀ W, Calls Try.prog 12 #[.string b] W fun e W' => e = .returned (.bool true) ∧ ∃ x, W' = gx W x)) (HP : Hid (∀ W, (∃ x, W = gx w x) → Calls Try.prog 13 #[flV tl rt dy fr to A n c, .string b] W fun e W' => ∃ d : Int, e = .returned (.tuple #[.int .i64 V, .int .i64 d, .bool B]) ∧ ∃ x, W' = gx W x)) :
    Calls Try.prog 5 #[flV tl rt dy fr to A n c, .string b] w fun e w' => e = .returned (.tuple #[.int .i64 V, .bool B, .int .i64 0]) ∧ ∃ x, w' = gx w x := by
  go_enter Try.func5, Try.ntmps5
  go_wp2_with (first | go_skip | (go_at_call 11; refine (H.out _ (by repeat (first | (with_reducible exact Gx.refl _) | (with_reducible assumption) | (with_reducible refine Gx.gx ?_) | (with_reducible refine Gx.alloc ?_) | (with_reducible refine Gx.drew ?_) | (with_reducible refine Gx.drewN ?_) | (with_reducible refine Gx.setRow ?_ (by first | omega | (simp; done) | (simp <;> omega))) | (with_reducible refine Gx.setCell ?_ (by first | omega | (simp; done) | (simp <;> omega)))))).mono ?_; rintro e w' ⟨rfl, x1, rfl⟩) | (go_at_call 12; refine (HN.out _).mono ?_; rintro e w' ⟨rfl, x2, rfl⟩) | (go_at_call 13; refine (HP.out _ (by repeat (first | (with_reducible exact Gx.refl _) | (with_reducible assumption) | (with_reducible refine Gx.gx ?_) | (with_reducible refine Gx.alloc ?_) | (with_reducible refine Gx.drew ?_) | (with_reducible refine Gx.drewN ?_) | (with_reducible refine Gx.setRow ?_ (by first | omega | (simp; done) | (simp <;> omega))) | (with_reducible refine Gx.setCell ?_ (by first | omega | (simp; done) | (simp <;> omega)))))).mono ?_; rintro e w' ⟨d, rfl, x3, rfl⟩))
  exact bodyPost_ret (v := .tuple #[.int .i64 V, .bool B, .int .i64 0]) (by simp [results, Try.results5, go_sem]) rfl ⟨rfl, (by repeat (first | (with_reducible exact Gx.refl _) | (with_reducible assumption) | (with_reducible refine Gx.gx ?_) | (with_reducible refine Gx.alloc ?_) | (with_reducible refine Gx.drew ?_) | (with_reducible refine Gx.drewN ?_) | (with_reducible refine Gx.setRow ?_ (by first | omega | (simp; done) | (simp <;> omega))) | (with_reducible refine Gx.setCell ?_ (by first | omega | (simp; done) | (simp <;> omega)))))⟩
/-- Peak of the program where nothing is wrong. -/
theorem Peak_go (tl rt : ByteArray) (dy fr to : Int) (A : Option Addr) (n c : Nat) (J : Nat → TkR) (hF : FitFl tl rt J n c) (hg : GoodFl tl rt dy fr to J n) (b : ByteArray) (hb : b.size ≤ 9223372036854775807) (hbn : nameT b = true) (V : Int) (B : Bool) (hV : IsPk J n b fr to V B) (w : World) (hL : TksAt w J n A) :
    Calls Try.prog 4 #[flV tl rt dy fr to A n c, .string b] w fun e w' => e = .returned (.tuple #[.int .i64 V, .bool B, .int .i64 0]) ∧ ∃ x, w' = gx w x := by
  obtain ⟨E, C1, -, hE⟩ := Flight_both tl rt dy fr to A n c J hF
  obtain rfl : E = 0 := hE.2 hg
  exact pPeak_c tl rt dy fr to A n c b V B w (Lib.hid fun W hW => C1 W (hL.on hW)) (Lib.hid fun W => (IsNameE_any b hb W).mono fun e w' h => ⟨h.1.trans (by rw [hbn]), h.2 ▸ Gx.refl _⟩) (Lib.hid fun W hW => peakOf_any tl rt dy fr to A n c J hF hg b V B hV W (hL.on hW))
theorem Peak_both (tl rt : ByteArray) (dy fr to : Int) (A : Option Addr) (n c : Nat) (J : Nat → TkR) (hF : FitFl tl rt J n c) (b : ByteArray) (hb : b.size ≤ 9223372036854775807) : ∃ (V : Int) (B : Bool) (E : Int), (∀ W, TksAt W J n A → Calls Try.prog 4 #[flV tl rt dy fr to A n c, .string b] W fun e W' => e = .returned (.tuple #[.int .i64 V, .bool B, .int .i64 E]) ∧ ∃ x, W' = gx W x) ∧ (∀ W, TksAt W J n A → Calls Try.prog 5 #[flV tl rt dy fr to A n c, .string b] W fun e W' => e = .returned (.tuple #[.int .i64 V, .bool B, .int .i64 E]) ∧ ∃ x, W' = gx W x) ∧ (E = 0 → GoodFl tl rt dy fr to J n ∧ nameT b = true ∧ IsPk J n b fr to V B) ∧ (GoodFl tl rt dy fr to J n ∧ nameT b = true → E = 0) := by
  obtain ⟨E, C1, C2, hE⟩ := Flight_both tl rt dy fr to A n c J hF
  by_cases h0 : E = 0
  · subst h0
    have hg := hE.1 rfl
    cases hbn : nameT b with
    | false => exact ⟨0, false, 8, fun W hW => pPeak_b tl rt dy fr to A n c b W (Lib.hid fun W' hW' => C1 W' (hW.on hW')) (Lib.hid fun W' => (IsNameE_any b hb W').mono fun e w' h => ⟨h.1.trans (by rw [hbn]), h.2 ▸ Gx.refl _⟩), fun W hW => rPeak_b tl rt dy fr to A n c b W (Lib.hid fun W' hW' => C2 W' (hW.on hW')) (Lib.hid fun W' => (RIsNameT_any b hb W').mono fun e w' h => ⟨h.1.trans (by rw [hbn]), h.2⟩), fun h => absurd h (by decide), fun h => absurd h.2 (by first | decide | (rw [hbn]; decide))⟩
    | true =>
      obtain ⟨-, -, -, hf, -, hn30, hT⟩ := hg.out
      obtain ⟨V, B, hV⟩ := isPk_is J n b fr to hf hT
      refine ⟨V, B, 0, fun W hW => Peak_go tl rt dy fr to A n c J hF hg b hb hbn V B hV W hW, fun W hW => ?_, fun _ => ⟨hg, rfl, hV⟩, fun _ => rfl⟩
      exact rPeak_c tl rt dy fr to A n c b V B W (Lib.hid fun W' hW' => C2 W' (hW.on hW')) (Lib.hid fun W' => (RIsNameT_any b hb W').mono fun e w' h => ⟨h.1.trans (by rw [hbn]), h.2⟩) (Lib.hid fun W' hW' => Rpeak_any tl rt dy fr to A n c J b W' (hW.on hW') (by omega) hT.out.2.2 hT.size hf V B hV)
  · exact ⟨0, false, E, fun W hW => pPeak_a tl rt dy fr to A n c b E h0 W (Lib.hid fun W' hW' => C1 W' (hW.on hW')), fun W hW => rPeak_a tl rt dy fr to A n c b E h0 W (Lib.hid fun W' hW' => C2 W' (hW.on hW')), fun h => absurd h h0, fun h => absurd (hE.2 h.1) h0⟩
end Go.Proofs.Ytfbhjgaiejjfaaa
