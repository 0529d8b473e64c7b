/-
  Flights: what is wrong with one, both sides.
-/
import Derived.Test.YtfbhjgaiejjfaaaFTk
import Derived.Test.YtfbhjgaiejjfaaaFSm
namespace Go.Proofs.Ytfbhjgaiejjfaaa
open Go.RowKit
-- AT2
-- AT3

/-- Nothing is wrong with a list of tracks. -/
@[irreducible] def GoodTks (J : Nat → TkR) (n : Nat) : Prop := n ≤ 50 ∧ (∀ k, k < n → nameT (J k).s = true ∧ serE (J k).den (J k).f (J k).n = 0 ∧ 0 ≤ (J k).lg ∧ (J k).lg ≤ 1099511627776) ∧ ∀ j k, j < k → k < n → (J j).s ≠ (J k).s
theorem GoodTks.out {J : Nat → TkR} {n : Nat} (h : GoodTks J n) : n ≤ 50 ∧ (∀ k, k < n → nameT (J k).s = true ∧ serE (J k).den (J k).f (J k).n = 0 ∧ 0 ≤ (J k).lg ∧ (J k).lg ≤ 1099511627776) ∧ ∀ j k, j < k → k < n → (J j).s ≠ (J k).s := by unfold GoodTks at h; exact h
theorem firstOf_none {f : Nat → Int} : ∀ {n : Nat}, (∀ k, k < n → f k = 0) → firstOf f n = 0
  | 0, _ => firstOf_0 f
  | n + 1, h => by
    have h1 := firstOf_none (f := f) (n := n) fun k hk => h k (by omega)
    rw [firstOf_succ h1]; exact h n (by omega)
/-- CheckTracks of both sides: one answer, which is 0 where nothing is wrong. -/
theorem Tracks_both (J : Nat → TkR) (A : Option Addr) (n c : Nat) (hnc : n ≤ c ∧ c ≤ 9223372036854775807) (hs : ∀ k, k < n → (J k).s.size ≤ 9223372036854775807) : ∃ E : Int, (∀ W, TksAt W J n A → Calls Try.prog 17 #[.slice A n c] W fun e W' => e = .returned (.int .i64 E) ∧ ∃ x, W' = gx W x) ∧ (∀ W, TksAt W J n A → Calls Try.prog 25 #[.slice A n c] W fun e W' => e = .returned (.int .i64 E) ∧ ∃ x, W' = gx W x) ∧ (E = 0 ↔ GoodTks J n) := by
  by_cases hn : n ≤ 50
  · obtain ⟨R, hR⟩ := Classical.axiomOfChoice (fun k => numT_is J k (J k).s)
    have hD : ∀ k, k < n → (decide (0 ≤ R k) = true ∧ ∃ j, j < k ∧ (J j).s = (J k).s ∧ ∀ i, i < j → (J i).s ≠ (J k).s) ∨ (decide (0 ≤ R k) = false ∧ ∀ j, j < k → (J j).s ≠ (J k).s) := fun k _ => by
      rcases hR k with ⟨K, h1, h2, h3, h4⟩ | ⟨h1, h2⟩
      · exact .inl ⟨decide_eq_true (by omega), K, h1, h2, h3⟩
      · exact .inr ⟨decide_eq_false (by omega), h1⟩
    refine ⟨firstOf (badT (fun k => nameT (J k).s) (fun k => decide (0 ≤ R k)) (fun k => serE (J k).den (J k).f (J k).n) fun k => (J k).lg) n, fun W hW => ?_, fun W hW => ?_, ?_, ?_⟩
    · exact Tracks_loop J A n c hnc.1 _ _ _ R W hW hn (Lib.hid fun k hk W' => (IsNameE_any _ (hs k hk) W').mono fun e w' h => ⟨h.1, h.2 ▸ Gx.refl _⟩) (Lib.hid fun k hk W' hW' => Check_any _ _ _ _ _ W' ((hW.on hW').sm hk)) (Lib.hid fun k hk W' hW' => TrackNumber_any J A k c _ (R k) (hR k) W' ((hW.on hW').less (by omega)) (by omega)) (Lib.hid fun k hk => rfl)
    · exact RTracks_loop J A n c hnc.1 _ _ _ W hW hn (Lib.hid fun k hk W' => RIsNameT_any _ (hs k hk) W') (Lib.hid fun k hk W' hW' => RCheck_any _ _ _ _ _ W' ((hW.on hW').sm hk)) (Lib.hid hD)
    · intro h0
      unfold GoodTks
      refine ⟨hn, fun k hk => ?_, fun j k hj hk => ?_⟩
      · obtain ⟨h1, -, h3, h4⟩ := badT_all (firstOf_all h0 k hk)
        exact ⟨h1, h3, h4⟩
      · obtain ⟨-, h2, -⟩ := badT_all (firstOf_all h0 k hk)
        rcases hD k hk with ⟨h, -⟩ | ⟨-, h⟩
        · rw [h] at h2; exact absurd h2 (by decide)
        · exact h j hj
    · intro hg
      obtain ⟨-, h1, h2⟩ := hg.out
      refine firstOf_none fun k hk => ?_
      obtain ⟨a1, a2, a3⟩ := h1 k hk
      refine badT_0 a1 ?_ a2 a3
      rcases hD k hk with ⟨-, j, hj, he, -⟩ | ⟨h, -⟩
      · exact absurd he (h2 j k hj hk)
      · exact h
  · exact ⟨3, fun W _ => Tracks_big A n c W (by omega), fun W _ => RTracks_big A n c W (by omega), fun h => absurd h (by decide), fun h => absurd h.out.1 hn⟩
theorem str_some {s : ByteArray} (h : 0 < s.size) : (s.toList == []) = false ∧ ([] == s.toList) = false := by
  have e : s.toList ≠ [] := by
    intro e
    have h1 : s.toList.length = s.size := by rw [ByteArray.toList_eq, Array.length_toList]; rfl
    rw [e] at h1
    simp at h1
    omega
  exact ⟨beq_eq_false_iff_ne.2 e, beq_eq_false_iff_ne.2 (Ne.symm e)⟩
theorem str_none {s : ByteArray} (h : s.size = 0) : (s.toList == []) = true ∧ ([] == s.toList) = true := by
  have e : s.toList = [] := by
    have h1 : s.toList.length = s.size := by rw [ByteArray.toList_eq, Array.length_toList]; rfl
    exact List.length_eq_zero_iff.1 (h1.trans h)
  rw [e]; exact ⟨rfl, rfl⟩
abbrev flV (tl rt : ByteArray) (dy fr to : Int) (A : Option Addr) (n c : Nat) : Value := .agg #[.string tl, .string rt, .int .i64 dy, .int .i64 fr, .int .i64 to, .slice A n c]
/-- What is wrong with a flight. -/
@[irreducible] def flE (te nt nr : Bool) (dy fr to : Int) (n : Nat) (E : Int) : Int := if (te = false ∧ nt = false) ∨ nr = false then 8 else if dy < 0 ∨ 1000000 < dy ∨ fr < 0 ∨ to < fr ∨ 4194304 ≤ to then 9 else if 20000 ≤ to - fr ∨ 30 < n then 3 else E
theorem flE_8 {te nt nr : Bool} {dy fr to : Int} {n : Nat} {E : Int} (h : (te = false ∧ nt = false) ∨ nr = false) : flE te nt nr dy fr to n E = 8 := by unfold flE; rw [if_pos h]
theorem flE_9 {te nt nr : Bool} {dy fr to : Int} {n : Nat} {E : Int} (h : te = true ∨ nt = true) (hr : nr = true) (h2 : dy < 0 ∨ 1000000 < dy ∨ fr < 0 ∨ to < fr ∨ 4194304 ≤ to) : flE te nt nr dy fr to n E = 9 := by
  unfold flE; rw [if_neg (by subst hr; rcases h with rfl | rfl <;> simp), if_pos h2]
theorem flE_3 {te nt nr : Bool} {dy fr to : Int} {n : Nat} {E : Int} (h : te = true ∨ nt = true) (hr : nr = true) (h2 : ¬ (dy < 0 ∨ 1000000 < dy ∨ fr < 0 ∨ to < fr ∨ 4194304 ≤ to)) (h3 : 20000 ≤ to - fr ∨ 30 < n) : flE te nt nr dy fr to n E = 3 := by
  unfold flE; rw [if_neg (by subst hr; rcases h with rfl | rfl <;> simp), if_neg h2, if_pos h3]
theorem flE_E {te nt nr : Bool} {dy fr to : Int} {n : Nat} {E : Int} (h : te = true ∨ nt = true) (hr : nr = true) (h2 : ¬ (dy < 0 ∨ 1000000 < dy ∨ fr < 0 ∨ to < fr ∨ 4194304 ≤ to)) (h3 : ¬ (20000 ≤ to - fr ∨ 30 < n)) : flE te nt nr dy fr to n E = E := by
  unfold flE; rw [if_neg (by subst hr; rcases h with rfl | rfl <;> simp), if_neg h2, if_neg h3]
theorem flE_all {te nt nr : Bool} {dy fr to : Int} {n : Nat} {E : Int} (h : flE te nt nr dy fr to n E = 0) : (te = true ∨ nt = true) ∧ nr = true ∧ 0 ≤ dy ∧ dy ≤ 1000000 ∧ 0 ≤ fr ∧ fr ≤ to ∧ to < 4194304 ∧ to - fr < 20000 ∧ n ≤ 30 ∧ E = 0 := by
  unfold flE at h
  split at h
  · exact absurd h (by decide)
  split at h
  · exact absurd h (by decide)
  split at h
  · exact absurd h (by decide)
  rename_i h1 h2 h3
  refine ⟨?_, ?_, by omega, by omega, by omega, by omega, by omega, by omega, by omega, h⟩
  · cases te <;> cases nt <;> simp_all
  · cases nr <;> simp_all
set_option maxHeartbeats 4000000 in
set_option maxRecDepth 100000 in
theorem pfl_n1 (tl rt : ByteArray) (dy fr to : Int) (A : Option Addr) (n c : Nat) (nt nr : Bool) (w : World) (H1 : Hid (∀ W, Calls Try.prog 9 #[.string tl] W fun e W' => e = .returned (.bool nt) ∧ ∃ x, W' = gx W x)) (H2 : Hid (∀ W, Calls Try.prog 9 #[.string rt] W fun e W' => e = .returned (.bool nr) ∧ ∃ x, W' = gx W x)) (hc : 0 < tl.size ∧ nt = false) :
    Calls Try.prog 8 #[flV tl rt dy fr to A n c] w fun e w' => e = .returned (.int .i64 8) ∧ ∃ x, w' = gx w x := by
  obtain ⟨hT, rfl⟩ := hc
  obtain ⟨s1, s2⟩ := str_some hT
  clear hT
  go_enter Try.func8, Try.ntmps8
  go_wp2_with (first | go_skip | (go_at_call 9; with_reducible refine (H1.out _).mono ?_; rintro e w' ⟨rfl, x1, rfl⟩) | (go_at_call 9; with_reducible refine (H2.out _).mono ?_; rintro e w' ⟨rfl, x2, rfl⟩))
  go_ret
  exact ⟨rfl, (by repeat (first | (with_reducible exact Gx.refl _) | (with_reducible assumption) | (with_reducible refine Gx.gx ?_) | (with_reducible refine Gx.alloc ?_) | (with_reducible refine Gx.drew ?_) | (with_reducible refine Gx.drewN ?_) | (with_reducible refine Gx.setRow ?_ (by first | omega | (simp; done) | (simp <;> omega))) | (with_reducible refine Gx.setCell ?_ (by first | omega | (simp; done) | (simp <;> omega)))))⟩
set_option maxHeartbeats 4000000 in
set_option maxRecDepth 100000 in
theorem pfl_n2 (tl rt : ByteArray) (dy fr to : Int) (A : Option Addr) (n c : Nat) (nt nr : Bool) (w : World) (H1 : Hid (∀ W, Calls Try.prog 9 #[.string tl] W fun e W' => e = .returned (.bool nt) ∧ ∃ x, W' = gx W x)) (H2 : Hid (∀ W, Calls Try.prog 9 #[.string rt] W fun e W' => e = .returned (.bool nr) ∧ ∃ x, W' = gx W x)) (hc : (tl.size = 0 ∨ (0 < tl.size ∧ nt = true)) ∧ nr = false) :
    Calls Try.prog 8 #[flV tl rt dy fr to A n c] w fun e w' => e = .returned (.int .i64 8) ∧ ∃ x, w' = gx w x := by
  obtain ⟨hT, rfl⟩ := hc
  rcases hT with hT | ⟨hT, rfl⟩
  · obtain ⟨s1, s2⟩ := str_none hT
    clear hT
    go_enter Try.func8, Try.ntmps8
    go_wp2_with (first | go_skip | (go_at_call 9; with_reducible refine (H1.out _).mono ?_; rintro e w' ⟨rfl, x1, rfl⟩) | (go_at_call 9; with_reducible refine (H2.out _).mono ?_; rintro e w' ⟨rfl, x2, rfl⟩))
    go_ret
    exact ⟨rfl, (by repeat (first | (with_reducible exact Gx.refl _) | (with_reducible assumption) | (with_reducible refine Gx.gx ?_) | (with_reducible refine Gx.alloc ?_) | (with_reducible refine Gx.drew ?_) | (with_reducible refine Gx.drewN ?_) | (with_reducible refine Gx.setRow ?_ (by first | omega | (simp; done) | (simp <;> omega))) | (with_reducible refine Gx.setCell ?_ (by first | omega | (simp; done) | (simp <;> omega)))))⟩
  · obtain ⟨s1, s2⟩ := str_some hT
    clear hT
    go_enter Try.func8, Try.ntmps8
    go_wp2_with (first | go_skip | (go_at_call 9; with_reducible refine (H1.out _).mono ?_; rintro e w' ⟨rfl, x1, rfl⟩) | (go_at_call 9; with_reducible refine (H2.out _).mono ?_; rintro e w' ⟨rfl, x2, rfl⟩))
    go_ret
    exact ⟨rfl, (by repeat (first | (with_reducible exact Gx.refl _) | (with_reducible assumption) | (with_reducible refine Gx.gx ?_) | (with_reducible refine Gx.alloc ?_) | (with_reducible refine Gx.drew ?_) | (with_reducible refine Gx.drewN ?_) | (with_reducible refine Gx.setRow ?_ (by first | omega | (simp; done) | (simp <;> omega))) | (with_reducible refine Gx.setCell ?_ (by first | omega | (simp; done) | (simp <;> omega)))))⟩
set_option maxHeartbeats 4000000 in
set_option maxRecDepth 100000 in
theorem pfl_a (tl rt : ByteArray) (dy fr to : Int) (A : Option Addr) (n c : Nat) (nt nr : Bool) (w : World) (H1 : Hid (∀ W, Calls Try.prog 9 #[.string tl] W fun e W' => e = .returned (.bool nt) ∧ ∃ x, W' = gx W x)) (H2 : Hid (∀ W, Calls Try.prog 9 #[.string rt] W fun e W' => e = .returned (.bool nr) ∧ ∃ x, W' = gx W x)) (hT : tl.size = 0 ∨ (0 < tl.size ∧ nt = true)) (hr : nr = true) (hc : dy < 0) :
    Calls Try.prog 8 #[flV tl rt dy fr to A n c] w fun e w' => e = .returned (.int .i64 9) ∧ ∃ x, w' = gx w x := by
  subst hr
  rcases hT with hT | ⟨hT, rfl⟩
  · obtain ⟨s1, s2⟩ := str_none hT
    have k0 : decide (dy < 0) = true := decide_eq_true (by omega)
    clear hT hc
    go_enter Try.func8, Try.ntmps8
    go_wp2_with (first | go_skip | (go_at_call 9; with_reducible refine (H1.out _).mono ?_; rintro e w' ⟨rfl, x1, rfl⟩) | (go_at_call 9; with_reducible refine (H2.out _).mono ?_; rintro e w' ⟨rfl, x2, rfl⟩))
    go_ret
    exact ⟨rfl, (by repeat (first | (with_reducible exact Gx.refl _) | (with_reducible assumption) | (with_reducible refine Gx.gx ?_) | (with_reducible refine Gx.alloc ?_) | (with_reducible refine Gx.drew ?_) | (with_reducible refine Gx.drewN ?_) | (with_reducible refine Gx.setRow ?_ (by first | omega | (simp; done) | (simp <;> omega))) | (with_reducible refine Gx.setCell ?_ (by first | omega | (simp; done) | (simp <;> omega)))))⟩
  · obtain ⟨s1, s2⟩ := str_some hT
    have k0 : decide (dy < 0) = true := decide_eq_true (by omega)
    clear hT hc
    go_enter Try.func8, Try.ntmps8
    go_wp2_with (first | go_skip | (go_at_call 9; with_reducible refine (H1.out _).mono ?_; rintro e w' ⟨rfl, x1, rfl⟩) | (go_at_call 9; with_reducible refine (H2.out _).mono ?_; rintro e w' ⟨rfl, x2, rfl⟩))
    go_ret
    exact ⟨rfl, (by repeat (first | (with_reducible exact Gx.refl _) | (with_reducible assumption) | (with_reducible refine Gx.gx ?_) | (with_reducible refine Gx.alloc ?_) | (with_reducible refine Gx.drew ?_) | (with_reducible refine Gx.drewN ?_) | (with_reducible refine Gx.setRow ?_ (by first | omega | (simp; done) | (simp <;> omega))) | (with_reducible refine Gx.setCell ?_ (by first | omega | (simp; done) | (simp <;> omega)))))⟩
set_option maxHeartbeats 4000000 in
set_option maxRecDepth 100000 in
theorem pfl_b (tl rt : ByteArray) (dy fr to : Int) (A : Option Addr) (n c : Nat) (nt nr : Bool) (w : World) (H1 : Hid (∀ W, Calls Try.prog 9 #[.string tl] W fun e W' => e = .returned (.bool nt) ∧ ∃ x, W' = gx W x)) (H2 : Hid (∀ W, Calls Try.prog 9 #[.string rt] W fun e W' => e = .returned (.bool nr) ∧ ∃ x, W' = gx W x)) (hT : tl.size = 0 ∨ (0 < tl.size ∧ nt = true)) (hr : nr = true) (hc : 0 ≤ dy ∧ 1000000 < dy) :
    Calls Try.prog 8 #[flV tl rt dy fr to A n c] w fun e w' => e = .returned (.int .i64 9) ∧ ∃ x, w' = gx w x := by
  subst hr
  rcases hT with hT | ⟨hT, rfl⟩
  · obtain ⟨s1, s2⟩ := str_none hT
    have k0 : decide (dy < 0) = false := decide_eq_false (by omega)
    have k1 : decide (1000000 < dy) = true := decide_eq_true (by omega)
    clear hT hc
    go_enter Try.func8, Try.ntmps8
    go_wp2_with (first | go_skip | (go_at_call 9; with_reducible refine (H1.out _).mono ?_; rintro e w' ⟨rfl, x1, rfl⟩) | (go_at_call 9; with_reducible refine (H2.out _).mono ?_; rintro e w' ⟨rfl, x2, rfl⟩))
    go_ret
    exact ⟨rfl, (by repeat (first | (with_reducible exact Gx.refl _) | (with_reducible assumption) | (with_reducible refine Gx.gx ?_) | (with_reducible refine Gx.alloc ?_) | (with_reducible refine Gx.drew ?_) | (with_reducible refine Gx.drewN ?_) | (with_reducible refine Gx.setRow ?_ (by first | omega | (simp; done) | (simp <;> omega))) | (with_reducible refine Gx.setCell ?_ (by first | omega | (simp; done) | (simp <;> omega)))))⟩
  · obtain ⟨s1, s2⟩ := str_some hT
    have k0 : decide (dy < 0) = false := decide_eq_false (by omega)
    have k1 : decide (1000000 < dy) = true := decide_eq_true (by omega)
    clear hT hc
    go_enter Try.func8, Try.ntmps8
    go_wp2_with (first | go_skip | (go_at_call 9; with_reducible refine (H1.out _).mono ?_; rintro e w' ⟨rfl, x1, rfl⟩) | (go_at_call 9; with_reducible refine (H2.out _).mono ?_; rintro e w' ⟨rfl, x2, rfl⟩))
    go_ret
    exact ⟨rfl, (by repeat (first | (with_reducible exact Gx.refl _) | (with_reducible assumption) | (with_reducible refine Gx.gx ?_) | (with_reducible refine Gx.alloc ?_) | (with_reducible refine Gx.drew ?_) | (with_reducible refine Gx.drewN ?_) | (with_reducible refine Gx.setRow ?_ (by first | omega | (simp; done) | (simp <;> omega))) | (with_reducible refine Gx.setCell ?_ (by first | omega | (simp; done) | (simp <;> omega)))))⟩
set_option maxHeartbeats 4000000 in
set_option maxRecDepth 100000 in
theorem pfl_c (tl rt : ByteArray) (dy fr to : Int) (A : Option Addr) (n c : Nat) (nt nr : Bool) (w : World) (H1 : Hid (∀ W, Calls Try.prog 9 #[.string tl] W fun e W' => e = .returned (.bool nt) ∧ ∃ x, W' = gx W x)) (H2 : Hid (∀ W, Calls Try.prog 9 #[.string rt] W fun e W' => e = .returned (.bool nr) ∧ ∃ x, W' = gx W x)) (hT : tl.size = 0 ∨ (0 < tl.size ∧ nt = true)) (hr : nr = true) (hc : 0 ≤ dy ∧ dy ≤ 1000000 ∧ fr < 0) :
    Calls Try.prog 8 #[flV tl rt dy fr to A n c] w fun e w' => e = .returned (.int .i64 9) ∧ ∃ x, w' = gx w x := by
  subst hr
  rcases hT with hT | ⟨hT, rfl⟩
  · obtain ⟨s1, s2⟩ := str_none hT
    have k0 : decide (dy < 0) = false := decide_eq_false (by omega)
    have k1 : decide (1000000 < dy) = false := decide_eq_false (by omega)
    have k2 : decide (fr < 0) = true := decide_eq_true (by omega)
    clear hT hc
    go_enter Try.func8, Try.ntmps8
    go_wp2_with (first | go_skip | (go_at_call 9; with_reducible refine (H1.out _).mono ?_; rintro e w' ⟨rfl, x1, rfl⟩) | (go_at_call 9; with_reducible refine (H2.out _).mono ?_; rintro e w' ⟨rfl, x2, rfl⟩))
    go_ret
    exact ⟨rfl, (by repeat (first | (with_reducible exact Gx.refl _) | (with_reducible assumption) | (with_reducible refine Gx.gx ?_) | (with_reducible refine Gx.alloc ?_) | (with_reducible refine Gx.drew ?_) | (with_reducible refine Gx.drewN ?_) | (with_reducible refine Gx.setRow ?_ (by first | omega | (simp; done) | (simp <;> omega))) | (with_reducible refine Gx.setCell ?_ (by first | omega | (simp; done) | (simp <;> omega)))))⟩
  · obtain ⟨s1, s2⟩ := str_some hT
    have k0 : decide (dy < 0) = false := decide_eq_false (by omega)
    have k1 : decide (1000000 < dy) = false := decide_eq_false (by omega)
    have k2 : decide (fr < 0) = true := decide_eq_true (by omega)
    clear hT hc
    go_enter Try.func8, Try.ntmps8
    go_wp2_with (first | go_skip | (go_at_call 9; with_reducible refine (H1.out _).mono ?_; rintro e w' ⟨rfl, x1, rfl⟩) | (go_at_call 9; with_reducible refine (H2.out _).mono ?_; rintro e w' ⟨rfl, x2, rfl⟩))
    go_ret
    exact ⟨rfl, (by repeat (first | (with_reducible exact Gx.refl _) | (with_reducible assumption) | (with_reducible refine Gx.gx ?_) | (with_reducible refine Gx.alloc ?_) | (with_reducible refine Gx.drew ?_) | (with_reducible refine Gx.drewN ?_) | (with_reducible refine Gx.setRow ?_ (by first | omega | (simp; done) | (simp <;> omega))) | (with_reducible refine Gx.setCell ?_ (by first | omega | (simp; done) | (simp <;> omega)))))⟩
set_option maxHeartbeats 4000000 in
set_option maxRecDepth 100000 in
theorem pfl_d (tl rt : ByteArray) (dy fr to : Int) (A : Option Addr) (n c : Nat) (nt nr : Bool) (w : World) (H1 : Hid (∀ W, Calls Try.prog 9 #[.string tl] W fun e W' => e = .returned (.bool nt) ∧ ∃ x, W' = gx W x)) (H2 : Hid (∀ W, Calls Try.prog 9 #[.string rt] W fun e W' => e = .returned (.bool nr) ∧ ∃ x, W' = gx W x)) (hT : tl.size = 0 ∨ (0 < tl.size ∧ nt = true)) (hr : nr = true) (hc : 0 ≤ dy ∧ dy ≤ 1000000 ∧ 0 ≤ fr ∧ to < fr) :
    Calls Try.prog 8 #[flV tl rt dy fr to A n c] w fun e w' => e = .returned (.int .i64 9) ∧ ∃ x, w' = gx w x := by
  subst hr
  rcases hT with hT | ⟨hT, rfl⟩
  · obtain ⟨s1, s2⟩ := str_none hT
    have k0 : decide (dy < 0) = false := decide_eq_false (by omega)
    have k1 : decide (1000000 < dy) = false := decide_eq_false (by omega)
    have k2 : decide (fr < 0) = false := decide_eq_false (by omega)
    have k3 : decide (to < fr) = true := decide_eq_true (by omega)
    clear hT hc
    go_enter Try.func8, Try.ntmps8
    go_wp2_with (first | go_skip | (go_at_call 9; with_reducible refine (H1.out _).mono ?_; rintro e w' ⟨rfl, x1, rfl⟩) | (go_at_call 9; with_reducible refine (H2.out _).mono ?_; rintro e w' ⟨rfl, x2, rfl⟩))
    go_ret
    exact ⟨rfl, (by repeat (first | (with_reducible exact Gx.refl _) | (with_reducible assumption) | (with_reducible refine Gx.gx ?_) | (with_reducible refine Gx.alloc ?_) | (with_reducible refine Gx.drew ?_) | (with_reducible refine Gx.drewN ?_) | (with_reducible refine Gx.setRow ?_ (by first | omega | (simp; done) | (simp <;> omega))) | (with_reducible refine Gx.setCell ?_ (by first | omega | (simp; done) | (simp <;> omega)))))⟩
  · obtain ⟨s1, s2⟩ := str_some hT
    have k0 : decide (dy < 0) = false := decide_eq_false (by omega)
    have k1 : decide (1000000 < dy) = false := decide_eq_false (by omega)
    have k2 : decide (fr < 0) = false := decide_eq_false (by omega)
    have k3 : decide (to < fr) = true := decide_eq_true (by omega)
    clear hT hc
    go_enter Try.func8, Try.ntmps8
    go_wp2_with (first | go_skip | (go_at_call 9; with_reducible refine (H1.out _).mono ?_; rintro e w' ⟨rfl, x1, rfl⟩) | (go_at_call 9; with_reducible refine (H2.out _).mono ?_; rintro e w' ⟨rfl, x2, rfl⟩))
    go_ret
    exact ⟨rfl, (by repeat (first | (with_reducible exact Gx.refl _) | (with_reducible assumption) | (with_reducible refine Gx.gx ?_) | (with_reducible refine Gx.alloc ?_) | (with_reducible refine Gx.drew ?_) | (with_reducible refine Gx.drewN ?_) | (with_reducible refine Gx.setRow ?_ (by first | omega | (simp; done) | (simp <;> omega))) | (with_reducible refine Gx.setCell ?_ (by first | omega | (simp; done) | (simp <;> omega)))))⟩
set_option maxHeartbeats 4000000 in
set_option maxRecDepth 100000 in
theorem pfl_e (tl rt : ByteArray) (dy fr to : Int) (A : Option Addr) (n c : Nat) (nt nr : Bool) (w : World) (H1 : Hid (∀ W, Calls Try.prog 9 #[.string tl] W fun e W' => e = .returned (.bool nt) ∧ ∃ x, W' = gx W x)) (H2 : Hid (∀ W, Calls Try.prog 9 #[.string rt] W fun e W' => e = .returned (.bool nr) ∧ ∃ x, W' = gx W x)) (hT : tl.size = 0 ∨ (0 < tl.size ∧ nt = true)) (hr : nr = true) (hc : 0 ≤ dy ∧ dy ≤ 1000000 ∧ 0 ≤ fr ∧ fr ≤ to ∧ 4194304 ≤ to) :
    Calls Try.prog 8 #[flV tl rt dy fr to A n c] w fun e w' => e = .returned (.int .i64 9) ∧ ∃ x, w' = gx w x := by
  subst hr
  rcases hT with hT | ⟨hT, rfl⟩
  · obtain ⟨s1, s2⟩ := str_none hT
    have k0 : decide (dy < 0) = false := decide_eq_false (by omega)
    have k1 : decide (1000000 < dy) = false := decide_eq_false (by omega)
    have k2 : decide (fr < 0) = false := decide_eq_false (by omega)
    have k3 : decide (to < fr) = false := decide_eq_false (by omega)
    have k4 : decide (4194304 ≤ to) = true := decide_eq_true (by omega)
    clear hT hc
    go_enter Try.func8, Try.ntmps8
    go_wp2_with (first | go_skip | (go_at_call 9; with_reducible refine (H1.out _).mono ?_; rintro e w' ⟨rfl, x1, rfl⟩) | (go_at_call 9; with_reducible refine (H2.out _).mono ?_; rintro e w' ⟨rfl, x2, rfl⟩))
    go_ret
    exact ⟨rfl, (by repeat (first | (with_reducible exact Gx.refl _) | (with_reducible assumption) | (with_reducible refine Gx.gx ?_) | (with_reducible refine Gx.alloc ?_) | (with_reducible refine Gx.drew ?_) | (with_reducible refine Gx.drewN ?_) | (with_reducible refine Gx.setRow ?_ (by first | omega | (simp; done) | (simp <;> omega))) | (with_reducible refine Gx.setCell ?_ (by first | omega | (simp; done) | (simp <;> omega)))))⟩
  · obtain ⟨s1, s2⟩ := str_some hT
    have k0 : decide (dy < 0) = false := decide_eq_false (by omega)
    have k1 : decide (1000000 < dy) = false := decide_eq_false (by omega)
    have k2 : decide (fr < 0) = false := decide_eq_false (by omega)
    have k3 : decide (to < fr) = false := decide_eq_false (by omega)
    have k4 : decide (4194304 ≤ to) = true := decide_eq_true (by omega)
    clear hT hc
    go_enter Try.func8, Try.ntmps8
    go_wp2_with (first | go_skip | (go_at_call 9; with_reducible refine (H1.out _).mono ?_; rintro e w' ⟨rfl, x1, rfl⟩) | (go_at_call 9; with_reducible refine (H2.out _).mono ?_; rintro e w' ⟨rfl, x2, rfl⟩))
    go_ret
    exact ⟨rfl, (by repeat (first | (with_reducible exact Gx.refl _) | (with_reducible assumption) | (with_reducible refine Gx.gx ?_) | (with_reducible refine Gx.alloc ?_) | (with_reducible refine Gx.drew ?_) | (with_reducible refine Gx.drewN ?_) | (with_reducible refine Gx.setRow ?_ (by first | omega | (simp; done) | (simp <;> omega))) | (with_reducible refine Gx.setCell ?_ (by first | omega | (simp; done) | (simp <;> omega)))))⟩
set_option maxHeartbeats 4000000 in
set_option maxRecDepth 100000 in
theorem pfl_f (tl rt : ByteArray) (dy fr to : Int) (A : Option Addr) (n c : Nat) (nt nr : Bool) (w : World) (H1 : Hid (∀ W, Calls Try.prog 9 #[.string tl] W fun e W' => e = .returned (.bool nt) ∧ ∃ x, W' = gx W x)) (H2 : Hid (∀ W, Calls Try.prog 9 #[.string rt] W fun e W' => e = .returned (.bool nr) ∧ ∃ x, W' = gx W x)) (hT : tl.size = 0 ∨ (0 < tl.size ∧ nt = true)) (hr : nr = true) (hc : 0 ≤ dy ∧ dy ≤ 1000000 ∧ 0 ≤ fr ∧ fr ≤ to ∧ to < 4194304 ∧ 20000 ≤ to - fr) :
    Calls Try.prog 8 #[flV tl rt dy fr to A n c] w fun e w' => e = .returned (.int .i64 3) ∧ ∃ x, w' = gx w x := by
  subst hr
  rcases hT with hT | ⟨hT, rfl⟩
  · obtain ⟨s1, s2⟩ := str_none hT
    have k0 : decide (dy < 0) = false := decide_eq_false (by omega)
    have k1 : decide (1000000 < dy) = false := decide_eq_false (by omega)
    have k2 : decide (fr < 0) = false := decide_eq_false (by omega)
    have k3 : decide (to < fr) = false := decide_eq_false (by omega)
    have k4 : decide (4194304 ≤ to) = false := decide_eq_false (by omega)
    have k5 : IntKind.i64.wrap (to - fr) = to - fr := IntWalk.i64_in _ (by omega)
    have k6 : decide (20000 ≤ to - fr) = true := decide_eq_true (by omega)
    clear hT hc
    go_enter Try.func8, Try.ntmps8
    go_wp2_with (first | go_skip | (go_at_call 9; with_reducible refine (H1.out _).mono ?_; rintro e w' ⟨rfl, x1, rfl⟩) | (go_at_call 9; with_reducible refine (H2.out _).mono ?_; rintro e w' ⟨rfl, x2, rfl⟩))
    go_ret
    exact ⟨rfl, (by repeat (first | (with_reducible exact Gx.refl _) | (with_reducible assumption) | (with_reducible refine Gx.gx ?_) | (with_reducible refine Gx.alloc ?_) | (with_reducible refine Gx.drew ?_) | (with_reducible refine Gx.drewN ?_) | (with_reducible refine Gx.setRow ?_ (by first | omega | (simp; done) | (simp <;> omega))) | (with_reducible refine Gx.setCell ?_ (by first | omega | (simp; done) | (simp <;> omega)))))⟩
  · obtain ⟨s1, s2⟩ := str_some hT
    have k0 : decide (dy < 0) = false := decide_eq_false (by omega)
    have k1 : decide (1000000 < dy) = false := decide_eq_false (by omega)
    have k2 : decide (fr < 0) = false := decide_eq_false (by omega)
    have k3 : decide (to < fr) = false := decide_eq_false (by omega)
    have k4 : decide (4194304 ≤ to) = false := decide_eq_false (by omega)
    have k5 : IntKind.i64.wrap (to - fr) = to - fr := IntWalk.i64_in _ (by omega)
    have k6 : decide (20000 ≤ to - fr) = true := decide_eq_true (by omega)
    clear hT hc
    go_enter Try.func8, Try.ntmps8
    go_wp2_with (first | go_skip | (go_at_call 9; with_reducible refine (H1.out _).mono ?_; rintro e w' ⟨rfl, x1, rfl⟩) | (go_at_call 9; with_reducible refine (H2.out _).mono ?_; rintro e w' ⟨rfl, x2, rfl⟩))
    go_ret
    exact ⟨rfl, (by repeat (first | (with_reducible exact Gx.refl _) | (with_reducible assumption) | (with_reducible refine Gx.gx ?_) | (with_reducible refine Gx.alloc ?_) | (with_reducible refine Gx.drew ?_) | (with_reducible refine Gx.drewN ?_) | (with_reducible refine Gx.setRow ?_ (by first | omega | (simp; done) | (simp <;> omega))) | (with_reducible refine Gx.setCell ?_ (by first | omega | (simp; done) | (simp <;> omega)))))⟩
set_option maxHeartbeats 4000000 in
set_option maxRecDepth 100000 in
theorem pfl_g (tl rt : ByteArray) (dy fr to : Int) (A : Option Addr) (n c : Nat) (nt nr : Bool) (w : World) (H1 : Hid (∀ W, Calls Try.prog 9 #[.string tl] W fun e W' => e = .returned (.bool nt) ∧ ∃ x, W' = gx W x)) (H2 : Hid (∀ W, Calls Try.prog 9 #[.string rt] W fun e W' => e = .returned (.bool nr) ∧ ∃ x, W' = gx W x)) (hT : tl.size = 0 ∨ (0 < tl.size ∧ nt = true)) (hr : nr = true) (hc : 0 ≤ dy ∧ dy ≤ 1000000 ∧ 0 ≤ fr ∧ fr ≤ to ∧ to < 4194304 ∧ to - fr < 20000 ∧ 30 < n) :
    Calls Try.prog 8 #[flV tl rt dy fr to A n c] w fun e w' => e = .returned (.int .i64 3) ∧ ∃ x, w' = gx w x := by
  subst hr
  rcases hT with hT | ⟨hT, rfl⟩
  · obtain ⟨s1, s2⟩ := str_none hT
    have k0 : decide (dy < 0) = false := decide_eq_false (by omega)
    have k1 : decide (1000000 < dy) = false := decide_eq_false (by omega)
    have k2 : decide (fr < 0) = false := decide_eq_false (by omega)
    have k3 : decide (to < fr) = false := decide_eq_false (by omega)
    have k4 : decide (4194304 ≤ to) = false := decide_eq_false (by omega)
    have k5 : IntKind.i64.wrap (to - fr) = to - fr := IntWalk.i64_in _ (by omega)
    have k6 : decide (20000 ≤ to - fr) = false := decide_eq_false (by omega)
    have k7 : decide (30 < (n : Int)) = true := decide_eq_true (by omega)
    clear hT hc
    go_enter Try.func8, Try.ntmps8
    go_wp2_with (first | go_skip | (go_at_call 9; with_reducible refine (H1.out _).mono ?_; rintro e w' ⟨rfl, x1, rfl⟩) | (go_at_call 9; with_reducible refine (H2.out _).mono ?_; rintro e w' ⟨rfl, x2, rfl⟩))
    go_ret
    exact ⟨rfl, (by repeat (first | (with_reducible exact Gx.refl _) | (with_reducible assumption) | (with_reducible refine Gx.gx ?_) | (with_reducible refine Gx.alloc ?_) | (with_reducible refine Gx.drew ?_) | (with_reducible refine Gx.drewN ?_) | (with_reducible refine Gx.setRow ?_ (by first | omega | (simp; done) | (simp <;> omega))) | (with_reducible refine Gx.setCell ?_ (by first | omega | (simp; done) | (simp <;> omega)))))⟩
  · obtain ⟨s1, s2⟩ := str_some hT
    have k0 : decide (dy < 0) = false := decide_eq_false (by omega)
    have k1 : decide (1000000 < dy) = false := decide_eq_false (by omega)
    have k2 : decide (fr < 0) = false := decide_eq_false (by omega)
    have k3 : decide (to < fr) = false := decide_eq_false (by omega)
    have k4 : decide (4194304 ≤ to) = false := decide_eq_false (by omega)
    have k5 : IntKind.i64.wrap (to - fr) = to - fr := IntWalk.i64_in _ (by omega)
    have k6 : decide (20000 ≤ to - fr) = false := decide_eq_false (by omega)
    have k7 : decide (30 < (n : Int)) = true := decide_eq_true (by omega)
    clear hT hc
    go_enter Try.func8, Try.ntmps8
    go_wp2_with (first | go_skip | (go_at_call 9; with_reducible refine (H1.out _).mono ?_; rintro e w' ⟨rfl, x1, rfl⟩) | (go_at_call 9; with_reducible refine (H2.out _).mono ?_; rintro e w' ⟨rfl, x2, rfl⟩))
    go_ret
    exact ⟨rfl, (by repeat (first | (with_reducible exact Gx.refl _) | (with_reducible assumption) | (with_reducible refine Gx.gx ?_) | (with_reducible refine Gx.alloc ?_) | (with_reducible refine Gx.drew ?_) | (with_reducible refine Gx.drewN ?_) | (with_reducible refine Gx.setRow ?_ (by first | omega | (simp; done) | (simp <;> omega))) | (with_reducible refine Gx.setCell ?_ (by first | omega | (simp; done) | (simp <;> omega)))))⟩
set_option maxHeartbeats 4000000 in
set_option maxRecDepth 100000 in
theorem pfl_h (tl rt : ByteArray) (dy fr to : Int) (A : Option Addr) (n c : Nat) (nt nr : Bool) (E : Int) (w : World) (H1 : Hid (∀ W, Calls Try.prog 9 #[.string tl] W fun e W' => e = .returned (.bool nt) ∧ ∃ x, W' = gx W x)) (H2 : Hid (∀ W, Calls Try.prog 9 #[.string rt] W fun e W' => e = .returned (.bool nr) ∧ ∃ x, W' = gx W x)) (H3 : Hid (∀ W, (∃ x, W = gx w x) → Calls Try.prog 17 #[.slice A n c] W fun e W' => e = .returned (.int .i64 E) ∧ ∃ x, W' = gx W x)) (hT : tl.size = 0 ∨ (0 < tl.size ∧ nt = true)) (hr : nr = true) (hc : 0 ≤ dy ∧ dy ≤ 1000000 ∧ 0 ≤ fr ∧ fr ≤ to ∧ to < 4194304 ∧ to - fr < 20000 ∧ n ≤ 30) :
    Calls Try.prog 8 #[flV tl rt dy fr to A n c] w fun e w' => e = .returned (.int .i64 E) ∧ ∃ x, w' = gx w x := by
  subst hr
  rcases hT with hT | ⟨hT, rfl⟩
  · obtain ⟨s1, s2⟩ := str_none hT
    have k0 : decide (dy < 0) = false := decide_eq_false (by omega)
    have k1 : decide (1000000 < dy) = false := decide_eq_false (by omega)
    have k2 : decide (fr < 0) = false := decide_eq_false (by omega)
    have k3 : decide (to < fr) = false := decide_eq_false (by omega)
    have k4 : decide (4194304 ≤ to) = false := decide_eq_false (by omega)
    have k5 : IntKind.i64.wrap (to - fr) = to - fr := IntWalk.i64_in _ (by omega)
    have k6 : decide (20000 ≤ to - fr) = false := decide_eq_false (by omega)
    have k7 : decide (30 < (n : Int)) = false := decide_eq_false (by omega)
    clear hT hc
    go_enter Try.func8, Try.ntmps8
    go_wp2_with (first | go_skip | (go_at_call 9; with_reducible refine (H1.out _).mono ?_; rintro e w' ⟨rfl, x1, rfl⟩) | (go_at_call 9; with_reducible refine (H2.out _).mono ?_; rintro e w' ⟨rfl, x2, rfl⟩) | (go_at_call 17; refine (H3.out _ (by repeat (first | (with_reducible exact Gx.refl _) | (with_reducible assumption) | (with_reducible refine Gx.gx ?_) | (with_reducible refine Gx.alloc ?_) | (with_reducible refine Gx.drew ?_) | (with_reducible refine Gx.drewN ?_) | (with_reducible refine Gx.setRow ?_ (by first | omega | (simp; done) | (simp <;> omega))) | (with_reducible refine Gx.setCell ?_ (by first | omega | (simp; done) | (simp <;> omega)))))).mono ?_; rintro e w' ⟨rfl, x3, rfl⟩))
    go_ret
    exact ⟨rfl, (by repeat (first | (with_reducible exact Gx.refl _) | (with_reducible assumption) | (with_reducible refine Gx.gx ?_) | (with_reducible refine Gx.alloc ?_) | (with_reducible refine Gx.drew ?_) | (with_reducible refine Gx.drewN ?_) | (with_reducible refine Gx.setRow ?_ (by first | omega | (simp; done) | (simp <;> omega))) | (with_reducible refine Gx.setCell ?_ (by first | omega | (simp; done) | (simp <;> omega)))))⟩
  · obtain ⟨s1, s2⟩ := str_some hT
    have k0 : decide (dy < 0) = false := decide_eq_false (by omega)
    have k1 : decide (1000000 < dy) = false := decide_eq_false (by omega)
    have k2 : decide (fr < 0) = false := decide_eq_false (by omega)
    have k3 : decide (to < fr) = false := decide_eq_false (by omega)
    have k4 : decide (4194304 ≤ to) = false := decide_eq_false (by omega)
    have k5 : IntKind.i64.wrap (to - fr) = to - fr := IntWalk.i64_in _ (by omega)
    have k6 : decide (20000 ≤ to - fr) = false := decide_eq_false (by omega)
    have k7 : decide (30 < (n : Int)) = false := decide_eq_false (by omega)
    clear hT hc
    go_enter Try.func8, Try.ntmps8
    go_wp2_with (first | go_skip | (go_at_call 9; with_reducible refine (H1.out _).mono ?_; rintro e w' ⟨rfl, x1, rfl⟩) | (go_at_call 9; with_reducible refine (H2.out _).mono ?_; rintro e w' ⟨rfl, x2, rfl⟩) | (go_at_call 17; refine (H3.out _ (by repeat (first | (with_reducible exact Gx.refl _) | (with_reducible assumption) | (with_reducible refine Gx.gx ?_) | (with_reducible refine Gx.alloc ?_) | (with_reducible refine Gx.drew ?_) | (with_reducible refine Gx.drewN ?_) | (with_reducible refine Gx.setRow ?_ (by first | omega | (simp; done) | (simp <;> omega))) | (with_reducible refine Gx.setCell ?_ (by first | omega | (simp; done) | (simp <;> omega)))))).mono ?_; rintro e w' ⟨rfl, x3, rfl⟩))
    go_ret
    exact ⟨rfl, (by repeat (first | (with_reducible exact Gx.refl _) | (with_reducible assumption) | (with_reducible refine Gx.gx ?_) | (with_reducible refine Gx.alloc ?_) | (with_reducible refine Gx.drew ?_) | (with_reducible refine Gx.drewN ?_) | (with_reducible refine Gx.setRow ?_ (by first | omega | (simp; done) | (simp <;> omega))) | (with_reducible refine Gx.setCell ?_ (by first | omega | (simp; done) | (simp <;> omega)))))⟩
theorem pfl_any (tl rt : ByteArray) (dy fr to : Int) (A : Option Addr) (n c : Nat) (nt nr : Bool) (E : Int) (w : World) (H1 : Hid (∀ W, Calls Try.prog 9 #[.string tl] W fun e W' => e = .returned (.bool nt) ∧ ∃ x, W' = gx W x)) (H2 : Hid (∀ W, Calls Try.prog 9 #[.string rt] W fun e W' => e = .returned (.bool nr) ∧ ∃ x, W' = gx W x)) (H3 : Hid (∀ W, (∃ x, W = gx w x) → Calls Try.prog 17 #[.slice A n c] W fun e W' => e = .returned (.int .i64 E) ∧ ∃ x, W' = gx W x)) :
    Calls Try.prog 8 #[flV tl rt dy fr to A n c] w fun e w' => e = .returned (.int .i64 (flE (decide (tl.size = 0)) nt nr dy fr to n E)) ∧ ∃ x, w' = gx w x := by
  by_cases hT : tl.size = 0 ∨ (0 < tl.size ∧ nt = true)
  · have hT' : decide (tl.size = 0) = true ∨ nt = true := by
      rcases hT with h | h
      · exact .inl (decide_eq_true h)
      · exact .inr h.2
    by_cases hr : nr = true
    · by_cases h9 : dy < 0 ∨ 1000000 < dy ∨ fr < 0 ∨ to < fr ∨ 4194304 ≤ to
      · rw [flE_9 hT' hr h9]
        by_cases g1 : dy < 0
        · exact pfl_a tl rt dy fr to A n c nt nr w H1 H2 hT hr g1
        by_cases g2 : 1000000 < dy
        · exact pfl_b tl rt dy fr to A n c nt nr w H1 H2 hT hr (by omega)
        by_cases g3 : fr < 0
        · exact pfl_c tl rt dy fr to A n c nt nr w H1 H2 hT hr (by omega)
        by_cases g4 : to < fr
        · exact pfl_d tl rt dy fr to A n c nt nr w H1 H2 hT hr (by omega)
        · exact pfl_e tl rt dy fr to A n c nt nr w H1 H2 hT hr (by omega)
      · by_cases h3 : 20000 ≤ to - fr ∨ 30 < n
        · rw [flE_3 hT' hr h9 h3]
          by_cases g1 : 20000 ≤ to - fr
          · exact pfl_f tl rt dy fr to A n c nt nr w H1 H2 hT hr (by omega)
          · exact pfl_g tl rt dy fr to A n c nt nr w H1 H2 hT hr (by omega)
        · rw [flE_E hT' hr h9 h3]
          exact pfl_h tl rt dy fr to A n c nt nr E w H1 H2 H3 hT hr (by omega)
    · have hr' : nr = false := by simpa using hr
      rw [flE_8 (.inr hr')]
      exact pfl_n2 tl rt dy fr to A n c nt nr w H1 H2 ⟨hT, hr'⟩
  · have hn : 0 < tl.size ∧ nt = false := by
      refine ⟨by omega, ?_⟩
      cases nt with
      | false => rfl
      | true => exact absurd (.inr ⟨by omega, rfl⟩) hT
    rw [flE_8 (.inl ⟨decide_eq_false (by omega), hn.2⟩)]
    exact pfl_n1 tl rt dy fr to A n c nt nr w H1 H2 hn
set_option maxHeartbeats 4000000 in
set_option maxRecDepth 100000 in
theorem outsideF_any (n lo hi : Int) (b : Bool) (hb : (b = false ∧ lo ≤ n ∧ n ≤ hi) ∨ (b = true ∧ n < lo) ∨ (b = true ∧ lo ≤ n ∧ hi < n)) (w : World) : Calls Try.prog 24 #[.int .i64 n, .int .i64 lo, .int .i64 hi] w fun e w' => e = .returned (.bool b) ∧ w = w' := by
  rcases hb with ⟨rfl, h1, h2⟩ | ⟨rfl, h1⟩ | ⟨rfl, h1, h2⟩
  · have k1 : decide (n < lo) = false := decide_eq_false (by omega)
    have k2 : decide (hi < n) = false := decide_eq_false (by omega)
    clear h1 h2
    go_enter Try.func24, Try.ntmps24
    go_wp2_with go_skip
    go_ret
    exact ⟨rfl, rfl⟩
  · have k1 : decide (n < lo) = true := decide_eq_true h1
    clear h1
    go_enter Try.func24, Try.ntmps24
    go_wp2_with go_skip
    go_ret
    exact ⟨rfl, rfl⟩
  · have k1 : decide (n < lo) = false := decide_eq_false (by omega)
    have k2 : decide (hi < n) = true := decide_eq_true h2
    clear h1 h2
    go_enter Try.func24, Try.ntmps24
    go_wp2_with go_skip
    go_ret
    exact ⟨rfl, rfl⟩
set_option maxHeartbeats 4000000 in
set_option maxRecDepth 100000 in
theorem rfl_n1 (tl rt : ByteArray) (dy fr to : Int) (A : Option Addr) (n c : Nat) (nt nr : Bool) (w : World) (H1 : Hid (∀ W, Calls Try.prog 12 #[.string tl] W fun e W' => e = .returned (.bool nt) ∧ ∃ x, W' = gx W x)) (H2 : Hid (∀ W, Calls Try.prog 12 #[.string rt] W fun e W' => e = .returned (.bool nr) ∧ ∃ x, W' = gx W x)) (hc : 0 < tl.size ∧ nt = false) :
    Calls Try.prog 11 #[flV tl rt dy fr to A n c] w fun e w' => e = .returned (.int .i64 8) ∧ ∃ x, w' = gx w x := by
  obtain ⟨hT, rfl⟩ := hc
  obtain ⟨s1, s2⟩ := str_some hT
  clear hT
  go_enter Try.func11, Try.ntmps11
  go_wp2_with (first | go_skip | (go_at_call 12; with_reducible refine (H1.out _).mono ?_; rintro e w' ⟨rfl, x1, rfl⟩) | (go_at_call 12; with_reducible refine (H2.out _).mono ?_; rintro e w' ⟨rfl, x2, rfl⟩))
  go_ret
  exact ⟨rfl, (by repeat (first | (with_reducible exact Gx.refl _) | (with_reducible assumption) | (with_reducible refine Gx.gx ?_) | (with_reducible refine Gx.alloc ?_) | (with_reducible refine Gx.drew ?_) | (with_reducible refine Gx.drewN ?_) | (with_reducible refine Gx.setRow ?_ (by first | omega | (simp; done) | (simp <;> omega))) | (with_reducible refine Gx.setCell ?_ (by first | omega | (simp; done) | (simp <;> omega)))))⟩
set_option maxHeartbeats 4000000 in
set_option maxRecDepth 100000 in
theorem rfl_n2 (tl rt : ByteArray) (dy fr to : Int) (A : Option Addr) (n c : Nat) (nt nr : Bool) (w : World) (H1 : Hid (∀ W, Calls Try.prog 12 #[.string tl] W fun e W' => e = .returned (.bool nt) ∧ ∃ x, W' = gx W x)) (H2 : Hid (∀ W, Calls Try.prog 12 #[.string rt] W fun e W' => e = .returned (.bool nr) ∧ ∃ x, W' = gx W x)) (hc : (tl.size = 0 ∨ (0 < tl.size ∧ nt = true)) ∧ nr = false) :
    Calls Try.prog 11 #[flV tl rt dy fr to A n c] w fun e w' => e = .returned (.int .i64 8) ∧ ∃ x, w' = gx w x := by
  obtain ⟨hT, rfl⟩ := hc
  rcases hT with hT | ⟨hT, rfl⟩
  · obtain ⟨s1, s2⟩ := str_none hT
    clear hT
    go_enter Try.func11, Try.ntmps11
    go_wp2_with (first | go_skip | (go_at_call 12; with_reducible refine (H1.out _).mono ?_; rintro e w' ⟨rfl, x1, rfl⟩) | (go_at_call 12; with_reducible refine (H2.out _).mono ?_; rintro e w' ⟨rfl, x2, rfl⟩))
    go_ret
    exact ⟨rfl, (by repeat (first | (with_reducible exact Gx.refl _) | (with_reducible assumption) | (with_reducible refine Gx.gx ?_) | (with_reducible refine Gx.alloc ?_) | (with_reducible refine Gx.drew ?_) | (with_reducible refine Gx.drewN ?_) | (with_reducible refine Gx.setRow ?_ (by first | omega | (simp; done) | (simp <;> omega))) | (with_reducible refine Gx.setCell ?_ (by first | omega | (simp; done) | (simp <;> omega)))))⟩
  · obtain ⟨s1, s2⟩ := str_some hT
    clear hT
    go_enter Try.func11, Try.ntmps11
    go_wp2_with (first | go_skip | (go_at_call 12; with_reducible refine (H1.out _).mono ?_; rintro e w' ⟨rfl, x1, rfl⟩) | (go_at_call 12; with_reducible refine (H2.out _).mono ?_; rintro e w' ⟨rfl, x2, rfl⟩))
    go_ret
    exact ⟨rfl, (by repeat (first | (with_reducible exact Gx.refl _) | (with_reducible assumption) | (with_reducible refine Gx.gx ?_) | (with_reducible refine Gx.alloc ?_) | (with_reducible refine Gx.drew ?_) | (with_reducible refine Gx.drewN ?_) | (with_reducible refine Gx.setRow ?_ (by first | omega | (simp; done) | (simp <;> omega))) | (with_reducible refine Gx.setCell ?_ (by first | omega | (simp; done) | (simp <;> omega)))))⟩
set_option maxHeartbeats 4000000 in
set_option maxRecDepth 100000 in
theorem rfl_a (tl rt : ByteArray) (dy fr to : Int) (A : Option Addr) (n c : Nat) (nt nr : Bool) (w : World) (H1 : Hid (∀ W, Calls Try.prog 12 #[.string tl] W fun e W' => e = .returned (.bool nt) ∧ ∃ x, W' = gx W x)) (H2 : Hid (∀ W, Calls Try.prog 12 #[.string rt] W fun e W' => e = .returned (.bool nr) ∧ ∃ x, W' = gx W x)) (hT : tl.size = 0 ∨ (0 < tl.size ∧ nt = true)) (hr : nr = true) (hc : dy < 0) :
    Calls Try.prog 11 #[flV tl rt dy fr to A n c] w fun e w' => e = .returned (.int .i64 9) ∧ ∃ x, w' = gx w x := by
  subst hr
  rcases hT with hT | ⟨hT, rfl⟩
  · obtain ⟨s1, s2⟩ := str_none hT
    have HO := Lib.hid (fun W => outsideF_any dy 0 1000000 true (.inr (.inl ⟨rfl, by omega⟩)) W)
    clear hT hc
    go_enter Try.func11, Try.ntmps11
    go_wp2_with (first | go_skip | (go_at_call 12; with_reducible refine (H1.out _).mono ?_; rintro e w' ⟨rfl, x1, rfl⟩) | (go_at_call 12; with_reducible refine (H2.out _).mono ?_; rintro e w' ⟨rfl, x2, rfl⟩) | (go_at_call 24; refine (HO.out _).mono ?_; rintro e w' ⟨rfl, rfl⟩))
    go_ret
    exact ⟨rfl, (by repeat (first | (with_reducible exact Gx.refl _) | (with_reducible assumption) | (with_reducible refine Gx.gx ?_) | (with_reducible refine Gx.alloc ?_) | (with_reducible refine Gx.drew ?_) | (with_reducible refine Gx.drewN ?_) | (with_reducible refine Gx.setRow ?_ (by first | omega | (simp; done) | (simp <;> omega))) | (with_reducible refine Gx.setCell ?_ (by first | omega | (simp; done) | (simp <;> omega)))))⟩
  · obtain ⟨s1, s2⟩ := str_some hT
    have HO := Lib.hid (fun W => outsideF_any dy 0 1000000 true (.inr (.inl ⟨rfl, by omega⟩)) W)
    clear hT hc
    go_enter Try.func11, Try.ntmps11
    go_wp2_with (first | go_skip | (go_at_call 12; with_reducible refine (H1.out _).mono ?_; rintro e w' ⟨rfl, x1, rfl⟩) | (go_at_call 12; with_reducible refine (H2.out _).mono ?_; rintro e w' ⟨rfl, x2, rfl⟩) | (go_at_call 24; refine (HO.out _).mono ?_; rintro e w' ⟨rfl, rfl⟩))
    go_ret
    exact ⟨rfl, (by repeat (first | (with_reducible exact Gx.refl _) | (with_reducible assumption) | (with_reducible refine Gx.gx ?_) | (with_reducible refine Gx.alloc ?_) | (with_reducible refine Gx.drew ?_) | (with_reducible refine Gx.drewN ?_) | (with_reducible refine Gx.setRow ?_ (by first | omega | (simp; done) | (simp <;> omega))) | (with_reducible refine Gx.setCell ?_ (by first | omega | (simp; done) | (simp <;> omega)))))⟩
set_option maxHeartbeats 4000000 in
set_option maxRecDepth 100000 in
theorem rfl_b (tl rt : ByteArray) (dy fr to : Int) (A : Option Addr) (n c : Nat) (nt nr : Bool) (w : World) (H1 : Hid (∀ W, Calls Try.prog 12 #[.string tl] W fun e W' => e = .returned (.bool nt) ∧ ∃ x, W' = gx W x)) (H2 : Hid (∀ W, Calls Try.prog 12 #[.string rt] W fun e W' => e = .returned (.bool nr) ∧ ∃ x, W' = gx W x)) (hT : tl.size = 0 ∨ (0 < tl.size ∧ nt = true)) (hr : nr = true) (hc : 0 ≤ dy ∧ 1000000 < dy) :
    Calls Try.prog 11 #[flV tl rt dy fr to A n c] w fun e w' => e = .returned (.int .i64 9) ∧ ∃ x, w' = gx w x := by
  subst hr
  rcases hT with hT | ⟨hT, rfl⟩
  · obtain ⟨s1, s2⟩ := str_none hT
    have HO := Lib.hid (fun W => outsideF_any dy 0 1000000 true (.inr (.inr ⟨rfl, by omega, by omega⟩)) W)
    clear hT hc
    go_enter Try.func11, Try.ntmps11
    go_wp2_with (first | go_skip | (go_at_call 12; with_reducible refine (H1.out _).mono ?_; rintro e w' ⟨rfl, x1, rfl⟩) | (go_at_call 12; with_reducible refine (H2.out _).mono ?_; rintro e w' ⟨rfl, x2, rfl⟩) | (go_at_call 24; refine (HO.out _).mono ?_; rintro e w' ⟨rfl, rfl⟩))
    go_ret
    exact ⟨rfl, (by repeat (first | (with_reducible exact Gx.refl _) | (with_reducible assumption) | (with_reducible refine Gx.gx ?_) | (with_reducible refine Gx.alloc ?_) | (with_reducible refine Gx.drew ?_) | (with_reducible refine Gx.drewN ?_) | (with_reducible refine Gx.setRow ?_ (by first | omega | (simp; done) | (simp <;> omega))) | (with_reducible refine Gx.setCell ?_ (by first | omega | (simp; done) | (simp <;> omega)))))⟩
  · obtain ⟨s1, s2⟩ := str_some hT
    have HO := Lib.hid (fun W => outsideF_any dy 0 1000000 true (.inr (.inr ⟨rfl, by omega, by omega⟩)) W)
    clear hT hc
    go_enter Try.func11, Try.ntmps11
    go_wp2_with (first | go_skip | (go_at_call 12; with_reducible refine (H1.out _).mono ?_; rintro e w' ⟨rfl, x1, rfl⟩) | (go_at_call 12; with_reducible refine (H2.out _).mono ?_; rintro e w' ⟨rfl, x2, rfl⟩) | (go_at_call 24; refine (HO.out _).mono ?_; rintro e w' ⟨rfl, rfl⟩))
    go_ret
    exact ⟨rfl, (by repeat (first | (with_reducible exact Gx.refl _) | (with_reducible assumption) | (with_reducible refine Gx.gx ?_) | (with_reducible refine Gx.alloc ?_) | (with_reducible refine Gx.drew ?_) | (with_reducible refine Gx.drewN ?_) | (with_reducible refine Gx.setRow ?_ (by first | omega | (simp; done) | (simp <;> omega))) | (with_reducible refine Gx.setCell ?_ (by first | omega | (simp; done) | (simp <;> omega)))))⟩
set_option maxHeartbeats 4000000 in
set_option maxRecDepth 100000 in
theorem rfl_c (tl rt : ByteArray) (dy fr to : Int) (A : Option Addr) (n c : Nat) (nt nr : Bool) (w : World) (H1 : Hid (∀ W, Calls Try.prog 12 #[.string tl] W fun e W' => e = .returned (.bool nt) ∧ ∃ x, W' = gx W x)) (H2 : Hid (∀ W, Calls Try.prog 12 #[.string rt] W fun e W' => e = .returned (.bool nr) ∧ ∃ x, W' = gx W x)) (hT : tl.size = 0 ∨ (0 < tl.size ∧ nt = true)) (hr : nr = true) (hc : 0 ≤ dy ∧ dy ≤ 1000000 ∧ fr < 0) :
    Calls Try.prog 11 #[flV tl rt dy fr to A n c] w fun e w' => e = .returned (.int .i64 9) ∧ ∃ x, w' = gx w x := by
  subst hr
  rcases hT with hT | ⟨hT, rfl⟩
  · obtain ⟨s1, s2⟩ := str_none hT
    have k0 : decide (fr < 0) = true := decide_eq_true (by omega)
    have HO := Lib.hid (fun W => outsideF_any dy 0 1000000 false (.inl ⟨rfl, by omega, by omega⟩) W)
    clear hT hc
    go_enter Try.func11, Try.ntmps11
    go_wp2_with (first | go_skip | (go_at_call 12; with_reducible refine (H1.out _).mono ?_; rintro e w' ⟨rfl, x1, rfl⟩) | (go_at_call 12; with_reducible refine (H2.out _).mono ?_; rintro e w' ⟨rfl, x2, rfl⟩) | (go_at_call 24; refine (HO.out _).mono ?_; rintro e w' ⟨rfl, rfl⟩))
    go_ret
    exact ⟨rfl, (by repeat (first | (with_reducible exact Gx.refl _) | (with_reducible assumption) | (with_reducible refine Gx.gx ?_) | (with_reducible refine Gx.alloc ?_) | (with_reducible refine Gx.drew ?_) | (with_reducible refine Gx.drewN ?_) | (with_reducible refine Gx.setRow ?_ (by first | omega | (simp; done) | (simp <;> omega))) | (with_reducible refine Gx.setCell ?_ (by first | omega | (simp; done) | (simp <;> omega)))))⟩
  · obtain ⟨s1, s2⟩ := str_some hT
    have k0 : decide (fr < 0) = true := decide_eq_true (by omega)
    have HO := Lib.hid (fun W => outsideF_any dy 0 1000000 false (.inl ⟨rfl, by omega, by omega⟩) W)
    clear hT hc
    go_enter Try.func11, Try.ntmps11
    go_wp2_with (first | go_skip | (go_at_call 12; with_reducible refine (H1.out _).mono ?_; rintro e w' ⟨rfl, x1, rfl⟩) | (go_at_call 12; with_reducible refine (H2.out _).mono ?_; rintro e w' ⟨rfl, x2, rfl⟩) | (go_at_call 24; refine (HO.out _).mono ?_; rintro e w' ⟨rfl, rfl⟩))
    go_ret
    exact ⟨rfl, (by repeat (first | (with_reducible exact Gx.refl _) | (with_reducible assumption) | (with_reducible refine Gx.gx ?_) | (with_reducible refine Gx.alloc ?_) | (with_reducible refine Gx.drew ?_) | (with_reducible refine Gx.drewN ?_) | (with_reducible refine Gx.setRow ?_ (by first | omega | (simp; done) | (simp <;> omega))) | (with_reducible refine Gx.setCell ?_ (by first | omega | (simp; done) | (simp <;> omega)))))⟩
set_option maxHeartbeats 4000000 in
set_option maxRecDepth 100000 in
theorem rfl_d (tl rt : ByteArray) (dy fr to : Int) (A : Option Addr) (n c : Nat) (nt nr : Bool) (w : World) (H1 : Hid (∀ W, Calls Try.prog 12 #[.string tl] W fun e W' => e = .returned (.bool nt) ∧ ∃ x, W' = gx W x)) (H2 : Hid (∀ W, Calls Try.prog 12 #[.string rt] W fun e W' => e = .returned (.bool nr) ∧ ∃ x, W' = gx W x)) (hT : tl.size = 0 ∨ (0 < tl.size ∧ nt = true)) (hr : nr = true) (hc : 0 ≤ dy ∧ dy ≤ 1000000 ∧ 0 ≤ fr ∧ to < fr) :
    Calls Try.prog 11 #[flV tl rt dy fr to A n c] w fun e w' => e = .returned (.int .i64 9) ∧ ∃ x, w' = gx w x := by
  subst hr
  rcases hT with hT | ⟨hT, rfl⟩
  · obtain ⟨s1, s2⟩ := str_none hT
    have k0 : decide (fr < 0) = false := decide_eq_false (by omega)
    have k1 : decide (to < fr) = true := decide_eq_true (by omega)
    have HO := Lib.hid (fun W => outsideF_any dy 0 1000000 false (.inl ⟨rfl, by omega, by omega⟩) W)
    clear hT hc
    go_enter Try.func11, Try.ntmps11
    go_wp2_with (first | go_skip | (go_at_call 12; with_reducible refine (H1.out _).mono ?_; rintro e w' ⟨rfl, x1, rfl⟩) | (go_at_call 12; with_reducible refine (H2.out _).mono ?_; rintro e w' ⟨rfl, x2, rfl⟩) | (go_at_call 24; refine (HO.out _).mono ?_; rintro e w' ⟨rfl, rfl⟩))
    go_ret
    exact ⟨rfl, (by repeat (first | (with_reducible exact Gx.refl _) | (with_reducible assumption) | (with_reducible refine Gx.gx ?_) | (with_reducible refine Gx.alloc ?_) | (with_reducible refine Gx.drew ?_) | (with_reducible refine Gx.drewN ?_) | (with_reducible refine Gx.setRow ?_ (by first | omega | (simp; done) | (simp <;> omega))) | (with_reducible refine Gx.setCell ?_ (by first | omega | (simp; done) | (simp <;> omega)))))⟩
  · obtain ⟨s1, s2⟩ := str_some hT
    have k0 : decide (fr < 0) = false := decide_eq_false (by omega)
    have k1 : decide (to < fr) = true := decide_eq_true (by omega)
    have HO := Lib.hid (fun W => outsideF_any dy 0 1000000 false (.inl ⟨rfl, by omega, by omega⟩) W)
    clear hT hc
    go_enter Try.func11, Try.ntmps11
    go_wp2_with (first | go_skip | (go_at_call 12; with_reducible refine (H1.out _).mono ?_; rintro e w' ⟨rfl, x1, rfl⟩) | (go_at_call 12; with_reducible refine (H2.out _).mono ?_; rintro e w' ⟨rfl, x2, rfl⟩) | (go_at_call 24; refine (HO.out _).mono ?_; rintro e w' ⟨rfl, rfl⟩))
    go_ret
    exact ⟨rfl, (by repeat (first | (with_reducible exact Gx.refl _) | (with_reducible assumption) | (with_reducible refine Gx.gx ?_) | (with_reducible refine Gx.alloc ?_) | (with_reducible refine Gx.drew ?_) | (with_reducible refine Gx.drewN ?_) | (with_reducible refine Gx.setRow ?_ (by first | omega | (simp; done) | (simp <;> omega))) | (with_reducible refine Gx.setCell ?_ (by first | omega | (simp; done) | (simp <;> omega)))))⟩
set_option maxHeartbeats 4000000 in
set_option maxRecDepth 100000 in
theorem rfl_e (tl rt : ByteArray) (dy fr to : Int) (A : Option Addr) (n c : Nat) (nt nr : Bool) (w : World) (H1 : Hid (∀ W, Calls Try.prog 12 #[.string tl] W fun e W' => e = .returned (.bool nt) ∧ ∃ x, W' = gx W x)) (H2 : Hid (∀ W, Calls Try.prog 12 #[.string rt] W fun e W' => e = .returned (.bool nr) ∧ ∃ x, W' = gx W x)) (hT : tl.size = 0 ∨ (0 < tl.size ∧ nt = true)) (hr : nr = true) (hc : 0 ≤ dy ∧ dy ≤ 1000000 ∧ 0 ≤ fr ∧ fr ≤ to ∧ 4194304 ≤ to) :
    Calls Try.prog 11 #[flV tl rt dy fr to A n c] w fun e w' => e = .returned (.int .i64 9) ∧ ∃ x, w' = gx w x := by
  subst hr
  rcases hT with hT | ⟨hT, rfl⟩
  · obtain ⟨s1, s2⟩ := str_none hT
    have k0 : decide (fr < 0) = false := decide_eq_false (by omega)
    have k1 : decide (to < fr) = false := decide_eq_false (by omega)
    have k2 : decide (4194303 < to) = true := decide_eq_true (by omega)
    have HO := Lib.hid (fun W => outsideF_any dy 0 1000000 false (.inl ⟨rfl, by omega, by omega⟩) W)
    clear hT hc
    go_enter Try.func11, Try.ntmps11
    go_wp2_with (first | go_skip | (go_at_call 12; with_reducible refine (H1.out _).mono ?_; rintro e w' ⟨rfl, x1, rfl⟩) | (go_at_call 12; with_reducible refine (H2.out _).mono ?_; rintro e w' ⟨rfl, x2, rfl⟩) | (go_at_call 24; refine (HO.out _).mono ?_; rintro e w' ⟨rfl, rfl⟩))
    go_ret
    exact ⟨rfl, (by repeat (first | (with_reducible exact Gx.refl _) | (with_reducible assumption) | (with_reducible refine Gx.gx ?_) | (with_reducible refine Gx.alloc ?_) | (with_reducible refine Gx.drew ?_) | (with_reducible refine Gx.drewN ?_) | (with_reducible refine Gx.setRow ?_ (by first | omega | (simp; done) | (simp <;> omega))) | (with_reducible refine Gx.setCell ?_ (by first | omega | (simp; done) | (simp <;> omega)))))⟩
  · obtain ⟨s1, s2⟩ := str_some hT
    have k0 : decide (fr < 0) = false := decide_eq_false (by omega)
    have k1 : decide (to < fr) = false := decide_eq_false (by omega)
    have k2 : decide (4194303 < to) = true := decide_eq_true (by omega)
    have HO := Lib.hid (fun W => outsideF_any dy 0 1000000 false (.inl ⟨rfl, by omega, by omega⟩) W)
    clear hT hc
    go_enter Try.func11, Try.ntmps11
    go_wp2_with (first | go_skip | (go_at_call 12; with_reducible refine (H1.out _).mono ?_; rintro e w' ⟨rfl, x1, rfl⟩) | (go_at_call 12; with_reducible refine (H2.out _).mono ?_; rintro e w' ⟨rfl, x2, rfl⟩) | (go_at_call 24; refine (HO.out _).mono ?_; rintro e w' ⟨rfl, rfl⟩))
    go_ret
    exact ⟨rfl, (by repeat (first | (with_reducible exact Gx.refl _) | (with_reducible assumption) | (with_reducible refine Gx.gx ?_) | (with_reducible refine Gx.alloc ?_) | (with_reducible refine Gx.drew ?_) | (with_reducible refine Gx.drewN ?_) | (with_reducible refine Gx.setRow ?_ (by first | omega | (simp; done) | (simp <;> omega))) | (with_reducible refine Gx.setCell ?_ (by first | omega | (simp; done) | (simp <;> omega)))))⟩
set_option maxHeartbeats 4000000 in
set_option maxRecDepth 100000 in
theorem rfl_f (tl rt : ByteArray) (dy fr to : Int) (A : Option Addr) (n c : Nat) (nt nr : Bool) (w : World) (H1 : Hid (∀ W, Calls Try.prog 12 #[.string tl] W fun e W' => e = .returned (.bool nt) ∧ ∃ x, W' = gx W x)) (H2 : Hid (∀ W, Calls Try.prog 12 #[.string rt] W fun e W' => e = .returned (.bool nr) ∧ ∃ x, W' = gx W x)) (hT : tl.size = 0 ∨ (0 < tl.size ∧ nt = true)) (hr : nr = true) (hc : 0 ≤ dy ∧ dy ≤ 1000000 ∧ 0 ≤ fr ∧ fr ≤ to ∧ to < 4194304 ∧ 20000 ≤ to - fr) :
    Calls Try.prog 11 #[flV tl rt dy fr to A n c] w fun e w' => e = .returned (.int .i64 3) ∧ ∃ x, w' = gx w x := by
  subst hr
  rcases hT with hT | ⟨hT, rfl⟩
  · obtain ⟨s1, s2⟩ := str_none hT
    have k0 : decide (fr < 0) = false := decide_eq_false (by omega)
    have k1 : decide (to < fr) = false := decide_eq_false (by omega)
    have k2 : decide (4194303 < to) = false := decide_eq_false (by omega)
    have k3 : IntKind.i64.wrap (to - fr) = to - fr := IntWalk.i64_in _ (by omega)
    have k4 : IntKind.i64.wrap (to - fr + 1) = to - fr + 1 := IntWalk.i64_in _ (by omega)
    have k5 : decide (20000 < to - fr + 1) = true := decide_eq_true (by omega)
    have HO := Lib.hid (fun W => outsideF_any dy 0 1000000 false (.inl ⟨rfl, by omega, by omega⟩) W)
    clear hT hc
    go_enter Try.func11, Try.ntmps11
    go_wp2_with (first | go_skip | (go_at_call 12; with_reducible refine (H1.out _).mono ?_; rintro e w' ⟨rfl, x1, rfl⟩) | (go_at_call 12; with_reducible refine (H2.out _).mono ?_; rintro e w' ⟨rfl, x2, rfl⟩) | (go_at_call 24; refine (HO.out _).mono ?_; rintro e w' ⟨rfl, rfl⟩))
    go_ret
    exact ⟨rfl, (by repeat (first | (with_reducible exact Gx.refl _) | (with_reducible assumption) | (with_reducible refine Gx.gx ?_) | (with_reducible refine Gx.alloc ?_) | (with_reducible refine Gx.drew ?_) | (with_reducible refine Gx.drewN ?_) | (with_reducible refine Gx.setRow ?_ (by first | omega | (simp; done) | (simp <;> omega))) | (with_reducible refine Gx.setCell ?_ (by first | omega | (simp; done) | (simp <;> omega)))))⟩
  · obtain ⟨s1, s2⟩ := str_some hT
    have k0 : decide (fr < 0) = false := decide_eq_false (by omega)
    have k1 : decide (to < fr) = false := decide_eq_false (by omega)
    have k2 : decide (4194303 < to) = false := decide_eq_false (by omega)
    have k3 : IntKind.i64.wrap (to - fr) = to - fr := IntWalk.i64_in _ (by omega)
    have k4 : IntKind.i64.wrap (to - fr + 1) = to - fr + 1 := IntWalk.i64_in _ (by omega)
    have k5 : decide (20000 < to - fr + 1) = true := decide_eq_true (by omega)
    have HO := Lib.hid (fun W => outsideF_any dy 0 1000000 false (.inl ⟨rfl, by omega, by omega⟩) W)
    clear hT hc
    go_enter Try.func11, Try.ntmps11
    go_wp2_with (first | go_skip | (go_at_call 12; with_reducible refine (H1.out _).mono ?_; rintro e w' ⟨rfl, x1, rfl⟩) | (go_at_call 12; with_reducible refine (H2.out _).mono ?_; rintro e w' ⟨rfl, x2, rfl⟩) | (go_at_call 24; refine (HO.out _).mono ?_; rintro e w' ⟨rfl, rfl⟩))
    go_ret
    exact ⟨rfl, (by repeat (first | (with_reducible exact Gx.refl _) | (with_reducible assumption) | (with_reducible refine Gx.gx ?_) | (with_reducible refine Gx.alloc ?_) | (with_reducible refine Gx.drew ?_) | (with_reducible refine Gx.drewN ?_) | (with_reducible refine Gx.setRow ?_ (by first | omega | (simp; done) | (simp <;> omega))) | (with_reducible refine Gx.setCell ?_ (by first | omega | (simp; done) | (simp <;> omega)))))⟩
set_option maxHeartbeats 4000000 in
set_option maxRecDepth 100000 in
theorem rfl_g (tl rt : ByteArray) (dy fr to : Int) (A : Option Addr) (n c : Nat) (nt nr : Bool) (w : World) (H1 : Hid (∀ W, Calls Try.prog 12 #[.string tl] W fun e W' => e = .returned (.bool nt) ∧ ∃ x, W' = gx W x)) (H2 : Hid (∀ W, Calls Try.prog 12 #[.string rt] W fun e W' => e = .returned (.bool nr) ∧ ∃ x, W' = gx W x)) (hT : tl.size = 0 ∨ (0 < tl.size ∧ nt = true)) (hr : nr = true) (hc : 0 ≤ dy ∧ dy ≤ 1000000 ∧ 0 ≤ fr ∧ fr ≤ to ∧ to < 4194304 ∧ to - fr < 20000 ∧ 30 < n) :
    Calls Try.prog 11 #[flV tl rt dy fr to A n c] w fun e w' => e = .returned (.int .i64 3) ∧ ∃ x, w' = gx w x := by
  subst hr
  rcases hT with hT | ⟨hT, rfl⟩
  · obtain ⟨s1, s2⟩ := str_none hT
    have k0 : decide (fr < 0) = false := decide_eq_false (by omega)
    have k1 : decide (to < fr) = false := decide_eq_false (by omega)
    have k2 : decide (4194303 < to) = false := decide_eq_false (by omega)
    have k3 : IntKind.i64.wrap (to - fr) = to - fr := IntWalk.i64_in _ (by omega)
    have k4 : IntKind.i64.wrap (to - fr + 1) = to - fr + 1 := IntWalk.i64_in _ (by omega)
    have k5 : decide (20000 < to - fr + 1) = false := decide_eq_false (by omega)
    have k6 : decide (30 < (n : Int)) = true := decide_eq_true (by omega)
    have HO := Lib.hid (fun W => outsideF_any dy 0 1000000 false (.inl ⟨rfl, by omega, by omega⟩) W)
    clear hT hc
    go_enter Try.func11, Try.ntmps11
    go_wp2_with (first | go_skip | (go_at_call 12; with_reducible refine (H1.out _).mono ?_; rintro e w' ⟨rfl, x1, rfl⟩) | (go_at_call 12; with_reducible refine (H2.out _).mono ?_; rintro e w' ⟨rfl, x2, rfl⟩) | (go_at_call 24; refine (HO.out _).mono ?_; rintro e w' ⟨rfl, rfl⟩))
    go_ret
    exact ⟨rfl, (by repeat (first | (with_reducible exact Gx.refl _) | (with_reducible assumption) | (with_reducible refine Gx.gx ?_) | (with_reducible refine Gx.alloc ?_) | (with_reducible refine Gx.drew ?_) | (with_reducible refine Gx.drewN ?_) | (with_reducible refine Gx.setRow ?_ (by first | omega | (simp; done) | (simp <;> omega))) | (with_reducible refine Gx.setCell ?_ (by first | omega | (simp; done) | (simp <;> omega)))))⟩
  · obtain ⟨s1, s2⟩ := str_some hT
    have k0 : decide (fr < 0) = false := decide_eq_false (by omega)
    have k1 : decide (to < fr) = false := decide_eq_false (by omega)
    have k2 : decide (4194303 < to) = false := decide_eq_false (by omega)
    have k3 : IntKind.i64.wrap (to - fr) = to - fr := IntWalk.i64_in _ (by omega)
    have k4 : IntKind.i64.wrap (to - fr + 1) = to - fr + 1 := IntWalk.i64_in _ (by omega)
    have k5 : decide (20000 < to - fr + 1) = false := decide_eq_false (by omega)
    have k6 : decide (30 < (n : Int)) = true := decide_eq_true (by omega)
    have HO := Lib.hid (fun W => outsideF_any dy 0 1000000 false (.inl ⟨rfl, by omega, by omega⟩) W)
    clear hT hc
    go_enter Try.func11, Try.ntmps11
    go_wp2_with (first | go_skip | (go_at_call 12; with_reducible refine (H1.out _).mono ?_; rintro e w' ⟨rfl, x1, rfl⟩) | (go_at_call 12; with_reducible refine (H2.out _).mono ?_; rintro e w' ⟨rfl, x2, rfl⟩) | (go_at_call 24; refine (HO.out _).mono ?_; rintro e w' ⟨rfl, rfl⟩))
    go_ret
    exact ⟨rfl, (by repeat (first | (with_reducible exact Gx.refl _) | (with_reducible assumption) | (with_reducible refine Gx.gx ?_) | (with_reducible refine Gx.alloc ?_) | (with_reducible refine Gx.drew ?_) | (with_reducible refine Gx.drewN ?_) | (with_reducible refine Gx.setRow ?_ (by first | omega | (simp; done) | (simp <;> omega))) | (with_reducible refine Gx.setCell ?_ (by first | omega | (simp; done) | (simp <;> omega)))))⟩
set_option maxHeartbeats 4000000 in
set_option maxRecDepth 100000 in
theorem rfl_h (tl rt : ByteArray) (dy fr to : Int) (A : Option Addr) (n c : Nat) (nt nr : Bool) (E : Int) (w : World) (H1 : Hid (∀ W, Calls Try.prog 12 #[.string tl] W fun e W' => e = .returned (.bool nt) ∧ ∃ x, W' = gx W x)) (H2 : Hid (∀ W, Calls Try.prog 12 #[.string rt] W fun e W' => e = .returned (.bool nr) ∧ ∃ x, W' = gx W x)) (H3 : Hid (∀ W, (∃ x, W = gx w x) → Calls Try.prog 25 #[.slice A n c] W fun e W' => e = .returned (.int .i64 E) ∧ ∃ x, W' = gx W x)) (hT : tl.size = 0 ∨ (0 < tl.size ∧ nt = true)) (hr : nr = true) (hc : 0 ≤ dy ∧ dy ≤ 1000000 ∧ 0 ≤ fr ∧ fr ≤ to ∧ to < 4194304 ∧ to - fr < 20000 ∧ n ≤ 30) :
    Calls Try.prog 11 #[flV tl rt dy fr to A n c] w fun e w' => e = .returned (.int .i64 E) ∧ ∃ x, w' = gx w x := by
  subst hr
  rcases hT with hT | ⟨hT, rfl⟩
  · obtain ⟨s1, s2⟩ := str_none hT
    have k0 : decide (fr < 0) = false := decide_eq_false (by omega)
    have k1 : decide (to < fr) = false := decide_eq_false (by omega)
    have k2 : decide (4194303 < to) = false := decide_eq_false (by omega)
    have k3 : IntKind.i64.wrap (to - fr) = to - fr := IntWalk.i64_in _ (by omega)
    have k4 : IntKind.i64.wrap (to - fr + 1) = to - fr + 1 := IntWalk.i64_in _ (by omega)
    have k5 : decide (20000 < to - fr + 1) = false := decide_eq_false (by omega)
    have k6 : decide (30 < (n : Int)) = false := decide_eq_false (by omega)
    have HO := Lib.hid (fun W => outsideF_any dy 0 1000000 false (.inl ⟨rfl, by omega, by omega⟩) W)
    clear hT hc
    go_enter Try.func11, Try.ntmps11
    go_wp2_with (first | go_skip | (go_at_call 12; with_reducible refine (H1.out _).mono ?_; rintro e w' ⟨rfl, x1, rfl⟩) | (go_at_call 12; with_reducible refine (H2.out _).mono ?_; rintro e w' ⟨rfl, x2, rfl⟩) | (go_at_call 25; refine (H3.out _ (by repeat (first | (with_reducible exact Gx.refl _) | (with_reducible assumption) | (with_reducible refine Gx.gx ?_) | (with_reducible refine Gx.alloc ?_) | (with_reducible refine Gx.drew ?_) | (with_reducible refine Gx.drewN ?_) | (with_reducible refine Gx.setRow ?_ (by first | omega | (simp; done) | (simp <;> omega))) | (with_reducible refine Gx.setCell ?_ (by first | omega | (simp; done) | (simp <;> omega)))))).mono ?_; rintro e w' ⟨rfl, x3, rfl⟩) | (go_at_call 24; refine (HO.out _).mono ?_; rintro e w' ⟨rfl, rfl⟩))
    go_ret
    exact ⟨rfl, (by repeat (first | (with_reducible exact Gx.refl _) | (with_reducible assumption) | (with_reducible refine Gx.gx ?_) | (with_reducible refine Gx.alloc ?_) | (with_reducible refine Gx.drew ?_) | (with_reducible refine Gx.drewN ?_) | (with_reducible refine Gx.setRow ?_ (by first | omega | (simp; done) | (simp <;> omega))) | (with_reducible refine Gx.setCell ?_ (by first | omega | (simp; done) | (simp <;> omega)))))⟩
  · obtain ⟨s1, s2⟩ := str_some hT
    have k0 : decide (fr < 0) = false := decide_eq_false (by omega)
    have k1 : decide (to < fr) = false := decide_eq_false (by omega)
    have k2 : decide (4194303 < to) = false := decide_eq_false (by omega)
    have k3 : IntKind.i64.wrap (to - fr) = to - fr := IntWalk.i64_in _ (by omega)
    have k4 : IntKind.i64.wrap (to - fr + 1) = to - fr + 1 := IntWalk.i64_in _ (by omega)
    have k5 : decide (20000 < to - fr + 1) = false := decide_eq_false (by omega)
    have k6 : decide (30 < (n : Int)) = false := decide_eq_false (by omega)
    have HO := Lib.hid (fun W => outsideF_any dy 0 1000000 false (.inl ⟨rfl, by omega, by omega⟩) W)
    clear hT hc
    go_enter Try.func11, Try.ntmps11
    go_wp2_with (first | go_skip | (go_at_call 12; with_reducible refine (H1.out _).mono ?_; rintro e w' ⟨rfl, x1, rfl⟩) | (go_at_call 12; with_reducible refine (H2.out _).mono ?_; rintro e w' ⟨rfl, x2, rfl⟩) | (go_at_call 25; refine (H3.out _ (by repeat (first | (with_reducible exact Gx.refl _) | (with_reducible assumption) | (with_reducible refine Gx.gx ?_) | (with_reducible refine Gx.alloc ?_) | (with_reducible refine Gx.drew ?_) | (with_reducible refine Gx.drewN ?_) | (with_reducible refine Gx.setRow ?_ (by first | omega | (simp; done) | (simp <;> omega))) | (with_reducible refine Gx.setCell ?_ (by first | omega | (simp; done) | (simp <;> omega)))))).mono ?_; rintro e w' ⟨rfl, x3, rfl⟩) | (go_at_call 24; refine (HO.out _).mono ?_; rintro e w' ⟨rfl, rfl⟩))
    go_ret
    exact ⟨rfl, (by repeat (first | (with_reducible exact Gx.refl _) | (with_reducible assumption) | (with_reducible refine Gx.gx ?_) | (with_reducible refine Gx.alloc ?_) | (with_reducible refine Gx.drew ?_) | (with_reducible refine Gx.drewN ?_) | (with_reducible refine Gx.setRow ?_ (by first | omega | (simp; done) | (simp <;> omega))) | (with_reducible refine Gx.setCell ?_ (by first | omega | (simp; done) | (simp <;> omega)))))⟩
theorem rfl_any (tl rt : ByteArray) (dy fr to : Int) (A : Option Addr) (n c : Nat) (nt nr : Bool) (E : Int) (w : World) (H1 : Hid (∀ W, Calls Try.prog 12 #[.string tl] W fun e W' => e = .returned (.bool nt) ∧ ∃ x, W' = gx W x)) (H2 : Hid (∀ W, Calls Try.prog 12 #[.string rt] W fun e W' => e = .returned (.bool nr) ∧ ∃ x, W' = gx W x)) (H3 : Hid (∀ W, (∃ x, W = gx w x) → Calls Try.prog 25 #[.slice A n c] W fun e W' => e = .returned (.int .i64 E) ∧ ∃ x, W' = gx W x)) :
    Calls Try.prog 11 #[flV tl rt dy fr to A n c] w fun e w' => e = .returned (.int .i64 (flE (decide (tl.size = 0)) nt nr dy fr to n E)) ∧ ∃ x, w' = gx w x := by
  by_cases hT : tl.size = 0 ∨ (0 < tl.size ∧ nt = true)
  · have hT' : decide (tl.size = 0) = true ∨ nt = true := by
      rcases hT with h | h
      · exact .inl (decide_eq_true h)
      · exact .inr h.2
    by_cases hr : nr = true
    · by_cases h9 : dy < 0 ∨ 1000000 < dy ∨ fr < 0 ∨ to < fr ∨ 4194304 ≤ to
      · rw [flE_9 hT' hr h9]
        by_cases g1 : dy < 0
        · exact rfl_a tl rt dy fr to A n c nt nr w H1 H2 hT hr g1
        by_cases g2 : 1000000 < dy
        · exact rfl_b tl rt dy fr to A n c nt nr w H1 H2 hT hr (by omega)
        by_cases g3 : fr < 0
        · exact rfl_c tl rt dy fr to A n c nt nr w H1 H2 hT hr (by omega)
        by_cases g4 : to < fr
        · exact rfl_d tl rt dy fr to A n c nt nr w H1 H2 hT hr (by omega)
        · exact rfl_e tl rt dy fr to A n c nt nr w H1 H2 hT hr (by omega)
      · by_cases h3 : 20000 ≤ to - fr ∨ 30 < n
        · rw [flE_3 hT' hr h9 h3]
          by_cases g1 : 20000 ≤ to - fr
          · exact rfl_f tl rt dy fr to A n c nt nr w H1 H2 hT hr (by omega)
          · exact rfl_g tl rt dy fr to A n c nt nr w H1 H2 hT hr (by omega)
        · rw [flE_E hT' hr h9 h3]
          exact rfl_h tl rt dy fr to A n c nt nr E w H1 H2 H3 hT hr (by omega)
    · have hr' : nr = false := by simpa using hr
      rw [flE_8 (.inr hr')]
      exact rfl_n2 tl rt dy fr to A n c nt nr w H1 H2 ⟨hT, hr'⟩
  · have hn : 0 < tl.size ∧ nt = false := by
      refine ⟨by omega, ?_⟩
      cases nt with
      | false => rfl
      | true => exact absurd (.inr ⟨by omega, rfl⟩) hT
    rw [flE_8 (.inl ⟨decide_eq_false (by omega), hn.2⟩)]
    exact rfl_n1 tl rt dy fr to A n c nt nr w H1 H2 hn
end Go.Proofs.Ytfbhjgaiejjfaaa
