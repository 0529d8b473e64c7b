/-
  The law SeriesNearestIsNearest, walked.
-/
import Derived.Test.YtkfolbhdjppgaaaSNear4
import Derived.Test.YtkfolbhdjppgaaaSHolds
namespace Go.Proofs.Ytkfolbhdjppgaaa
open Go.RowKit
-- AT2

theorem App.ex (g : Nat → Ln) (n : Nat) (lo hi v : Int) : ∃ m is, App g n lo hi v m is := by
  by_cases h : ∃ m, Can g n lo hi v m
  · obtain ⟨m, hm⟩ := h; exact ⟨m, true, .inl ⟨rfl, hm⟩⟩
  · exact ⟨0, false, .inr ⟨rfl, rfl, fun m hm => h ⟨m, hm⟩⟩⟩
theorem ApplyIs.ex (den : Int) (g : Nat → Ln) (n : Nat) (lo hi v : Int) : ∃ m is er, ApplyIs den g n lo hi v m is er := by
  by_cases h : calE den g n lo hi = 0
  · obtain ⟨m, is, ha⟩ := App.ex g n lo hi v; exact ⟨m, is, 0, .inr ⟨h, rfl, ha⟩⟩
  · exact ⟨0, false, _, .inl ⟨h, rfl, rfl, rfl⟩⟩
theorem Best.ex {g : Nat → Ln} {n : Nat} (hG : Good g n) (lo hi x : Int) : ∀ k, k ≤ n → ∃ v d s, Best g k lo hi x v d s
  | 0, _ => ⟨0, 0, false, Best.none⟩
  | k + 1, hk => by
    obtain ⟨v, d, s, hb⟩ := Best.ex hG lo hi x k (by omega)
    by_cases h : loV (g k) lo hi ≤ hiV (g k) lo hi
    · have hu := nearV_best (l := g k) (x := x) h
      generalize nearV (g k) (loV (g k) lo hi) (hiV (g k) lo hi) x = u at *
      by_cases hd : s = true → sz ((g k).a * u + (g k).b - x) < d
      · exact ⟨_, _, _, hb.take hu hd⟩
      · have hs : s = true := Classical.byContradiction fun h => hd (fun h2 => absurd h2 h)
        have hd2 : ¬ sz ((g k).a * u + (g k).b - x) < d := fun h => hd (fun _ => h)
        subst hs
        exact ⟨_, _, _, hb.stay hG (by omega) hu (by omega)⟩
    · exact ⟨_, _, _, hb.skip (none_of (by omega))⟩
theorem NearIs.ex (den : Int) (g : Nat → Ln) (n : Nat) (lo hi x : Int) : ∃ v er, NearIs den g n lo hi x v er := by
  by_cases h : calE den g n lo hi = 0
  · by_cases hx : isN x
    · obtain ⟨v, d, s, hb⟩ := Best.ex (calE_ok h).2.2.1 lo hi x n (Nat.le_refl _)
      exact ⟨_, _, .inr (.inr ⟨h, hx, hb.done⟩)⟩
    · exact ⟨_, _, .inr (.inl ⟨h, hx, rfl, rfl⟩)⟩
  · exact ⟨_, _, .inl ⟨h, rfl, rfl⟩⟩
theorem Apply_is {den : Int} {g : Nat → Ln} {n c : Nat} {A : Option Addr} {lo hi v m er : Int} {is : Bool} (w : World) (hL : LnAt w g n A) (h : ApplyIs den g n lo hi v m is er) :
    Calls Try.prog 8 #[calV den A n c lo hi, .int .i64 v] w fun e w' => e = .returned (.tuple #[.int .i64 m, .bool is, .int .i64 er]) ∧ ∃ x, w' = gx w x :=
  (Apply_any den g n c A lo hi v w hL).mono fun e w' ⟨m', is', er', he, h', hx⟩ => by
    obtain ⟨rfl, rfl, rfl⟩ := h'.eq h; exact ⟨he, hx⟩
theorem Nearest_is {den : Int} {g : Nat → Ln} {n c : Nat} {A : Option Addr} {lo hi x v er : Int} (w : World) (hL : LnAt w g n A) (h : NearIs den g n lo hi x v er) :
    Calls Try.prog 12 #[calV den A n c lo hi, .int .i64 x] w fun e w' => e = .returned (.tuple #[.int .i64 v, .int .i64 er]) ∧ ∃ x, w' = gx w x :=
  (Nearest_any den g n c A lo hi x w hL).mono fun e w' ⟨v', er', he, h', hx⟩ => by
    obtain ⟨rfl, rfl⟩ := h'.eq h; exact ⟨he, hx⟩
/-- The law, over what its callees return. -/
theorem nearLaw_bad (den : Int) (n c : Nat) (A : Option Addr) (lo hi x v : Int) (w : World) (u er : Int) (he : er ≠ 0)
    (HN : Hid (∀ W, (∃ x, W = gx w x) → Calls Try.prog 12 #[calV den A n c lo hi, .int .i64 x] W fun e w' => e = .returned (.tuple #[.int .i64 u, .int .i64 er]) ∧ ∃ x, w' = gx W x)) :
    Calls Try.prog 4 #[calV den A n c lo hi, .int .i64 x, .int .i64 v] w fun e w' => e = .returned (.bool true) ∧ ∃ x, w' = gx w x := by
  have n1 := ne0 he
  have n2 := ne0' he
  clear he
  go_enter Try.func4, Try.ntmps4
  go_wp2_with first
    | (go_at_call 12; refine (HN.out _ (by repeat (first | (with_reducible exact Gx.refl _) | (with_reducible assumption) | (with_reducible refine Gx.gx ?_) | (with_reducible refine Gx.alloc ?_) | (with_reducible refine Gx.drew ?_) | (with_reducible refine Gx.drewN ?_) | (with_reducible refine Gx.setRow ?_ (by simp)) | (with_reducible refine Gx.setCell ?_ (by simp))))).mono ?_; rintro e w' ⟨rfl, x1, rfl⟩)
    | (go_at_call 16; refine (holds_any _).mono ?_; rintro e w' ⟨rfl, x2, rfl⟩)
  go_ret
  exact ⟨rfl, (by repeat (first | (with_reducible exact Gx.refl _) | (with_reducible assumption) | (with_reducible refine Gx.gx ?_) | (with_reducible refine Gx.alloc ?_) | (with_reducible refine Gx.drew ?_) | (with_reducible refine Gx.drewN ?_) | (with_reducible refine Gx.setRow ?_ (by simp)) | (with_reducible refine Gx.setCell ?_ (by simp))))⟩
set_option maxHeartbeats 2000000 in
set_option maxRecDepth 100000 in
theorem nearLaw_good (den : Int) (n c : Nat) (A : Option Addr) (lo hi x v : Int) (w : World) (u m m2 : Int) (too : Bool) (hx1 : -1125899906842624 ≤ x) (hx2 : x ≤ 1125899906842624) (hm1 : -1125899906842624 ≤ m) (hm2 : m ≤ 1125899906842624)
    (hk : too = true → (-1125899906842624 ≤ m2 ∧ m2 ≤ 1125899906842624) ∧ Nearer x m u m2 v)
    (HN : Hid (∀ W, (∃ x, W = gx w x) → Calls Try.prog 12 #[calV den A n c lo hi, .int .i64 x] W fun e w' => e = .returned (.tuple #[.int .i64 u, .int .i64 0]) ∧ ∃ x, w' = gx W x))
    (HA : Hid (∀ W, (∃ x, W = gx w x) → Calls Try.prog 8 #[calV den A n c lo hi, .int .i64 u] W fun e w' => e = .returned (.tuple #[.int .i64 m, .bool true, .int .i64 0]) ∧ ∃ x, w' = gx W x))
    (HB : Hid (∀ W, (∃ x, W = gx w x) → Calls Try.prog 8 #[calV den A n c lo hi, .int .i64 v] W fun e w' => e = .returned (.tuple #[.int .i64 m2, .bool too, .int .i64 0]) ∧ ∃ x, w' = gx W x)) :
    Calls Try.prog 4 #[calV den A n c lo hi, .int .i64 x, .int .i64 v] w fun e w' => e = .returned (.bool true) ∧ ∃ x, w' = gx w x := by
  cases too with
  | false =>
    clear hk
    go_enter Try.func4, Try.ntmps4
    go_wp2_with first
      | (go_at_call 12; refine (HN.out _ (by repeat (first | (with_reducible exact Gx.refl _) | (with_reducible assumption) | (with_reducible refine Gx.gx ?_) | (with_reducible refine Gx.alloc ?_) | (with_reducible refine Gx.drew ?_) | (with_reducible refine Gx.drewN ?_) | (with_reducible refine Gx.setRow ?_ (by simp)) | (with_reducible refine Gx.setCell ?_ (by simp))))).mono ?_; rintro e w' ⟨rfl, x1, rfl⟩)
      | (go_at_call 8; (with_reducible refine (HA.out _ (by repeat (first | (with_reducible exact Gx.refl _) | (with_reducible assumption) | (with_reducible refine Gx.gx ?_) | (with_reducible refine Gx.alloc ?_) | (with_reducible refine Gx.drew ?_) | (with_reducible refine Gx.drewN ?_) | (with_reducible refine Gx.setRow ?_ (by simp)) | (with_reducible refine Gx.setCell ?_ (by simp))))).mono ?_); rintro e w' ⟨rfl, x1, rfl⟩; have HA := HB)
      | (go_at_call 8; (with_reducible refine (HB.out _ (by repeat (first | (with_reducible exact Gx.refl _) | (with_reducible assumption) | (with_reducible refine Gx.gx ?_) | (with_reducible refine Gx.alloc ?_) | (with_reducible refine Gx.drew ?_) | (with_reducible refine Gx.drewN ?_) | (with_reducible refine Gx.setRow ?_ (by simp)) | (with_reducible refine Gx.setCell ?_ (by simp))))).mono ?_); rintro e w' ⟨rfl, x1, rfl⟩)
      | (go_at_call 16; refine (holds_any _).mono ?_; rintro e w' ⟨rfl, x2, rfl⟩)
    go_ret
    exact ⟨rfl, (by repeat (first | (with_reducible exact Gx.refl _) | (with_reducible assumption) | (with_reducible refine Gx.gx ?_) | (with_reducible refine Gx.alloc ?_) | (with_reducible refine Gx.drew ?_) | (with_reducible refine Gx.drewN ?_) | (with_reducible refine Gx.setRow ?_ (by simp)) | (with_reducible refine Gx.setCell ?_ (by simp))))⟩
  | true => 
    obtain ⟨⟨k1, k2⟩, hk⟩ := hk rfl
    unfold Nearer at hk
    have s1 := sz_cases (m - x)
    have s2 := sz_cases (m2 - x)
    have HK : Hid ((sz (m - x) < sz (m2 - x) ∨ sz (m - x) = sz (m2 - x) ∧ u ≤ v) ∧ (0 ≤ m - x ∧ sz (m - x) = m - x ∨ m - x < 0 ∧ sz (m - x) = -(m - x)) ∧ (0 ≤ m2 - x ∧ sz (m2 - x) = m2 - x ∨ m2 - x < 0 ∧ sz (m2 - x) = -(m2 - x))) := ⟨hk, s1, s2⟩
    clear hk s1 s2
    have w1 : IntKind.i64.wrap (m - x) = m - x := IntWalk.i64_in _ (by omega)
    have w2 : IntKind.i64.wrap (x - m) = x - m := IntWalk.i64_in _ (by omega)
    have w3 : IntKind.i64.wrap (m2 - x) = m2 - x := IntWalk.i64_in _ (by omega)
    have w4 : IntKind.i64.wrap (x - m2) = x - m2 := IntWalk.i64_in _ (by omega)
    rcases (by omega : m < x ∨ x ≤ m) with q1 | q1 <;> rcases (by omega : m2 < x ∨ x ≤ m2) with q2 | q2
    all_goals go_enter Try.func4, Try.ntmps4
    all_goals go_wp2_with first
      | (go_at_call 12; refine (HN.out _ (by repeat (first | (with_reducible exact Gx.refl _) | (with_reducible assumption) | (with_reducible refine Gx.gx ?_) | (with_reducible refine Gx.alloc ?_) | (with_reducible refine Gx.drew ?_) | (with_reducible refine Gx.drewN ?_) | (with_reducible refine Gx.setRow ?_ (by simp)) | (with_reducible refine Gx.setCell ?_ (by simp))))).mono ?_; rintro e w' ⟨rfl, x1, rfl⟩)
      | (go_at_call 8; (with_reducible refine (HA.out _ (by repeat (first | (with_reducible exact Gx.refl _) | (with_reducible assumption) | (with_reducible refine Gx.gx ?_) | (with_reducible refine Gx.alloc ?_) | (with_reducible refine Gx.drew ?_) | (with_reducible refine Gx.drewN ?_) | (with_reducible refine Gx.setRow ?_ (by simp)) | (with_reducible refine Gx.setCell ?_ (by simp))))).mono ?_); rintro e w' ⟨rfl, x1, rfl⟩)
      | (go_at_call 8; (with_reducible refine (HB.out _ (by repeat (first | (with_reducible exact Gx.refl _) | (with_reducible assumption) | (with_reducible refine Gx.gx ?_) | (with_reducible refine Gx.alloc ?_) | (with_reducible refine Gx.drew ?_) | (with_reducible refine Gx.drewN ?_) | (with_reducible refine Gx.setRow ?_ (by simp)) | (with_reducible refine Gx.setCell ?_ (by simp))))).mono ?_); rintro e w' ⟨rfl, x1, rfl⟩)
      | (go_at_call 16; refine (holds_any _).mono ?_; rintro e w' ⟨rfl, x2, rfl⟩)
    all_goals first
      | (go_ret; exact ⟨rfl, (by repeat (first | (with_reducible exact Gx.refl _) | (with_reducible assumption) | (with_reducible refine Gx.gx ?_) | (with_reducible refine Gx.alloc ?_) | (with_reducible refine Gx.drew ?_) | (with_reducible refine Gx.drewN ?_) | (with_reducible refine Gx.setRow ?_ (by simp)) | (with_reducible refine Gx.setCell ?_ (by simp))))⟩)
      | (exfalso; have := HK.out; first | omega | (simp_all; done) | (simp_all; omega))
theorem nearLaw (den : Int) (g : Nat → Ln) (n c : Nat) (A : Option Addr) (lo hi x v : Int) (w : World) (hL : LnAt w g n A) :
    Calls Try.prog 4 #[calV den A n c lo hi, .int .i64 x, .int .i64 v] w fun e w' => e = .returned (.bool true) ∧ ∃ x, w' = gx w x := by
  obtain ⟨u, er, HN⟩ := NearIs.ex den g n lo hi x
  have CN : Hid (∀ W, (∃ x, W = gx w x) → Calls Try.prog 12 #[calV den A n c lo hi, .int .i64 x] W fun e w' => e = .returned (.tuple #[.int .i64 u, .int .i64 er]) ∧ ∃ x, w' = gx W x) := by
    rintro W ⟨y, rfl⟩; exact Nearest_is _ hL.gx HN
  by_cases he : er = 0
  · subst he
    have h3 : calE den g n lo hi = 0 ∧ isN x ∧ Near g n lo hi x u 0 := by
      rcases HN with ⟨a, _, b⟩ | ⟨_, _, _, h⟩ | h
      · exact absurd b.symm a
      · omega
      · exact h
    obtain ⟨h4, h5, h6⟩ := h3
    obtain ⟨g1, g2, g3, g4, g5, g6⟩ := calE_ok h4
    rcases h6 with ⟨_, m, hc, hbest⟩ | ⟨h, _⟩
    · obtain ⟨m2, too, er2, HB⟩ := ApplyIs.ex den g n lo hi v
      have HA : ApplyIs den g n lo hi u m true 0 := .inr ⟨h4, rfl, .inl ⟨rfl, hc⟩⟩
      have CA : Hid (∀ W, (∃ x, W = gx w x) → Calls Try.prog 8 #[calV den A n c lo hi, .int .i64 u] W fun e w' => e = .returned (.tuple #[.int .i64 m, .bool true, .int .i64 0]) ∧ ∃ x, w' = gx W x) := by
        rintro W ⟨y, rfl⟩; exact Apply_is _ hL.gx HA
      have CB : Hid (∀ W, (∃ x, W = gx w x) → Calls Try.prog 8 #[calV den A n c lo hi, .int .i64 v] W fun e w' => e = .returned (.tuple #[.int .i64 m2, .bool too, .int .i64 er2]) ∧ ∃ x, w' = gx W x) := by
        rintro W ⟨y, rfl⟩; exact Apply_is _ hL.gx HB
      rcases HB with ⟨a, _⟩ | ⟨_, rfl, HB⟩
      · exact absurd h4 a
      · unfold isN at h5 g4 g5
        have hm : lo ≤ m ∧ m ≤ hi := by obtain ⟨k, _, _, _, _, h1, h2⟩ := hc; exact ⟨h1, h2⟩
        refine nearLaw_good den n c A lo hi x v w u m m2 too h5.1 h5.2 (by omega) (by omega) (fun ht => ?_) CN CA CB
        rcases HB with ⟨_, hc2⟩ | ⟨h, _⟩
        · have hm2 : lo ≤ m2 ∧ m2 ≤ hi := by obtain ⟨k, _, _, _, _, h1, h2⟩ := hc2; exact ⟨h1, h2⟩
          exact ⟨⟨by omega, by omega⟩, hbest v m2 hc2⟩
        · rw [ht] at h; cases h
    · omega
  · exact nearLaw_bad den n c A lo hi x v w u er he CN
end Go.Proofs.Ytkfolbhdjppgaaa
