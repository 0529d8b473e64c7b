/-
  Apply and Grain, the program's and the reference's: contracts.
-/
import Derived.Test.YtjlokobgdkkppaaDoorSCal2
namespace Go.Proofs.YtjlokobgdkkppaaDoor
open Go.RowKit
-- AT2

theorem Can.put {g : Nat → Ln} {n k : Nat} {lo hi v : Int} (hk : k < n) (h1 : (g k).f ≤ v) (h2 : v ≤ (g k).t) (h3 : lo ≤ (g k).a * v + (g k).b) (h4 : (g k).a * v + (g k).b ≤ hi) : Can g n lo hi v ((g k).a * v + (g k).b) := ⟨k, hk, h1, h2, rfl, h3, h4⟩
/-- No line of the first k has the value v with a number that can be. -/
def NoTo (g : Nat → Ln) (k : Nat) (lo hi v : Int) : Prop := ∀ m, ¬ Can g k lo hi v m
theorem NoTo.zero {g : Nat → Ln} {lo hi v : Int} : NoTo g 0 lo hi v := by rintro m ⟨k, hk, _⟩; omega
theorem NoTo.succ {g : Nat → Ln} {k : Nat} {lo hi v : Int} (h : NoTo g k lo hi v) (h' : ¬ ((g k).f ≤ v ∧ v ≤ (g k).t ∧ lo ≤ (g k).a * v + (g k).b ∧ (g k).a * v + (g k).b ≤ hi)) : NoTo g (k + 1) lo hi v := by
  intro m hm
  rcases hm.last with h1 | ⟨h1, h2, rfl, h3, h4⟩
  · exact h m h1
  · exact h' ⟨h1, h2, h3, h4⟩
theorem NoTo.only {g : Nat → Ln} {n k : Nat} {lo hi v : Int} (hG : Good g n) (hk : k < n) (h1 : (g k).f ≤ v) (h2 : v ≤ (g k).t) (h' : ¬ (lo ≤ (g k).a * v + (g k).b ∧ (g k).a * v + (g k).b ≤ hi)) : NoTo g n lo hi v := by
  rintro m ⟨j, hj, j1, j2, rfl, j3, j4⟩
  obtain rfl := hG.one hk hj h1 h2 j1 j2
  exact h' ⟨j3, j4⟩
/-- What apply leaves. -/
def AppPost (g : Nat → Ln) (n : Nat) (lo hi v : Int) (w : World) (e : Ending) (w' : World) : Prop := ∃ m is, e = .returned (.tuple #[.int .i64 m, .bool is]) ∧ App g n lo hi v m is ∧ ∃ x, w' = gx w x
theorem AppPost.no {g : Nat → Ln} {n : Nat} {lo hi v : Int} {w w' : World} (h : NoTo g n lo hi v) (hw : ∃ x, w' = gx w x) : AppPost g n lo hi v w (.returned (.tuple #[.int .i64 0, .bool false])) w' := ⟨0, false, rfl, .inr ⟨rfl, rfl, h⟩, hw⟩
theorem AppPost.yes {g : Nat → Ln} {n : Nat} {lo hi v m : Int} {w w' : World} (h : Can g n lo hi v m) (hw : ∃ x, w' = gx w x) : AppPost g n lo hi v w (.returned (.tuple #[.int .i64 m, .bool true])) w' := ⟨m, true, rfl, .inl ⟨rfl, h⟩, hw⟩

set_option maxHeartbeats 4000000 in
set_option maxRecDepth 100000 in
theorem apply_any (den : Int) (g : Nat → Ln) (n c : Nat) (A : Option Addr) (lo hi v : Int) (w : World) (hL : LnAt w g n A) (h0 : 0 < n) (hn : n ≤ 50) (hG : Good g n) :
    Calls Tryd.prog 84 #[calV den A n c lo hi, .int .i64 v] w (AppPost g n lo hi v w) := by
  obtain ⟨b, o, rfl, hbw, HC⟩ := hL.get h0
  clear hL
  go_enter Tryd.func84, Tryd.ntmps84
  go_wp2
  go_loopw [12] (fun i wr => ∃ k : Nat, k ≤ n ∧ i = .int .i64 k ∧ NoTo g k lo hi v ∧ ∃ x, wr = gx (w.alloc (.cells #[.int .i64 den, .slice (some ⟨b, o, none⟩) n c, .int .i64 lo, .int .i64 hi] 39)) x) (fun i _ => n - (intOf i).toNat)
  case atStart => exact ⟨0, Nat.zero_le _, rfl, NoTo.zero, Gx.refl _⟩
  case round =>
    obtain ⟨k, hk, rfl, hck, y, rfl⟩ := hrel
    have HCK := Lib.hid hck
    clear hck
    by_cases hlt : k < n
    · obtain ⟨c1, c2, c3, c4⟩ := HC.out k hlt
      have hok := hG.ok k hlt
      unfold lnOk at hok
      obtain ⟨o1, o2, o3, o4, o5, o6, o7, o8, o9⟩ := hok
      by_cases h1 : (g k).f ≤ v
      · have d1 : decide (v < (g k).f) = false := decide_eq_false (by omega)
        by_cases h2 : v ≤ (g k).t
        · have d2 : decide ((g k).t < v) = false := decide_eq_false (by omega)
          have m1 := mul_small o6 o7 (v := v) (by omega) (by omega)
          have hs1 : w.heap.size < w.heap.size + 1 + y.n := by omega
          have hs2 : w.heap.size < w.heap.size + 1 + y.n + 1 := by omega
          by_cases h3 : lo ≤ (g k).a * v + (g k).b
          · by_cases h4 : (g k).a * v + (g k).b ≤ hi
            · have HE := Lib.hid (Can.put hlt h1 h2 h3 h4)
              have d3 : decide (lo ≤ (g k).a * v + (g k).b) = true := decide_eq_true h3
              have d4 : decide ((g k).a * v + (g k).b ≤ hi) = true := decide_eq_true h4
              clear h1 h2
              go_wp2_with (go_at_call 100; refine (numberOf_any _ _ _ _ _ _ m1 o8 o9).mono ?_; rintro e w' ⟨rfl, x, rfl⟩)
              go_ret2
              exact AppPost.yes HE.out (by repeat (first | (with_reducible exact Gx.refl _) | (with_reducible assumption) | (with_reducible refine Gx.gx ?_) | (with_reducible refine Gx.alloc ?_) | (with_reducible refine Gx.drew ?_) | (with_reducible refine Gx.drewN ?_) | (with_reducible refine Gx.setRow ?_ (by simp)) | (with_reducible refine Gx.setCell ?_ (by simp))))
            · have HE := Lib.hid (HCK.out.succ (fun h => h4 h.2.2.2))
              have d3 : decide (lo ≤ (g k).a * v + (g k).b) = true := decide_eq_true h3
              have d4 : decide ((g k).a * v + (g k).b ≤ hi) = false := decide_eq_false h4
              clear h1 h2 h3 h4
              go_wp2_with (go_at_call 100; refine (numberOf_any _ _ _ _ _ _ m1 o8 o9).mono ?_; rintro e w' ⟨rfl, x, rfl⟩)
              go_roundw
              case rel => exact ⟨k + 1, by omega, by go_num, HE.out, (by repeat (first | (with_reducible exact Gx.refl _) | (with_reducible assumption) | (with_reducible refine Gx.gx ?_) | (with_reducible refine Gx.alloc ?_) | (with_reducible refine Gx.drew ?_) | (with_reducible refine Gx.drewN ?_) | (with_reducible refine Gx.setRow ?_ (by simp)) | (with_reducible refine Gx.setCell ?_ (by simp))))⟩
              case measure => simp [intOf]; omega
          · have HE := Lib.hid (HCK.out.succ (fun h => h3 h.2.2.1))
            have d3 : decide (lo ≤ (g k).a * v + (g k).b) = false := decide_eq_false h3
            clear h1 h2 h3
            go_wp2_with (go_at_call 100; refine (numberOf_any _ _ _ _ _ _ m1 o8 o9).mono ?_; rintro e w' ⟨rfl, x, rfl⟩)
            go_roundw
            case rel => exact ⟨k + 1, by omega, by go_num, HE.out, (by repeat (first | (with_reducible exact Gx.refl _) | (with_reducible assumption) | (with_reducible refine Gx.gx ?_) | (with_reducible refine Gx.alloc ?_) | (with_reducible refine Gx.drew ?_) | (with_reducible refine Gx.drewN ?_) | (with_reducible refine Gx.setRow ?_ (by simp)) | (with_reducible refine Gx.setCell ?_ (by simp))))⟩
            case measure => simp [intOf]; omega
        · have HE := Lib.hid (HCK.out.succ (fun h => h2 h.2.1))
          have d2 : decide ((g k).t < v) = true := decide_eq_true (by omega)
          clear h1 h2
          go_wp2
          go_roundw
          case rel => exact ⟨k + 1, by omega, by go_num, HE.out, (by repeat (first | (with_reducible exact Gx.refl _) | (with_reducible assumption) | (with_reducible refine Gx.gx ?_) | (with_reducible refine Gx.alloc ?_) | (with_reducible refine Gx.drew ?_) | (with_reducible refine Gx.drewN ?_) | (with_reducible refine Gx.setRow ?_ (by simp)) | (with_reducible refine Gx.setCell ?_ (by simp))))⟩
          case measure => simp [intOf]; omega
      · have HE := Lib.hid (HCK.out.succ (fun h => h1 h.1))
        have d1 : decide (v < (g k).f) = true := decide_eq_true (by omega)
        clear h1
        go_wp2
        go_roundw
        case rel => exact ⟨k + 1, by omega, by go_num, HE.out, (by repeat (first | (with_reducible exact Gx.refl _) | (with_reducible assumption) | (with_reducible refine Gx.gx ?_) | (with_reducible refine Gx.alloc ?_) | (with_reducible refine Gx.drew ?_) | (with_reducible refine Gx.drewN ?_) | (with_reducible refine Gx.setRow ?_ (by simp)) | (with_reducible refine Gx.setCell ?_ (by simp))))⟩
        case measure => simp [intOf]; omega
    · obtain rfl : k = n := by omega
      go_wp2
      go_ret2
      exact AppPost.no HCK.out (by repeat (first | (with_reducible exact Gx.refl _) | (with_reducible assumption) | (with_reducible refine Gx.gx ?_) | (with_reducible refine Gx.alloc ?_) | (with_reducible refine Gx.drew ?_) | (with_reducible refine Gx.drewN ?_) | (with_reducible refine Gx.setRow ?_ (by simp)) | (with_reducible refine Gx.setCell ?_ (by simp))))
set_option maxHeartbeats 4000000 in
set_option maxRecDepth 100000 in
theorem Rapply_any (den : Int) (g : Nat → Ln) (n c : Nat) (A : Option Addr) (lo hi v : Int) (w : World) (hL : LnAt w g n A) (h0 : 0 < n) (hn : n ≤ 50) (hG : Good g n) :
    Calls Tryd.prog 86 #[calV den A n c lo hi, .int .i64 v] w (AppPost g n lo hi v w) := by
  obtain ⟨b, o, rfl, hbw, HC⟩ := hL.get h0
  clear hL
  go_enter Tryd.func86, Tryd.ntmps86
  go_wp2
  go_loopw [6] (fun i wr => ∃ k : Nat, k ≤ n ∧ i = .int .i64 k ∧ NoTo g k lo hi v ∧ ∃ x, wr = gx (w.alloc (.cells #[.int .i64 den, .slice (some ⟨b, o, none⟩) n c, .int .i64 lo, .int .i64 hi] 39)) x) (fun i _ => n - (intOf i).toNat)
  case atStart => exact ⟨0, Nat.zero_le _, rfl, NoTo.zero, Gx.refl _⟩
  case round =>
    obtain ⟨k, hk, rfl, hck, y, rfl⟩ := hrel
    have HCK := Lib.hid hck
    clear hck
    by_cases hlt : k < n
    · obtain ⟨c1, c2, c3, c4⟩ := HC.out k hlt
      have hok := hG.ok k hlt
      unfold lnOk at hok
      obtain ⟨o1, o2, o3, o4, o5, o6, o7, o8, o9⟩ := hok
      by_cases h1 : (g k).f ≤ v
      · have d1 : decide ((g k).f ≤ v) = true := decide_eq_true h1
        by_cases h2 : v ≤ (g k).t
        · have d2 : decide (v ≤ (g k).t) = true := decide_eq_true h2
          have m1 := mul_small o6 o7 (v := v) (by omega) (by omega)
          have hs1 : w.heap.size < w.heap.size + 1 + y.n := by omega
          have hs2 : w.heap.size < w.heap.size + 1 + y.n + 1 := by omega
          by_cases h3 : lo ≤ (g k).a * v + (g k).b ∧ (g k).a * v + (g k).b ≤ hi
          · have HE := Lib.hid (Can.put hlt h1 h2 h3.1 h3.2)
            have b1 : inB lo hi ((g k).a * v + (g k).b) = true := inB_iff.2 h3
            obtain ⟨p, hp⟩ : ∃ p, p = (g k).a * v := ⟨_, rfl⟩
            rw [← hp] at m1 b1 HE
            have w1 : IntKind.i64.wrap ((g k).a * v) = p := by rw [← hp]; exact IntWalk.i64_in _ (by omega)
            clear h1 h2 h3 hp
            go_wp2_with (go_at_call 57; refine (outside_any _ _ _ _).mono ?_; rw [b1]; rintro e w' ⟨rfl, rfl⟩)
            go_ret2
            exact AppPost.yes HE.out (by repeat (first | (with_reducible exact Gx.refl _) | (with_reducible assumption) | (with_reducible refine Gx.gx ?_) | (with_reducible refine Gx.alloc ?_) | (with_reducible refine Gx.drew ?_) | (with_reducible refine Gx.drewN ?_) | (with_reducible refine Gx.setRow ?_ (by simp)) | (with_reducible refine Gx.setCell ?_ (by simp))))
          · have HE := Lib.hid (NoTo.only hG hlt h1 h2 h3)
            have b1 : inB lo hi ((g k).a * v + (g k).b) = false := inB_no.2 h3
            obtain ⟨p, hp⟩ : ∃ p, p = (g k).a * v := ⟨_, rfl⟩
            rw [← hp] at m1 b1
            have w1 : IntKind.i64.wrap ((g k).a * v) = p := by rw [← hp]; exact IntWalk.i64_in _ (by omega)
            clear h1 h2 h3 hp
            go_wp2_with (go_at_call 57; refine (outside_any _ _ _ _).mono ?_; rw [b1]; rintro e w' ⟨rfl, rfl⟩)
            go_ret2
            exact AppPost.no HE.out (by repeat (first | (with_reducible exact Gx.refl _) | (with_reducible assumption) | (with_reducible refine Gx.gx ?_) | (with_reducible refine Gx.alloc ?_) | (with_reducible refine Gx.drew ?_) | (with_reducible refine Gx.drewN ?_) | (with_reducible refine Gx.setRow ?_ (by simp)) | (with_reducible refine Gx.setCell ?_ (by simp))))
        · have HE := Lib.hid (HCK.out.succ (fun h => h2 h.2.1))
          have d2 : decide (v ≤ (g k).t) = false := decide_eq_false h2
          clear h1 h2
          go_wp2
          go_roundw
          case rel => exact ⟨k + 1, by omega, by go_num, HE.out, (by repeat (first | (with_reducible exact Gx.refl _) | (with_reducible assumption) | (with_reducible refine Gx.gx ?_) | (with_reducible refine Gx.alloc ?_) | (with_reducible refine Gx.drew ?_) | (with_reducible refine Gx.drewN ?_) | (with_reducible refine Gx.setRow ?_ (by simp)) | (with_reducible refine Gx.setCell ?_ (by simp))))⟩
          case measure => simp [intOf]; omega
      · have HE := Lib.hid (HCK.out.succ (fun h => h1 h.1))
        have d1 : decide ((g k).f ≤ v) = false := decide_eq_false h1
        clear h1
        go_wp2
        go_roundw
        case rel => exact ⟨k + 1, by omega, by go_num, HE.out, (by repeat (first | (with_reducible exact Gx.refl _) | (with_reducible assumption) | (with_reducible refine Gx.gx ?_) | (with_reducible refine Gx.alloc ?_) | (with_reducible refine Gx.drew ?_) | (with_reducible refine Gx.drewN ?_) | (with_reducible refine Gx.setRow ?_ (by simp)) | (with_reducible refine Gx.setCell ?_ (by simp))))⟩
        case measure => simp [intOf]; omega
    · obtain rfl : k = n := by omega
      go_wp2
      go_ret2
      exact AppPost.no HCK.out (by repeat (first | (with_reducible exact Gx.refl _) | (with_reducible assumption) | (with_reducible refine Gx.gx ?_) | (with_reducible refine Gx.alloc ?_) | (with_reducible refine Gx.drew ?_) | (with_reducible refine Gx.drewN ?_) | (with_reducible refine Gx.setRow ?_ (by simp)) | (with_reducible refine Gx.setCell ?_ (by simp))))
end Go.Proofs.YtjlokobgdkkppaaDoor
