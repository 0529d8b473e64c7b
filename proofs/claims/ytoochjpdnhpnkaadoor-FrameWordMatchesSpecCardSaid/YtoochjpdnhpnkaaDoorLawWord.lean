/-
  FrameWordMatchesSpec: the walk. For every number, Word, Data and Sync of the package and of the reference return the same.
-/
import Derived.Test.YtoochjpdnhpnkaaDoorFramed
namespace Go.Proofs.YtoochjpdnhpnkaaDoor
open Go.RowKit

def wdV (n : Int) : Int := if 0 ≤ n ∧ n ≤ 2047 then wordI n else 0
def wdE (n : Int) : Int := if 0 ≤ n ∧ n ≤ 2047 then 0 else 9
def dtV (n : Int) : Int := if 0 ≤ n ∧ n ≤ 4095 then n % 2048 else 0
def dtB (n : Int) : Bool := if 0 ≤ n ∧ n ≤ 4095 then oddI n else false
def dtE (n : Int) : Int := if 0 ≤ n ∧ n ≤ 4095 then 0 else 9
def syV (n : Int) : Int := if 0 ≤ n ∧ n < 4194304 then syncI n else 0
def syE (n : Int) : Int := if 0 ≤ n ∧ n < 4194304 then 0 else 9
theorem wd_in {n : Int} (h : 0 ≤ n ∧ n ≤ 2047) : wdV n = wordI n ∧ wdE n = 0 := by unfold wdV wdE; rw [if_pos h, if_pos h]; exact ⟨rfl, rfl⟩
theorem wd_out {n : Int} (h : ¬ (0 ≤ n ∧ n ≤ 2047)) : wdV n = 0 ∧ wdE n = 9 := by unfold wdV wdE; rw [if_neg h, if_neg h]; exact ⟨rfl, rfl⟩
theorem dt_in {n : Int} (h : 0 ≤ n ∧ n ≤ 4095) : dtV n = n % 2048 ∧ dtB n = oddI n ∧ dtE n = 0 := by unfold dtV dtB dtE; rw [if_pos h, if_pos h, if_pos h]; exact ⟨rfl, rfl, rfl⟩
theorem dt_out {n : Int} (h : ¬ (0 ≤ n ∧ n ≤ 4095)) : dtV n = 0 ∧ dtB n = false ∧ dtE n = 9 := by unfold dtV dtB dtE; rw [if_neg h, if_neg h, if_neg h]; exact ⟨rfl, rfl, rfl⟩
theorem sy_in {n : Int} (h : 0 ≤ n ∧ n < 4194304) : syV n = syncI n ∧ syE n = 0 := by unfold syV syE; rw [if_pos h, if_pos h]; exact ⟨rfl, rfl⟩
theorem sy_out {n : Int} (h : ¬ (0 ≤ n ∧ n < 4194304)) : syV n = 0 ∧ syE n = 9 := by unfold syV syE; rw [if_neg h, if_neg h]; exact ⟨rfl, rfl⟩
attribute [irreducible] wdV wdE dtV dtB dtE syV syE

set_option maxHeartbeats 400000 in
theorem Word_any (n : Int) (w : World) : Calls Tryd.prog 16 #[.int .i64 n] w fun e w' => e = .returned (.tuple #[.int .i64 (wdV n), .int .i64 (wdE n)]) ∧ ∃ x, w' = gx w x := by
  rcases Int.lt_or_le n 0 with h0 | h0
  · have H := Lib.hid (wd_out (n := n) (by omega))
    go_enter Tryd.func16, Tryd.ntmps16
    go_wp2
    go_ret2
    exact ⟨by rw [H.out.1, H.out.2]; rfl, (by repeat (first | (with_reducible exact Gx.refl _) | (with_reducible refine Gx.gx ?_) | (with_reducible refine Gx.alloc ?_) | (with_reducible refine Gx.drew ?_) | (with_reducible refine Gx.drewN ?_) | (with_reducible refine Gx.setRow ?_ (by simp)) | (with_reducible refine Gx.setCell ?_ (by simp))))⟩
  · rcases Int.lt_or_le 2047 n with h1 | h1
    · have H := Lib.hid (wd_out (n := n) (by omega))
      go_enter Tryd.func16, Tryd.ntmps16
      go_wp2
      go_ret2
      exact ⟨by rw [H.out.1, H.out.2]; rfl, (by repeat (first | (with_reducible exact Gx.refl _) | (with_reducible refine Gx.gx ?_) | (with_reducible refine Gx.alloc ?_) | (with_reducible refine Gx.drew ?_) | (with_reducible refine Gx.drewN ?_) | (with_reducible refine Gx.setRow ?_ (by simp)) | (with_reducible refine Gx.setCell ?_ (by simp))))⟩
    · have H := Lib.hid (wd_in ⟨h0, h1⟩)
      have q := wordI_bd n
      have q0 := q.1
      have q1 := q.2
      clear q
      go_enter Tryd.func16, Tryd.ntmps16
      go_wp2_with (go_at_call 73; refine (withParity_any _ h0 (by omega) _).mono ?_; rintro e w' ⟨rfl, z, rfl⟩)
      go_ret2
      exact ⟨by rw [H.out.1, H.out.2]; rfl, (by repeat (first | (with_reducible exact Gx.refl _) | (with_reducible refine Gx.gx ?_) | (with_reducible refine Gx.alloc ?_) | (with_reducible refine Gx.drew ?_) | (with_reducible refine Gx.drewN ?_) | (with_reducible refine Gx.setRow ?_ (by simp)) | (with_reducible refine Gx.setCell ?_ (by simp))))⟩

set_option maxHeartbeats 400000 in
theorem RWord_any (n : Int) (w : World) : Calls Tryd.prog 17 #[.int .i64 n] w fun e w' => e = .returned (.tuple #[.int .i64 (wdV n), .int .i64 (wdE n)]) ∧ ∃ x, w' = gx w x := by
  rcases Int.lt_or_le n 0 with h0 | h0
  · have H := Lib.hid (wd_out (n := n) (by omega))
    go_enter Tryd.func17, Tryd.ntmps17
    go_wp2
    go_ret2
    exact ⟨by rw [H.out.1, H.out.2]; rfl, (by repeat (first | (with_reducible exact Gx.refl _) | (with_reducible refine Gx.gx ?_) | (with_reducible refine Gx.alloc ?_) | (with_reducible refine Gx.drew ?_) | (with_reducible refine Gx.drewN ?_) | (with_reducible refine Gx.setRow ?_ (by simp)) | (with_reducible refine Gx.setCell ?_ (by simp))))⟩
  · rcases Int.lt_or_le 2047 n with h1 | h1
    · have H := Lib.hid (wd_out (n := n) (by omega))
      go_enter Tryd.func17, Tryd.ntmps17
      go_wp2
      go_ret2
      exact ⟨by rw [H.out.1, H.out.2]; rfl, (by repeat (first | (with_reducible exact Gx.refl _) | (with_reducible refine Gx.gx ?_) | (with_reducible refine Gx.alloc ?_) | (with_reducible refine Gx.drew ?_) | (with_reducible refine Gx.drewN ?_) | (with_reducible refine Gx.setRow ?_ (by simp)) | (with_reducible refine Gx.setCell ?_ (by simp))))⟩
    · have H := Lib.hid (wd_in ⟨h0, h1⟩)
      go_enter Tryd.func17, Tryd.ntmps17
      go_wp2_with (go_at_call 74; refine (word_any _ h0 h1 _).mono ?_; rintro e w' ⟨rfl, rfl⟩)
      go_ret2
      exact ⟨by rw [H.out.1, H.out.2]; rfl, (by repeat (first | (with_reducible exact Gx.refl _) | (with_reducible refine Gx.gx ?_) | (with_reducible refine Gx.alloc ?_) | (with_reducible refine Gx.drew ?_) | (with_reducible refine Gx.drewN ?_) | (with_reducible refine Gx.setRow ?_ (by simp)) | (with_reducible refine Gx.setCell ?_ (by simp))))⟩

set_option maxHeartbeats 400000 in
theorem Data_any (n : Int) (w : World) : Calls Tryd.prog 18 #[.int .i64 n] w fun e w' => e = .returned (.tuple #[.int .i64 (dtV n), .bool (dtB n), .int .i64 (dtE n)]) ∧ ∃ x, w' = gx w x := by
  rcases Int.lt_or_le n 0 with h0 | h0
  · have H := Lib.hid (dt_out (n := n) (by omega))
    go_enter Tryd.func18, Tryd.ntmps18
    go_wp2
    go_ret3
    exact ⟨by rw [H.out.1, H.out.2.1, H.out.2.2]; rfl, (by repeat (first | (with_reducible exact Gx.refl _) | (with_reducible refine Gx.gx ?_) | (with_reducible refine Gx.alloc ?_) | (with_reducible refine Gx.drew ?_) | (with_reducible refine Gx.drewN ?_) | (with_reducible refine Gx.setRow ?_ (by simp)) | (with_reducible refine Gx.setCell ?_ (by simp))))⟩
  · rcases Int.lt_or_le 4095 n with h1 | h1
    · have H := Lib.hid (dt_out (n := n) (by omega))
      go_enter Tryd.func18, Tryd.ntmps18
      go_wp2
      go_ret3
      exact ⟨by rw [H.out.1, H.out.2.1, H.out.2.2]; rfl, (by repeat (first | (with_reducible exact Gx.refl _) | (with_reducible refine Gx.gx ?_) | (with_reducible refine Gx.alloc ?_) | (with_reducible refine Gx.drew ?_) | (with_reducible refine Gx.drewN ?_) | (with_reducible refine Gx.setRow ?_ (by simp)) | (with_reducible refine Gx.setCell ?_ (by simp))))⟩
    · have H := Lib.hid (dt_in ⟨h0, h1⟩)
      go_enter Tryd.func18, Tryd.ntmps18
      go_wp2_with (first | (go_at_call 75; refine (dataOf_any _ h0 (by omega) _).mono ?_; rintro e w' ⟨rfl, rfl⟩) | (go_at_call 76; refine (isOdd_any _ h0 (by omega) _).mono ?_; rintro e w' ⟨rfl, z, rfl⟩))
      go_ret3
      exact ⟨by rw [H.out.1, H.out.2.1, H.out.2.2]; rfl, (by repeat (first | (with_reducible exact Gx.refl _) | (with_reducible refine Gx.gx ?_) | (with_reducible refine Gx.alloc ?_) | (with_reducible refine Gx.drew ?_) | (with_reducible refine Gx.drewN ?_) | (with_reducible refine Gx.setRow ?_ (by simp)) | (with_reducible refine Gx.setCell ?_ (by simp))))⟩

set_option maxHeartbeats 400000 in
theorem RData_any (n : Int) (w : World) : Calls Tryd.prog 19 #[.int .i64 n] w fun e w' => e = .returned (.tuple #[.int .i64 (dtV n), .bool (dtB n), .int .i64 (dtE n)]) ∧ ∃ x, w' = gx w x := by
  rcases Int.lt_or_le n 0 with h0 | h0
  · have H := Lib.hid (dt_out (n := n) (by omega))
    go_enter Tryd.func19, Tryd.ntmps19
    go_wp2
    go_ret3
    exact ⟨by rw [H.out.1, H.out.2.1, H.out.2.2]; rfl, (by repeat (first | (with_reducible exact Gx.refl _) | (with_reducible refine Gx.gx ?_) | (with_reducible refine Gx.alloc ?_) | (with_reducible refine Gx.drew ?_) | (with_reducible refine Gx.drewN ?_) | (with_reducible refine Gx.setRow ?_ (by simp)) | (with_reducible refine Gx.setCell ?_ (by simp))))⟩
  · rcases Int.lt_or_le 4095 n with h1 | h1
    · have H := Lib.hid (dt_out (n := n) (by omega))
      go_enter Tryd.func19, Tryd.ntmps19
      go_wp2
      go_ret3
      exact ⟨by rw [H.out.1, H.out.2.1, H.out.2.2]; rfl, (by repeat (first | (with_reducible exact Gx.refl _) | (with_reducible refine Gx.gx ?_) | (with_reducible refine Gx.alloc ?_) | (with_reducible refine Gx.drew ?_) | (with_reducible refine Gx.drewN ?_) | (with_reducible refine Gx.setRow ?_ (by simp)) | (with_reducible refine Gx.setCell ?_ (by simp))))⟩
    · have H := Lib.hid (dt_in ⟨h0, h1⟩)
      go_enter Tryd.func19, Tryd.ntmps19
      go_wp2_with (go_at_call 77; refine (odd_any _ h0 (by omega) _).mono ?_; rintro e w' ⟨rfl, rfl⟩)
      go_ret3
      exact ⟨by rw [H.out.1, H.out.2.1, H.out.2.2]; rfl, (by repeat (first | (with_reducible exact Gx.refl _) | (with_reducible refine Gx.gx ?_) | (with_reducible refine Gx.alloc ?_) | (with_reducible refine Gx.drew ?_) | (with_reducible refine Gx.drewN ?_) | (with_reducible refine Gx.setRow ?_ (by simp)) | (with_reducible refine Gx.setCell ?_ (by simp))))⟩

set_option maxHeartbeats 400000 in
theorem Sync_any (n : Int) (w : World) (hT : Tab w) : Calls Tryd.prog 20 #[.int .i64 n] w fun e w' => e = .returned (.tuple #[.int .i64 (syV n), .int .i64 (syE n)]) ∧ ∃ x, w' = gx w x := by
  rcases Int.lt_or_le n 0 with h0 | h0
  · have H := Lib.hid (sy_out (n := n) (by omega))
    go_enter Tryd.func20, Tryd.ntmps20
    go_wp2
    go_ret2
    exact ⟨by rw [H.out.1, H.out.2]; rfl, (by repeat (first | (with_reducible exact Gx.refl _) | (with_reducible refine Gx.gx ?_) | (with_reducible refine Gx.alloc ?_) | (with_reducible refine Gx.drew ?_) | (with_reducible refine Gx.drewN ?_) | (with_reducible refine Gx.setRow ?_ (by simp)) | (with_reducible refine Gx.setCell ?_ (by simp))))⟩
  · rcases Int.lt_or_le 4194303 n with h1 | h1
    · have H := Lib.hid (sy_out (n := n) (by omega))
      go_enter Tryd.func20, Tryd.ntmps20
      go_wp2
      go_ret2
      exact ⟨by rw [H.out.1, H.out.2]; rfl, (by repeat (first | (with_reducible exact Gx.refl _) | (with_reducible refine Gx.gx ?_) | (with_reducible refine Gx.alloc ?_) | (with_reducible refine Gx.drew ?_) | (with_reducible refine Gx.drewN ?_) | (with_reducible refine Gx.setRow ?_ (by simp)) | (with_reducible refine Gx.setCell ?_ (by simp))))⟩
    · have H := Lib.hid (sy_in (n := n) ⟨h0, by omega⟩)
      have q := syncI_bd n
      have q0 := q.1
      have q1 := q.2
      clear q
      go_enter Tryd.func20, Tryd.ntmps20
      go_wp2_with (go_at_call 78; refine (syncFor_any _ h0 _ ?_).mono ?_; (focus (repeat (first | (with_reducible exact hT) | (with_reducible refine Tab.gx ?_ _) | (with_reducible refine Tab.alloc ?_ _)))); rintro e w' ⟨rfl, rfl⟩)
      go_ret2
      exact ⟨by rw [H.out.1, H.out.2]; rfl, (by repeat (first | (with_reducible exact Gx.refl _) | (with_reducible refine Gx.gx ?_) | (with_reducible refine Gx.alloc ?_) | (with_reducible refine Gx.drew ?_) | (with_reducible refine Gx.drewN ?_) | (with_reducible refine Gx.setRow ?_ (by simp)) | (with_reducible refine Gx.setCell ?_ (by simp))))⟩

set_option maxHeartbeats 400000 in
theorem RSync_any (n : Int) (w : World) : Calls Tryd.prog 21 #[.int .i64 n] w fun e w' => e = .returned (.tuple #[.int .i64 (syV n), .int .i64 (syE n)]) ∧ ∃ x, w' = gx w x := by
  rcases Int.lt_or_le n 0 with h0 | h0
  · have H := Lib.hid (sy_out (n := n) (by omega))
    go_enter Tryd.func21, Tryd.ntmps21
    go_wp2
    go_ret2
    exact ⟨by rw [H.out.1, H.out.2]; rfl, (by repeat (first | (with_reducible exact Gx.refl _) | (with_reducible refine Gx.gx ?_) | (with_reducible refine Gx.alloc ?_) | (with_reducible refine Gx.drew ?_) | (with_reducible refine Gx.drewN ?_) | (with_reducible refine Gx.setRow ?_ (by simp)) | (with_reducible refine Gx.setCell ?_ (by simp))))⟩
  · rcases Int.lt_or_le 4194303 n with h1 | h1
    · have H := Lib.hid (sy_out (n := n) (by omega))
      go_enter Tryd.func21, Tryd.ntmps21
      go_wp2
      go_ret2
      exact ⟨by rw [H.out.1, H.out.2]; rfl, (by repeat (first | (with_reducible exact Gx.refl _) | (with_reducible refine Gx.gx ?_) | (with_reducible refine Gx.alloc ?_) | (with_reducible refine Gx.drew ?_) | (with_reducible refine Gx.drewN ?_) | (with_reducible refine Gx.setRow ?_ (by simp)) | (with_reducible refine Gx.setCell ?_ (by simp))))⟩
    · have H := Lib.hid (sy_in (n := n) ⟨h0, by omega⟩)
      go_enter Tryd.func21, Tryd.ntmps21
      go_wp2_with (go_at_call 79; refine (syncOf_any _ h0 _).mono ?_; rintro e w' ⟨rfl, rfl⟩)
      go_ret2
      exact ⟨by rw [H.out.1, H.out.2]; rfl, (by repeat (first | (with_reducible exact Gx.refl _) | (with_reducible refine Gx.gx ?_) | (with_reducible refine Gx.alloc ?_) | (with_reducible refine Gx.drew ?_) | (with_reducible refine Gx.drewN ?_) | (with_reducible refine Gx.setRow ?_ (by simp)) | (with_reducible refine Gx.setCell ?_ (by simp))))⟩

set_option maxHeartbeats 1000000 in
set_option maxRecDepth 100000 in
theorem wordLaw (n : Int) (w : World) (hT : Tab w) :
    Calls Tryd.prog 3 #[.int .i64 n] w fun e w' => e = .returned (.bool true) ∧ ∃ x, w' = gx w x := by
  go_enter Tryd.func3, Tryd.ntmps3
  go_wp2_with (first | (go_at_call 16; refine (Word_any _ _).mono ?_; rintro e w' ⟨rfl, z, rfl⟩) | (go_at_call 17; refine (RWord_any _ _).mono ?_; rintro e w' ⟨rfl, z, rfl⟩) | (go_at_call 18; refine (Data_any _ _).mono ?_; rintro e w' ⟨rfl, z, rfl⟩) | (go_at_call 19; refine (RData_any _ _).mono ?_; rintro e w' ⟨rfl, z, rfl⟩) | (go_at_call 20; refine (Sync_any _ _ ?_).mono ?_; (focus (repeat (first | (with_reducible exact hT) | (with_reducible refine Tab.gx ?_ _) | (with_reducible refine Tab.alloc ?_ _)))); rintro e w' ⟨rfl, z, rfl⟩) | (go_at_call 21; refine (RSync_any _ _).mono ?_; rintro e w' ⟨rfl, z, rfl⟩) | (go_at_call 22; refine (framed_any _ ?_).mono ?_; (focus (repeat (first | (with_reducible exact hT) | (with_reducible refine Tab.gx ?_ _) | (with_reducible refine Tab.alloc ?_ _)))); rintro e w' ⟨rfl, z, rfl⟩))
  go_ret
  exact ⟨rfl, (by repeat (first | (with_reducible exact Gx.refl _) | (with_reducible refine Gx.gx ?_) | (with_reducible refine Gx.alloc ?_) | (with_reducible refine Gx.drew ?_) | (with_reducible refine Gx.drewN ?_) | (with_reducible refine Gx.setRow ?_ (by simp)) | (with_reducible refine Gx.setCell ?_ (by simp))))⟩
end Go.Proofs.YtoochjpdnhpnkaaDoor
