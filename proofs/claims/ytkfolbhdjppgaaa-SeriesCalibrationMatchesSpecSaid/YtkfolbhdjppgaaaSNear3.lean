/-
  Apply, Nearest and Grain of the program, Apply and Grain of the reference: contracts.
-/
import Derived.Test.YtkfolbhdjppgaaaSNear2
namespace Go.Proofs.Ytkfolbhdjppgaaa
open Go.RowKit
-- AT2

def ApplyIs (den : Int) (g : Nat → Ln) (n : Nat) (lo hi v m : Int) (is : Bool) (er : Int) : Prop := (calE den g n lo hi ≠ 0 ∧ m = 0 ∧ is = false ∧ er = calE den g n lo hi) ∨ (calE den g n lo hi = 0 ∧ er = 0 ∧ App g n lo hi v m is)
def NearIs (den : Int) (g : Nat → Ln) (n : Nat) (lo hi x v er : Int) : Prop := (calE den g n lo hi ≠ 0 ∧ v = 0 ∧ er = calE den g n lo hi) ∨ (calE den g n lo hi = 0 ∧ ¬ isN x ∧ v = 0 ∧ er = 9) ∨ (calE den g n lo hi = 0 ∧ isN x ∧ Near g n lo hi x v er)
def GrainIs (den : Int) (g : Nat → Ln) (n : Nat) (lo hi v er : Int) : Prop := (calE den g n lo hi ≠ 0 ∧ v = 0 ∧ er = calE den g n lo hi) ∨ (calE den g n lo hi = 0 ∧ v = grainTo g n ∧ er = 0)
theorem ApplyIs.eq {den : Int} {g : Nat → Ln} {n : Nat} {lo hi v m m' er er' : Int} {is is' : Bool} (a : ApplyIs den g n lo hi v m is er) (b : ApplyIs den g n lo hi v m' is' er') : m = m' ∧ is = is' ∧ er = er' := by
  rcases a with ⟨a0, rfl, rfl, rfl⟩ | ⟨a0, rfl, a⟩ <;> rcases b with ⟨b0, rfl, rfl, rfl⟩ | ⟨b0, rfl, b⟩
  · exact ⟨rfl, rfl, rfl⟩
  · exact absurd b0 a0
  · exact absurd a0 b0
  · obtain ⟨h1, h2⟩ := a.eq (calE_ok a0).2.2.1 b
    exact ⟨h1, h2, rfl⟩
theorem NearIs.eq {den : Int} {g : Nat → Ln} {n : Nat} {lo hi x v v' er er' : Int} (a : NearIs den g n lo hi x v er) (b : NearIs den g n lo hi x v' er') : v = v' ∧ er = er' := by
  rcases a with ⟨a0, rfl, rfl⟩ | ⟨a0, a1, rfl, rfl⟩ | ⟨a0, a1, a⟩ <;> rcases b with ⟨b0, rfl, rfl⟩ | ⟨b0, b1, rfl, rfl⟩ | ⟨b0, b1, b⟩
  · exact ⟨rfl, rfl⟩
  · exact absurd b0 a0
  · exact absurd b0 a0
  · exact absurd a0 b0
  · exact ⟨rfl, rfl⟩
  · exact absurd b1 a1
  · exact absurd a0 b0
  · exact absurd a1 b1
  · exact a.eq b
theorem GrainIs.eq {den : Int} {g : Nat → Ln} {n : Nat} {lo hi v v' er er' : Int} (a : GrainIs den g n lo hi v er) (b : GrainIs den g n lo hi v' er') : v = v' ∧ er = er' := by
  rcases a with ⟨a0, rfl, rfl⟩ | ⟨a0, rfl, rfl⟩ <;> rcases b with ⟨b0, rfl, rfl⟩ | ⟨b0, rfl, rfl⟩
  · exact ⟨rfl, rfl⟩
  · exact absurd b0 a0
  · exact absurd a0 b0
  · exact ⟨rfl, rfl⟩
def ApplyPost (den : Int) (g : Nat → Ln) (n : Nat) (lo hi v : Int) (w : World) (e : Ending) (w' : World) : Prop := ∃ m is er, e = .returned (.tuple #[.int .i64 m, .bool is, .int .i64 er]) ∧ ApplyIs den g n lo hi v m is er ∧ ∃ x, w' = gx w x
def NearPost (den : Int) (g : Nat → Ln) (n : Nat) (lo hi x : Int) (w : World) (e : Ending) (w' : World) : Prop := ∃ v er, e = .returned (.tuple #[.int .i64 v, .int .i64 er]) ∧ NearIs den g n lo hi x v er ∧ ∃ x, w' = gx w x
def GrainPost (den : Int) (g : Nat → Ln) (n : Nat) (lo hi : Int) (w : World) (e : Ending) (w' : World) : Prop := ∃ v er, e = .returned (.tuple #[.int .i64 v, .int .i64 er]) ∧ GrainIs den g n lo hi v er ∧ ∃ x, w' = gx w x



set_option maxHeartbeats 4000000 in
set_option maxRecDepth 100000 in
theorem Apply_any (den : Int) (g : Nat → Ln) (n c : Nat) (A : Option Addr) (lo hi v : Int) (w : World) (hL : LnAt w g n A) :
    Calls Try.prog 8 #[calV den A n c lo hi, .int .i64 v] w (ApplyPost den g n lo hi v w) := by
  have hlw : LnAt (w.alloc (.cells #[.int .i64 den, .slice A n c, .int .i64 lo, .int .i64 hi] 24)) g n A := by rw [alloc_is]; exact hL.gx
  have HC := Lib.hid (fun W h => CheckCal_any den g n c A lo hi W h)
  by_cases h : calE den g n lo hi = 0
  · obtain ⟨g1, g2, g3, _⟩ := calE_ok h
    rw [h] at HC
    have HE := Lib.hid h
    clear h
    go_enter Try.func8, Try.ntmps8
    go_wp2_with first
      | (go_at_call 10; refine (HC.out _ hlw).mono ?_; rintro e w' ⟨rfl, x, rfl⟩)
      | (go_at_call 24; refine (apply_any den g n c A lo hi v _ hlw.gx g1 g2 g3).mono ?_; rintro e w' ⟨m, is, rfl, HA, x2, rfl⟩; have HA := Lib.hid HA)
    go_ret3
    exact ⟨_, _, _, rfl, .inr ⟨HE.out, rfl, HA⟩, (by repeat (first | (with_reducible exact Gx.refl _) | (with_reducible assumption) | (with_reducible refine Gx.gx ?_) | (with_reducible refine Gx.alloc ?_) | (with_reducible refine Gx.drew ?_) | (with_reducible refine Gx.drewN ?_) | (with_reducible refine Gx.setRow ?_ (by simp)) | (with_reducible refine Gx.setCell ?_ (by simp))))⟩
  · have HE := Lib.hid h
    have n1 := ne0 h
    have n2 := ne0' h
    clear h
    go_enter Try.func8, Try.ntmps8
    go_wp2_with (go_at_call 10; refine (HC.out _ hlw).mono ?_; rintro e w' ⟨rfl, x, rfl⟩)
    go_ret3
    exact ⟨_, _, _, rfl, .inl ⟨HE.out, rfl, rfl, rfl⟩, (by repeat (first | (with_reducible exact Gx.refl _) | (with_reducible assumption) | (with_reducible refine Gx.gx ?_) | (with_reducible refine Gx.alloc ?_) | (with_reducible refine Gx.drew ?_) | (with_reducible refine Gx.drewN ?_) | (with_reducible refine Gx.setRow ?_ (by simp)) | (with_reducible refine Gx.setCell ?_ (by simp))))⟩
set_option maxHeartbeats 4000000 in
set_option maxRecDepth 100000 in
theorem RApply_any (den : Int) (g : Nat → Ln) (n c : Nat) (A : Option Addr) (lo hi v : Int) (w : World) (hL : LnAt w g n A) :
    Calls Try.prog 9 #[calV den A n c lo hi, .int .i64 v] w (ApplyPost den g n lo hi v w) := by
  have hlw : LnAt (w.alloc (.cells #[.int .i64 den, .slice A n c, .int .i64 lo, .int .i64 hi] 24)) g n A := by rw [alloc_is]; exact hL.gx
  have HC := Lib.hid (fun W h => RCheckCal_any den g n c A lo hi W h)
  by_cases h : calE den g n lo hi = 0
  · obtain ⟨g1, g2, g3, _⟩ := calE_ok h
    rw [h] at HC
    have HE := Lib.hid h
    clear h
    go_enter Try.func9, Try.ntmps9
    go_wp2_with first
      | (go_at_call 11; refine (HC.out _ hlw).mono ?_; rintro e w' ⟨rfl, x, rfl⟩)
      | (go_at_call 25; refine (Rapply_any den g n c A lo hi v _ hlw.gx g1 g2 g3).mono ?_; rintro e w' ⟨m, is, rfl, HA, x2, rfl⟩; have HA := Lib.hid HA)
    go_ret3
    exact ⟨_, _, _, rfl, .inr ⟨HE.out, rfl, HA⟩, (by repeat (first | (with_reducible exact Gx.refl _) | (with_reducible assumption) | (with_reducible refine Gx.gx ?_) | (with_reducible refine Gx.alloc ?_) | (with_reducible refine Gx.drew ?_) | (with_reducible refine Gx.drewN ?_) | (with_reducible refine Gx.setRow ?_ (by simp)) | (with_reducible refine Gx.setCell ?_ (by simp))))⟩
  · have HE := Lib.hid h
    have n1 := ne0 h
    have n2 := ne0' h
    clear h
    go_enter Try.func9, Try.ntmps9
    go_wp2_with (go_at_call 11; refine (HC.out _ hlw).mono ?_; rintro e w' ⟨rfl, x, rfl⟩)
    go_ret3
    exact ⟨_, _, _, rfl, .inl ⟨HE.out, rfl, rfl, rfl⟩, (by repeat (first | (with_reducible exact Gx.refl _) | (with_reducible assumption) | (with_reducible refine Gx.gx ?_) | (with_reducible refine Gx.alloc ?_) | (with_reducible refine Gx.drew ?_) | (with_reducible refine Gx.drewN ?_) | (with_reducible refine Gx.setRow ?_ (by simp)) | (with_reducible refine Gx.setCell ?_ (by simp))))⟩
theorem grainTo_yes {g : Nat → Ln} {k : Nat} (h : (g k).f < (g k).t) : grainTo g (k + 1) = max (grainTo g k) (sz (g k).a) := by rw [grainTo]; rw [if_pos h]
theorem grainTo_no {g : Nat → Ln} {k : Nat} (h : ¬ (g k).f < (g k).t) : grainTo g (k + 1) = grainTo g k := by rw [grainTo]; rw [if_neg h]
set_option maxHeartbeats 4000000 in
set_option maxRecDepth 100000 in
theorem Grain_any (den : Int) (g : Nat → Ln) (n c : Nat) (A : Option Addr) (lo hi : Int) (w : World) (hL : LnAt w g n A) :
    Calls Try.prog 14 #[calV den A n c lo hi] w (GrainPost den g n lo hi w) := by
  have hlw : LnAt (w.alloc (.cells #[.int .i64 den, .slice A n c, .int .i64 lo, .int .i64 hi] 24)) g n A := by rw [alloc_is]; exact hL.gx
  have HC := Lib.hid (fun W h => CheckCal_any den g n c A lo hi W h)
  by_cases h : calE den g n lo hi = 0
  · obtain ⟨g1, g2, g3, _⟩ := calE_ok h
    rw [h] at HC
    have HE := Lib.hid h
    clear h
    obtain ⟨b, o, rfl, hbw, HL⟩ := hL.get g1
    clear hL
    go_enter Try.func14, Try.ntmps14
    go_wp2_with (go_at_call 10; refine (HC.out _ hlw).mono ?_; rintro e w' ⟨rfl, x, rfl⟩)
    go_loopw [5, 16] (fun m i wr => ∃ k : Nat, k ≤ n ∧ i = .int .i64 k ∧ m = .int .i64 (grainTo g k) ∧ ∃ x, wr = gx (w.alloc (.cells #[.int .i64 den, .slice (some ⟨b, o, none⟩) n c, .int .i64 lo, .int .i64 hi] 24)) x) (fun _ i _ => n - (intOf i).toNat)
    case atStart => exact ⟨0, Nat.zero_le _, rfl, by rw [grainTo], _, rfl⟩
    case round =>
      obtain ⟨k, hk, rfl, rfl, y, rfl⟩ := hrel
      obtain ⟨k1, k2⟩ := grain_in g3 k hk
      by_cases hlt : k < n
      · obtain ⟨c1, c2, c3, c4⟩ := HL.out k hlt
        have hok := g3.ok k hlt
        unfold lnOk at hok
        obtain ⟨o1, o2, o3, o4, o5, o6, o7, o8, o9⟩ := hok
        have HS := fun W => size_any (g k).a W (by omega) (by omega)
        have hs1 : w.heap.size < w.heap.size + 1 + y.n := by omega
        have hs2 : w.heap.size < w.heap.size + 1 + y.n + 1 := by omega
        by_cases hft : (g k).f < (g k).t
        · have d1 : decide ((g k).f < (g k).t) = true := decide_eq_true hft
          have HG := Lib.hid (grainTo_yes hft)
          clear hft
          go_wp2_with (go_at_call 32; refine (HS _).mono ?_; rintro e w' ⟨rfl, rfl⟩)
          all_goals
            go_roundw
            case rel => exact ⟨k + 1, by omega, by go_num, by rw [HG.out]; congr 1; omega, (by repeat (first | (with_reducible exact Gx.refl _) | (with_reducible assumption) | (with_reducible refine Gx.gx ?_) | (with_reducible refine Gx.alloc ?_) | (with_reducible refine Gx.drew ?_) | (with_reducible refine Gx.drewN ?_) | (with_reducible refine Gx.setRow ?_ (by simp)) | (with_reducible refine Gx.setCell ?_ (by simp))))⟩
            case measure => simp [intOf]; omega
        · have d1 : decide ((g k).f < (g k).t) = false := decide_eq_false hft
          have HG := Lib.hid (grainTo_no hft)
          clear hft
          go_wp2
          go_roundw
          case rel => exact ⟨k + 1, by omega, by go_num, by rw [HG.out], (by repeat (first | (with_reducible exact Gx.refl _) | (with_reducible assumption) | (with_reducible refine Gx.gx ?_) | (with_reducible refine Gx.alloc ?_) | (with_reducible refine Gx.drew ?_) | (with_reducible refine Gx.drewN ?_) | (with_reducible refine Gx.setRow ?_ (by simp)) | (with_reducible refine Gx.setCell ?_ (by simp))))⟩
          case measure => simp [intOf]; omega
      · obtain rfl : k = n := by omega
        go_wp2
        go_ret2
        exact ⟨_, _, rfl, .inr ⟨HE.out, rfl, rfl⟩, (by repeat (first | (with_reducible exact Gx.refl _) | (with_reducible assumption) | (with_reducible refine Gx.gx ?_) | (with_reducible refine Gx.alloc ?_) | (with_reducible refine Gx.drew ?_) | (with_reducible refine Gx.drewN ?_) | (with_reducible refine Gx.setRow ?_ (by simp)) | (with_reducible refine Gx.setCell ?_ (by simp))))⟩
  · have HE := Lib.hid h
    have n1 := ne0 h
    have n2 := ne0' h
    clear h
    go_enter Try.func14, Try.ntmps14
    go_wp2_with (go_at_call 10; refine (HC.out _ hlw).mono ?_; rintro e w' ⟨rfl, x, rfl⟩)
    go_ret2
    exact ⟨_, _, rfl, .inl ⟨HE.out, rfl, rfl⟩, (by repeat (first | (with_reducible exact Gx.refl _) | (with_reducible assumption) | (with_reducible refine Gx.gx ?_) | (with_reducible refine Gx.alloc ?_) | (with_reducible refine Gx.drew ?_) | (with_reducible refine Gx.drewN ?_) | (with_reducible refine Gx.setRow ?_ (by simp)) | (with_reducible refine Gx.setCell ?_ (by simp))))⟩
set_option maxHeartbeats 4000000 in
set_option maxRecDepth 100000 in
theorem RGrain_any (den : Int) (g : Nat → Ln) (n c : Nat) (A : Option Addr) (lo hi : Int) (w : World) (hL : LnAt w g n A) :
    Calls Try.prog 15 #[calV den A n c lo hi] w (GrainPost den g n lo hi w) := by
  have hlw : LnAt (w.alloc (.cells #[.int .i64 den, .slice A n c, .int .i64 lo, .int .i64 hi] 24)) g n A := by rw [alloc_is]; exact hL.gx
  have HC := Lib.hid (fun W h => RCheckCal_any den g n c A lo hi W h)
  by_cases h : calE den g n lo hi = 0
  · obtain ⟨g1, g2, g3, _⟩ := calE_ok h
    rw [h] at HC
    have HE := Lib.hid h
    clear h
    obtain ⟨b, o, rfl, hbw, HL⟩ := hL.get g1
    clear hL
    go_enter Try.func15, Try.ntmps15
    go_wp2_with (go_at_call 11; refine (HC.out _ hlw).mono ?_; rintro e w' ⟨rfl, x, rfl⟩)
    go_loopw [5, 6] (fun m i wr => ∃ k : Nat, k ≤ n ∧ i = .int .i64 k ∧ m = .int .i64 (grainTo g k) ∧ ∃ x, wr = gx (w.alloc (.cells #[.int .i64 den, .slice (some ⟨b, o, none⟩) n c, .int .i64 lo, .int .i64 hi] 24)) x) (fun _ i _ => n - (intOf i).toNat)
    case atStart => exact ⟨0, Nat.zero_le _, rfl, by rw [grainTo], _, rfl⟩
    case round =>
      obtain ⟨k, hk, rfl, rfl, y, rfl⟩ := hrel
      obtain ⟨k1, k2⟩ := grain_in g3 k hk
      by_cases hlt : k < n
      · obtain ⟨c1, c2, c3, c4⟩ := HL.out k hlt
        have hok := g3.ok k hlt
        unfold lnOk at hok
        obtain ⟨o1, o2, o3, o4, o5, o6, o7, o8, o9⟩ := hok
        have HS := fun W => apart_any (g k).a 0 W (by omega) (by omega)
        rw [Int.sub_zero] at HS
        have hs1 : w.heap.size < w.heap.size + 1 + y.n := by omega
        have hs2 : w.heap.size < w.heap.size + 1 + y.n + 1 := by omega
        by_cases hft : (g k).f < (g k).t
        · have d1 : decide ((g k).f < (g k).t) = true := decide_eq_true hft
          have HG := Lib.hid (grainTo_yes hft)
          clear hft
          go_wp2_with (go_at_call 35; refine (HS _).mono ?_; rintro e w' ⟨rfl, rfl⟩)
          all_goals
            go_roundw
            case rel => exact ⟨k + 1, by omega, by go_num, by rw [HG.out]; congr 1; omega, (by repeat (first | (with_reducible exact Gx.refl _) | (with_reducible assumption) | (with_reducible refine Gx.gx ?_) | (with_reducible refine Gx.alloc ?_) | (with_reducible refine Gx.drew ?_) | (with_reducible refine Gx.drewN ?_) | (with_reducible refine Gx.setRow ?_ (by simp)) | (with_reducible refine Gx.setCell ?_ (by simp))))⟩
            case measure => simp [intOf]; omega
        · have d1 : decide ((g k).f < (g k).t) = false := decide_eq_false hft
          have HG := Lib.hid (grainTo_no hft)
          clear hft
          go_wp2
          go_roundw
          case rel => exact ⟨k + 1, by omega, by go_num, by rw [HG.out], (by repeat (first | (with_reducible exact Gx.refl _) | (with_reducible assumption) | (with_reducible refine Gx.gx ?_) | (with_reducible refine Gx.alloc ?_) | (with_reducible refine Gx.drew ?_) | (with_reducible refine Gx.drewN ?_) | (with_reducible refine Gx.setRow ?_ (by simp)) | (with_reducible refine Gx.setCell ?_ (by simp))))⟩
          case measure => simp [intOf]; omega
      · obtain rfl : k = n := by omega
        go_wp2
        go_ret2
        exact ⟨_, _, rfl, .inr ⟨HE.out, rfl, rfl⟩, (by repeat (first | (with_reducible exact Gx.refl _) | (with_reducible assumption) | (with_reducible refine Gx.gx ?_) | (with_reducible refine Gx.alloc ?_) | (with_reducible refine Gx.drew ?_) | (with_reducible refine Gx.drewN ?_) | (with_reducible refine Gx.setRow ?_ (by simp)) | (with_reducible refine Gx.setCell ?_ (by simp))))⟩
  · have HE := Lib.hid h
    have n1 := ne0 h
    have n2 := ne0' h
    clear h
    go_enter Try.func15, Try.ntmps15
    go_wp2_with (go_at_call 11; refine (HC.out _ hlw).mono ?_; rintro e w' ⟨rfl, x, rfl⟩)
    go_ret2
    exact ⟨_, _, rfl, .inl ⟨HE.out, rfl, rfl⟩, (by repeat (first | (with_reducible exact Gx.refl _) | (with_reducible assumption) | (with_reducible refine Gx.gx ?_) | (with_reducible refine Gx.alloc ?_) | (with_reducible refine Gx.drew ?_) | (with_reducible refine Gx.drewN ?_) | (with_reducible refine Gx.setRow ?_ (by simp)) | (with_reducible refine Gx.setCell ?_ (by simp))))⟩
end Go.Proofs.Ytkfolbhdjppgaaa
