/-
  Names of instruments and zones: the program's isName at every text.
-/
import Derived.Test.YtbhcjaejkplfeaaGreatDoorPTrim
namespace Go.Proofs.YtbhcjaejkplfeaaGreatDoor
open Go.RowKit
-- AT2
-- AT3

/-- The bytes of which names are made. -/
def nmC : ByteArray := ⟨#[97, 98, 99, 100, 101, 102, 103, 104, 105, 106, 107, 108, 109, 110, 111, 112, 113, 114, 115, 116, 117, 118, 119, 120, 121, 122, 48, 49, 50, 51, 52, 53, 54, 55, 56, 57, 45]⟩
/-- What is left of a text without the bytes of names at its ends. -/
def nmL (s : ByteArray) : List UInt8 := Lib.trimS s.data.toList nmC.data.toList
def pName (s : ByteArray) : Bool := decide (1 ≤ s.size) && decide (s.size ≤ 30) && (nmL s).isEmpty
theorem nmTrim (s : ByteArray) (hs : s.size ≤ 140737488355328) (w : World) : Calls Tryz.prog 57 #[.string s, .string nmC] w fun e w' => e = .returned (.string ⟨(nmL s).toArray⟩) ∧ ∃ x, w' = gx w x :=
  Trim_any s nmC w hs (by decide) (Go.Proofs.ascii_of_all (by decide))
set_option maxHeartbeats 1000000 in
theorem pIsName_any (s : ByteArray) (hs : s.size ≤ 140737488355328) (w : World) : Calls Tryz.prog 25 #[.string s] w fun e w' => e = .returned (.bool (pName s)) ∧ ∃ x, w' = gx w x := by
  have HT := Lib.hid (fun W => nmTrim s hs W)
  unfold nmC at HT
  by_cases h0 : s.size = 0
  · have hn : pName s = false := by unfold pName; rw [decide_eq_false (by omega)]; rfl
    have Hn := Lib.hid hn
    clear hn
    have hd : decide (1 ≤ (s.size : Int)) = false := decide_eq_false (by omega)
    go_enter Tryz.func25, Tryz.ntmps25
    go_wp2_with (first | go_skip)
    go_ret
    exact ⟨by rw [Hn.out]; rfl, (by repeat (first | (with_reducible exact Gx.refl _) | (with_reducible assumption) | (with_reducible refine Gx.gx ?_) | (with_reducible refine Gx.alloc ?_) | (with_reducible refine Gx.drew ?_) | (with_reducible refine Gx.drewN ?_) | (with_reducible refine Gx.setRow ?_ (by first | omega | (simp; done) | (simp <;> omega))) | (with_reducible refine Gx.setCell ?_ (by first | omega | (simp; done) | (simp <;> omega)))))⟩
  · by_cases h1 : s.size ≤ 30
    · have hd : decide (1 ≤ (s.size : Int)) = true := decide_eq_true (by omega)
      have hd2 : decide ((s.size : Int) ≤ 30) = true := decide_eq_true (by omega)
      have hn : pName s = (nmL s).isEmpty := by unfold pName; rw [decide_eq_true (show 1 ≤ s.size by omega), decide_eq_true h1]; rfl
      have Hn := Lib.hid hn
      clear hn
      generalize hT : nmL s = T at *
      clear hT
      cases T with
      | nil =>
        go_enter Tryz.func25, Tryz.ntmps25
        go_wp2_with (first | go_skip | (go_at_call 57; refine (HT.out _).mono ?_; rintro e w' ⟨rfl, x1, rfl⟩))
        go_ret
        exact ⟨by rw [Hn.out]; rfl, (by repeat (first | (with_reducible exact Gx.refl _) | (with_reducible assumption) | (with_reducible refine Gx.gx ?_) | (with_reducible refine Gx.alloc ?_) | (with_reducible refine Gx.drew ?_) | (with_reducible refine Gx.drewN ?_) | (with_reducible refine Gx.setRow ?_ (by first | omega | (simp; done) | (simp <;> omega))) | (with_reducible refine Gx.setCell ?_ (by first | omega | (simp; done) | (simp <;> omega)))))⟩
      | cons a T =>
        go_enter Tryz.func25, Tryz.ntmps25
        go_wp2_with (first | go_skip | (go_at_call 57; refine (HT.out _).mono ?_; rintro e w' ⟨rfl, x1, rfl⟩))
        go_ret
        exact ⟨by rw [Hn.out]; rfl, (by repeat (first | (with_reducible exact Gx.refl _) | (with_reducible assumption) | (with_reducible refine Gx.gx ?_) | (with_reducible refine Gx.alloc ?_) | (with_reducible refine Gx.drew ?_) | (with_reducible refine Gx.drewN ?_) | (with_reducible refine Gx.setRow ?_ (by first | omega | (simp; done) | (simp <;> omega))) | (with_reducible refine Gx.setCell ?_ (by first | omega | (simp; done) | (simp <;> omega)))))⟩
    · have hn : pName s = false := by unfold pName; rw [decide_eq_true (show 1 ≤ s.size by omega), decide_eq_false h1]; rfl
      have Hn := Lib.hid hn
      clear hn
      have hd : decide (1 ≤ (s.size : Int)) = true := decide_eq_true (by omega)
      have hd2 : decide ((s.size : Int) ≤ 30) = false := decide_eq_false (by omega)
      go_enter Tryz.func25, Tryz.ntmps25
      go_wp2_with (first | go_skip)
      go_ret
      exact ⟨by rw [Hn.out]; rfl, (by repeat (first | (with_reducible exact Gx.refl _) | (with_reducible assumption) | (with_reducible refine Gx.gx ?_) | (with_reducible refine Gx.alloc ?_) | (with_reducible refine Gx.drew ?_) | (with_reducible refine Gx.drewN ?_) | (with_reducible refine Gx.setRow ?_ (by first | omega | (simp; done) | (simp <;> omega))) | (with_reducible refine Gx.setCell ?_ (by first | omega | (simp; done) | (simp <;> omega)))))⟩
theorem pName_a : pName ⟨#[97]⟩ = true := by decide
end Go.Proofs.YtbhcjaejkplfeaaGreatDoor
