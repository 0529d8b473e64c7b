/-
  PanelDigitsMatchSpec: the law's walk.
-/
import Derived.Test.YtbhcjaejkplfeaaGreatDoorPLawD
namespace Go.Proofs.YtbhcjaejkplfeaaGreatDoor
open Go.RowKit
-- AT2
-- AT3

set_option maxHeartbeats 4000000 in
set_option maxRecDepth 100000 in
theorem digLaw (n den pl op m : Int) (w : World) (hp : Pow w) :
    Calls Tryz.prog 6 #[.int .i64 n, .int .i64 den, .int .i64 pl, .int .i64 op, .int .i64 m] w fun e w' => e = .returned (.bool true) ∧ ∃ x, w' = gx w x := by
  obtain ⟨R, E, D1, D2⟩ := Digits_both n den pl
  obtain ⟨B, F, O1, O2⟩ := Holds_both op n m
  have H1 := Lib.hid (fun W (hW : ∃ x, W = gx w x) => D1 W (hp.on hW))
  have H2 := Lib.hid (fun W (hW : ∃ x, W = gx w x) => D2 W (hp.on hW))
  have H3 := Lib.hid O1
  have H4 := Lib.hid O2
  clear D1 D2 O1 O2 hp
  go_enter Tryz.func6, Tryz.ntmps6
  go_wp2_with (first
    | go_skip
    | (go_at_call 21; refine (H1.out _ (by repeat (first | (with_reducible exact Gx.refl _) | (with_reducible assumption) | (with_reducible refine Gx.gx ?_) | (with_reducible refine Gx.alloc ?_) | (with_reducible refine Gx.drew ?_) | (with_reducible refine Gx.drewN ?_) | (with_reducible refine Gx.setRow ?_ (by first | omega | (simp; done) | (simp <;> omega))) | (with_reducible refine Gx.setCell ?_ (by first | omega | (simp; done) | (simp <;> omega)))))).mono ?_; rintro e w' ⟨rfl, x1, rfl⟩)
    | (go_at_call 22; refine (H2.out _ (by repeat (first | (with_reducible exact Gx.refl _) | (with_reducible assumption) | (with_reducible refine Gx.gx ?_) | (with_reducible refine Gx.alloc ?_) | (with_reducible refine Gx.drew ?_) | (with_reducible refine Gx.drewN ?_) | (with_reducible refine Gx.setRow ?_ (by first | omega | (simp; done) | (simp <;> omega))) | (with_reducible refine Gx.setCell ?_ (by first | omega | (simp; done) | (simp <;> omega)))))).mono ?_; rintro e w' ⟨rfl, x2, rfl⟩)
    | (go_at_call 23; refine (H3.out _).mono ?_; rintro e w' ⟨rfl, rfl⟩)
    | (go_at_call 24; refine (H4.out _).mono ?_; rintro e w' ⟨rfl, rfl⟩)
    | (go_at_call 14; refine (shown_any _).mono ?_; rintro e w' ⟨rfl, x5, rfl⟩))
  go_ret
  exact ⟨rfl, (by repeat (first | (with_reducible exact Gx.refl _) | (with_reducible assumption) | (with_reducible refine Gx.gx ?_) | (with_reducible refine Gx.alloc ?_) | (with_reducible refine Gx.drew ?_) | (with_reducible refine Gx.drewN ?_) | (with_reducible refine Gx.setRow ?_ (by first | omega | (simp; done) | (simp <;> omega))) | (with_reducible refine Gx.setCell ?_ (by first | omega | (simp; done) | (simp <;> omega)))))⟩
end Go.Proofs.YtbhcjaejkplfeaaGreatDoor
