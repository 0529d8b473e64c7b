/-
  The guard of stage 8: one track: its number by name.
-/
import Derived.Test.YtbhcjaejkplfeaaGreatDoorPEv
import Derived.Test.YtbhcjaejkplfeaaGreatDoorSRHeld
import Derived.Deep.RegionHeld3
namespace Go.Proofs.YtbhcjaejkplfeaaGreatDoor
open Go.RowKit
-- AT2
-- AT3

/-- A track as a value. -/
abbrev trV (s : ByteArray) (den : Int) (A : Option Addr) (n c : Nat) (lg : Int) : Value := .agg #[.string s, .int .i64 den, .slice A n c, .int .i64 lg]
theorem isTrack_any (s : ByteArray) (den : Int) (A : Option Addr) (n c : Nat) (lg : Int) (gp : Nat) (w : World) (hb : w.cell? ⟨gp, 0, none⟩ = some (.string ⟨#[116]⟩)) (hs : s = ⟨#[116]⟩) (hg : gp < w.heap.size) :
    Calls Tryz.prog 100 #[trV s den A n c lg, .pointer (some ⟨gp, 0, none⟩)] w fun e w' => e = .returned (.bool true) ∧ ∃ x, w' = gx w x := by
  subst hs
  go_enter Tryz.func100, Tryz.ntmps100
  go_wp2
  go_ret
  exact ⟨rfl, (by repeat (first | (with_reducible exact Gx.refl _) | (with_reducible assumption) | (with_reducible refine Gx.gx ?_) | (with_reducible refine Gx.alloc ?_) | (with_reducible refine Gx.drew ?_) | (with_reducible refine Gx.drewN ?_) | (with_reducible refine Gx.setRow ?_ (by first | omega | (simp; done) | (simp <;> omega))) | (with_reducible refine Gx.setCell ?_ (by first | omega | (simp; done) | (simp <;> omega)))))⟩
/-- One track lies at a place. -/
structure TrAt (w : World) (b o : Nat) (den : Int) (A : Option Addr) (n c : Nat) (lg : Int) : Prop where
  c0 : w.cell? ⟨b, o, none⟩ = some (.string ⟨#[116]⟩)
  c1 : w.cell? ⟨b, o + 1, none⟩ = some (.int .i64 den)
  c2 : w.cell? ⟨b, o + 2, none⟩ = some (.slice A n c)
  c3 : w.cell? ⟨b, o + 3, none⟩ = some (.int .i64 lg)
theorem TrAt.gx {w : World} {b o : Nat} {den : Int} {A : Option Addr} {n c : Nat} {lg : Int} {x : Ext} (h : TrAt w b o den A n c lg) : TrAt (Go.Proofs.YtbhcjaejkplfeaaGreatDoor.gx w x) b o den A n c lg :=
  ⟨cell_keep_gx h.c0, cell_keep_gx h.c1, cell_keep_gx h.c2, cell_keep_gx h.c3⟩
theorem TrAt.on {w W : World} {b o : Nat} {den : Int} {A : Option Addr} {n c : Nat} {lg : Int} (h : TrAt w b o den A n c lg) (hW : ∃ x, W = Go.Proofs.YtbhcjaejkplfeaaGreatDoor.gx w x) : TrAt W b o den A n c lg := by obtain ⟨x, rfl⟩ := hW; exact h.gx
theorem IndexTr_none (A : Option Addr) (c : Nat) (f : Value) (w : World) : Calls Tryz.prog 99 #[.slice A 0 c, f] w fun e w' => e = .returned (.int .i64 (-1)) ∧ ∃ x, w' = gx w x := by
  go_enter Tryz.func99, Tryz.ntmps99
  go_wp2
  refine wp_loop_rounds 1 ?_
  rw [rounds_succ]
  go_wp2
  go_ret
  exact ⟨rfl, (by repeat (first | (with_reducible exact Gx.refl _) | (with_reducible assumption) | (with_reducible refine Gx.gx ?_) | (with_reducible refine Gx.alloc ?_) | (with_reducible refine Gx.drew ?_) | (with_reducible refine Gx.drewN ?_) | (with_reducible refine Gx.setRow ?_ (by first | omega | (simp; done) | (simp <;> omega))) | (with_reducible refine Gx.setCell ?_ (by first | omega | (simp; done) | (simp <;> omega)))))⟩
theorem IndexTr_one (b cc : Nat) (den : Int) (A : Option Addr) (n c : Nat) (lg : Int) (gp : Nat) (w : World) (h : TrAt w b 0 den A n c lg) (hp : w.cell? ⟨gp, 0, none⟩ = some (.string ⟨#[116]⟩)) (hg : gp < w.heap.size) :
    Calls Tryz.prog 99 #[.slice (some ⟨b, 0, none⟩) 1 cc, .func (.func 100) #[] #[.pointer (some ⟨gp, 0, none⟩)]] w fun e w' => e = .returned (.int .i64 0) ∧ ∃ x, w' = gx w x := by
  obtain ⟨h0, h1, h2, h3⟩ := h
  go_enter Tryz.func99, Tryz.ntmps99
  go_wp2
  refine wp_loop_rounds 1 ?_
  rw [rounds_succ]
  go_wp2_with (first | (go_at_call 100; refine (isTrack_any _ _ _ _ _ _ _ _ hp rfl hg).mono ?_; rintro e w' ⟨rfl, x, rfl⟩))
  go_ret
  exact ⟨rfl, (by repeat (first | (with_reducible exact Gx.refl _) | (with_reducible assumption) | (with_reducible refine Gx.gx ?_) | (with_reducible refine Gx.alloc ?_) | (with_reducible refine Gx.drew ?_) | (with_reducible refine Gx.drewN ?_) | (with_reducible refine Gx.setRow ?_ (by first | omega | (simp; done) | (simp <;> omega))) | (with_reducible refine Gx.setCell ?_ (by first | omega | (simp; done) | (simp <;> omega)))))⟩
theorem TrackNumber_none (A : Option Addr) (c : Nat) (s : ByteArray) (w : World) : Calls Tryz.prog 70 #[.slice A 0 c, .string s] w fun e w' => e = .returned (.int .i64 (-1)) ∧ ∃ x, w' = gx w x := by
  go_enter Tryz.func70, Tryz.ntmps70
  go_wp2_with (first | (go_at_call 99; refine (IndexTr_none _ _ _ _).mono ?_; rintro e w' ⟨rfl, x, rfl⟩))
  go_ret
  exact ⟨rfl, (by repeat (first | (with_reducible exact Gx.refl _) | (with_reducible assumption) | (with_reducible refine Gx.gx ?_) | (with_reducible refine Gx.alloc ?_) | (with_reducible refine Gx.drew ?_) | (with_reducible refine Gx.drewN ?_) | (with_reducible refine Gx.setRow ?_ (by first | omega | (simp; done) | (simp <;> omega))) | (with_reducible refine Gx.setCell ?_ (by first | omega | (simp; done) | (simp <;> omega)))))⟩
theorem TrackNumber_one (b cc : Nat) (den : Int) (A : Option Addr) (n c : Nat) (lg : Int) (w : World) (h : TrAt w b 0 den A n c lg) :
    Calls Tryz.prog 70 #[.slice (some ⟨b, 0, none⟩) 1 cc, .string ⟨#[116]⟩] w fun e w' => e = .returned (.int .i64 0) ∧ ∃ x, w' = gx w x := by
  go_enter Tryz.func70, Tryz.ntmps70
  go_wp2_with (first | (go_at_call 99; refine (IndexTr_one b cc den A n c lg _ _ (h.on (by repeat (first | (with_reducible exact Gx.refl _) | (with_reducible assumption) | (with_reducible refine Gx.gx ?_) | (with_reducible refine Gx.alloc ?_) | (with_reducible refine Gx.drew ?_) | (with_reducible refine Gx.drewN ?_) | (with_reducible refine Gx.setRow ?_ (by first | omega | (simp; done) | (simp <;> omega))) | (with_reducible refine Gx.setCell ?_ (by first | omega | (simp; done) | (simp <;> omega)))))) (by simp [go_sem]) (by simp)).mono ?_; rintro e w' ⟨rfl, x, rfl⟩))
  go_ret
  exact ⟨rfl, (by repeat (first | (with_reducible exact Gx.refl _) | (with_reducible assumption) | (with_reducible refine Gx.gx ?_) | (with_reducible refine Gx.alloc ?_) | (with_reducible refine Gx.drew ?_) | (with_reducible refine Gx.drewN ?_) | (with_reducible refine Gx.setRow ?_ (by first | omega | (simp; done) | (simp <;> omega))) | (with_reducible refine Gx.setCell ?_ (by first | omega | (simp; done) | (simp <;> omega)))))⟩
end Go.Proofs.YtbhcjaejkplfeaaGreatDoor
