/-
  The guard of stage 8: its panel is good (over the contract of CheckInstrument).
-/
import Derived.Test.YtbhcjaejkplfeaaGreatDoorPFo
import Derived.Test.YtbhcjaejkplfeaaGreatDoorPTk
namespace Go.Proofs.YtbhcjaejkplfeaaGreatDoor
open Go.RowKit
-- AT2
-- AT3

/-- The instrument of the guard. -/
abbrev inG : Value := inV 1 ⟨#[97]⟩ ⟨#[116]⟩ 1 0 0 0 none 0 0 0 0 false 0
/-- It lies at the beginning of a block. -/
structure InAt (w : World) (b : Nat) : Prop where
  c0 : w.cell? ⟨b, 0, none⟩ = some (.int .i64 1)
  c1 : w.cell? ⟨b, 1, none⟩ = some (.string ⟨#[97]⟩)
  c2 : w.cell? ⟨b, 2, none⟩ = some (.string ⟨#[116]⟩)
  c3 : w.cell? ⟨b, 3, none⟩ = some (.int .i64 1)
  c4 : w.cell? ⟨b, 4, none⟩ = some (.int .i64 0)
  c5 : w.cell? ⟨b, 5, none⟩ = some (.int .i64 0)
  c6 : w.cell? ⟨b, 6, none⟩ = some (.int .i64 0)
  c7 : w.cell? ⟨b, 7, none⟩ = some (.slice none 0 0)
  c8 : w.cell? ⟨b, 8, none⟩ = some (.int .i64 0)
  c9 : w.cell? ⟨b, 9, none⟩ = some (.int .i64 0)
  c10 : w.cell? ⟨b, 10, none⟩ = some (.bool false)
  c11 : w.cell? ⟨b, 11, none⟩ = some (.int .i64 0)
theorem InAt.on {w W : World} {b : Nat} (h : InAt w b) (hW : ∃ x, W = Go.Proofs.YtbhcjaejkplfeaaGreatDoor.gx w x) : InAt W b := by
  obtain ⟨x, rfl⟩ := hW
  exact ⟨cell_keep_gx h.c0, cell_keep_gx h.c1, cell_keep_gx h.c2, cell_keep_gx h.c3, cell_keep_gx h.c4, cell_keep_gx h.c5, cell_keep_gx h.c6, cell_keep_gx h.c7, cell_keep_gx h.c8, cell_keep_gx h.c9, cell_keep_gx h.c10, cell_keep_gx h.c11⟩
theorem ContainsIn_none (A : Option Addr) (c : Nat) (f : Value) (w : World) : Calls Tryz.prog 34 #[.slice A 0 c, f] w fun e w' => e = .returned (.bool false) ∧ ∃ x, w' = gx w x := by
  have h : ∀ w, Calls Tryz.prog 62 #[.slice A 0 c, f] w fun e w' => e = .returned (.int .i64 (-1)) ∧ ∃ x, w' = gx w x := by
    intro w
    go_enter Tryz.func62, Tryz.ntmps62
    go_wp2
    refine wp_loop_rounds 1 ?_
    rw [rounds_succ]
    go_wp2
    go_ret
    exact ⟨rfl, (by repeat (first | (with_reducible exact Gx.refl _) | (with_reducible assumption) | (with_reducible refine Gx.gx ?_) | (with_reducible refine Gx.alloc ?_) | (with_reducible refine Gx.drew ?_) | (with_reducible refine Gx.drewN ?_) | (with_reducible refine Gx.setRow ?_ (by first | omega | (simp; done) | (simp <;> omega))) | (with_reducible refine Gx.setCell ?_ (by first | omega | (simp; done) | (simp <;> omega)))))⟩
  go_enter Tryz.func34, Tryz.ntmps34
  go_wp2_with (first | (go_at_call 62; refine (h _).mono ?_; rintro e w' ⟨rfl, x, rfl⟩))
  go_ret
  exact ⟨rfl, (by repeat (first | (with_reducible exact Gx.refl _) | (with_reducible assumption) | (with_reducible refine Gx.gx ?_) | (with_reducible refine Gx.alloc ?_) | (with_reducible refine Gx.drew ?_) | (with_reducible refine Gx.drewN ?_) | (with_reducible refine Gx.setRow ?_ (by first | omega | (simp; done) | (simp <;> omega))) | (with_reducible refine Gx.setCell ?_ (by first | omega | (simp; done) | (simp <;> omega)))))⟩
set_option maxHeartbeats 1000000 in
theorem Check_one (b c : Nat) (w : World) (h : InAt w b)
    (HI : Hid (∀ W, (∃ x, W = gx w x) → Calls Tryz.prog 7 #[inG] W fun e w' => e = .returned (.int .i64 0) ∧ ∃ x, w' = gx W x)) :
    Calls Tryz.prog 11 #[.agg #[.slice (some ⟨b, 0, none⟩) 1 c]] w fun e w' => e = .returned (.int .i64 0) ∧ ∃ x, w' = gx w x := by
  have hb : b < w.heap.size := World.block_lt_of_cell? w _ h.c0
  obtain ⟨c0, c1, c2, c3, c4, c5, c6, c7, c8, c9, c10, c11⟩ := h
  go_enter Tryz.func11, Tryz.ntmps11
  go_wp2
  refine wp_loop_rounds 2 ?_
  rw [rounds_succ]
  go_wp2_with (first
    | (go_at_call 7; refine (HI.out _ (by repeat (first | (with_reducible exact Gx.refl _) | (with_reducible assumption) | (with_reducible refine Gx.gx ?_) | (with_reducible refine Gx.alloc ?_) | (with_reducible refine Gx.drew ?_) | (with_reducible refine Gx.drewN ?_) | (with_reducible refine Gx.setRow ?_ (by first | omega | (simp; done) | (simp <;> omega))) | (with_reducible refine Gx.setCell ?_ (by first | omega | (simp; done) | (simp <;> omega)))))).mono ?_; rintro e w' ⟨rfl, x1, rfl⟩)
    | (go_at_call 34; refine (ContainsIn_none _ _ _ _).mono ?_; rintro e w' ⟨rfl, x2, rfl⟩))
  rw [rounds_succ]
  go_wp2
  go_ret
  exact ⟨rfl, (by repeat (first | (with_reducible exact Gx.refl _) | (with_reducible assumption) | (with_reducible refine Gx.gx ?_) | (with_reducible refine Gx.alloc ?_) | (with_reducible refine Gx.drew ?_) | (with_reducible refine Gx.drewN ?_) | (with_reducible refine Gx.setRow ?_ (by first | omega | (simp; done) | (simp <;> omega))) | (with_reducible refine Gx.setCell ?_ (by first | omega | (simp; done) | (simp <;> omega)))))⟩
set_option maxHeartbeats 1000000 in
theorem checkBoth_one (b c bt ct : Nat) (den : Int) (A : Option Addr) (n cs : Nat) (lg : Int) (f : Nat → Sm) (w : World) (h : InAt w b) (hT : TrAt w bt 0 den A n cs lg) (hL : SmAt w f n A) (h0 : serE den f n = 0) (hl : 0 ≤ lg ∧ lg ≤ 1099511627776)
    (HI : Hid (∀ W, (∃ x, W = gx w x) → Calls Tryz.prog 7 #[inG] W fun e w' => e = .returned (.int .i64 0) ∧ ∃ x, w' = gx W x)) :
    Calls Tryz.prog 64 #[.agg #[.slice (some ⟨b, 0, none⟩) 1 c], .slice (some ⟨bt, 0, none⟩) 1 ct] w fun e w' => e = .returned (.int .i64 0) ∧ ∃ x, w' = gx w x := by
  have hb : b < w.heap.size := World.block_lt_of_cell? w _ h.c0
  have K1 := Lib.hid (fun W (hW : ∃ x, W = gx w x) => Check_one b c W (h.on hW) (Lib.hid (fun W' hW' => HI.out W' (Gx.trans hW' hW))))
  have K2 := Lib.hid (fun W (hW : ∃ x, W = gx w x) => CheckTracks_one bt ct den A n cs lg f W (hT.on hW) (by obtain ⟨x, rfl⟩ := hW; exact hL.gx) h0 hl)
  have K3 := Lib.hid (fun W (hW : ∃ x, W = gx w x) => TrackNumber_one bt ct den A n cs lg W (hT.on hW))
  obtain ⟨c0, c1, c2, c3, c4, c5, c6, c7, c8, c9, c10, c11⟩ := h
  clear HI hT
  go_enter Tryz.func64, Tryz.ntmps64
  go_wp2_with (first
    | (go_at_call 11; refine (K1.out _ (by repeat (first | (with_reducible exact Gx.refl _) | (with_reducible assumption) | (with_reducible refine Gx.gx ?_) | (with_reducible refine Gx.alloc ?_) | (with_reducible refine Gx.drew ?_) | (with_reducible refine Gx.drewN ?_) | (with_reducible refine Gx.setRow ?_ (by first | omega | (simp; done) | (simp <;> omega))) | (with_reducible refine Gx.setCell ?_ (by first | omega | (simp; done) | (simp <;> omega)))))).mono ?_; rintro e w' ⟨rfl, x1, rfl⟩)
    | (go_at_call 41; refine (K2.out _ (by repeat (first | (with_reducible exact Gx.refl _) | (with_reducible assumption) | (with_reducible refine Gx.gx ?_) | (with_reducible refine Gx.alloc ?_) | (with_reducible refine Gx.drew ?_) | (with_reducible refine Gx.drewN ?_) | (with_reducible refine Gx.setRow ?_ (by first | omega | (simp; done) | (simp <;> omega))) | (with_reducible refine Gx.setCell ?_ (by first | omega | (simp; done) | (simp <;> omega)))))).mono ?_; rintro e w' ⟨rfl, x2, rfl⟩))
  refine wp_loop_rounds 2 ?_
  rw [rounds_succ]
  go_wp2_with (first
    | (go_at_call 70; refine (K3.out _ (by repeat (first | (with_reducible exact Gx.refl _) | (with_reducible assumption) | (with_reducible refine Gx.gx ?_) | (with_reducible refine Gx.alloc ?_) | (with_reducible refine Gx.drew ?_) | (with_reducible refine Gx.drewN ?_) | (with_reducible refine Gx.setRow ?_ (by first | omega | (simp; done) | (simp <;> omega))) | (with_reducible refine Gx.setCell ?_ (by first | omega | (simp; done) | (simp <;> omega)))))).mono ?_; rintro e w' ⟨rfl, x3, rfl⟩))
  rw [rounds_succ]
  go_wp2
  go_ret
  exact ⟨rfl, (by repeat (first | (with_reducible exact Gx.refl _) | (with_reducible assumption) | (with_reducible refine Gx.gx ?_) | (with_reducible refine Gx.alloc ?_) | (with_reducible refine Gx.drew ?_) | (with_reducible refine Gx.drewN ?_) | (with_reducible refine Gx.setRow ?_ (by first | omega | (simp; done) | (simp <;> omega))) | (with_reducible refine Gx.setCell ?_ (by first | omega | (simp; done) | (simp <;> omega)))))⟩
end Go.Proofs.YtbhcjaejkplfeaaGreatDoor
