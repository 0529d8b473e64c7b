/-
  The value of a track in a frame; the guard's samples.
-/
import Derived.Test.YtbhcjaejkplfeaaGreatDoorPDgG
import Derived.Test.YtbhcjaejkplfeaaGreatDoorPTk
import Derived.Deep.RegionHeld3
namespace Go.Proofs.YtbhcjaejkplfeaaGreatDoor
open Go.RowKit
-- AT2
-- AT3

set_option maxHeartbeats 1000000 in
set_option maxRecDepth 100000 in
theorem value_any (s : ByteArray) (den : Int) (g : Nat → Sm) (n c : Nat) (A : Option Addr) (lg fr : Int) (w : World) (hL : SmAt w g n A) (hn : n ≤ 20000) (hG : GoodS g n) (hf : 0 ≤ fr ∧ fr ≤ 16777215) (hl : 0 ≤ lg ∧ lg ≤ 1099511627776) (v : Sm) (b : Bool)
    (hv : heldV g (aheadN g (64 * fr + 64) n) (64 * fr + 63) lg = v) (hb : heldB g (aheadN g (64 * fr + 64) n) (64 * fr + 63) lg = b) :
    Calls Tryz.prog 42 #[trV s den A n c lg, .int .i64 fr] w fun e w' => e = .returned (.tuple #[smV v.t v.n v.m, .bool b]) ∧ ∃ x, w' = gx w x := by
  have HH := Lib.hid (fun W (hW : ∃ x, W = gx w x) => hold_any g n c A (64 * fr + 63) lg W (by obtain ⟨x, rfl⟩ := hW; exact hL.gx) hn hG (by omega) (by omega) hl.1 hl.2)
  rw [show 64 * fr + 63 + 1 = 64 * fr + 64 by omega, hv, hb] at HH
  clear hv hb
  obtain ⟨t, N, m⟩ := v
  dsimp only at *
  obtain ⟨q, hq⟩ : ∃ q, 64 * fr = q := ⟨_, rfl⟩
  obtain ⟨r, hr⟩ : ∃ r, q + 64 = r := ⟨_, rfl⟩
  obtain ⟨a, ha⟩ : ∃ a, 64 * fr + 63 = a := ⟨_, rfl⟩
  rw [ha] at HH
  have e1 : IntKind.i64.wrap (64 * fr) = q := by rw [IntWalk.i64_in _ (by omega), hq]
  have e2 : IntKind.i64.wrap (q + 64) = r := by rw [IntWalk.i64_in _ (by omega), hr]
  have e3 : IntKind.i64.wrap (r - 1) = a := by rw [IntWalk.i64_in _ (by omega)]; omega
  clear hq hr ha hf hl hn hG
  go_enter Tryz.func42, Tryz.ntmps42
  go_wp2_with (first | (go_at_call 72; refine (HH.out _ (by repeat (first | (with_reducible exact Gx.refl _) | (with_reducible assumption) | (with_reducible refine Gx.gx ?_) | (with_reducible refine Gx.alloc ?_) | (with_reducible refine Gx.drew ?_) | (with_reducible refine Gx.drewN ?_) | (with_reducible refine Gx.setRow ?_ (by first | omega | (simp; done) | (simp <;> omega))) | (with_reducible refine Gx.setCell ?_ (by first | omega | (simp; done) | (simp <;> omega)))))).mono ?_; rintro e w' ⟨rfl, x1, rfl⟩))
  exact bodyPost_ret (v := .tuple #[smV t N m, .bool b]) (by simp [results, Tryz.results42, go_sem]) rfl ⟨rfl, (by repeat (first | (with_reducible exact Gx.refl _) | (with_reducible assumption) | (with_reducible refine Gx.gx ?_) | (with_reducible refine Gx.alloc ?_) | (with_reducible refine Gx.drew ?_) | (with_reducible refine Gx.drewN ?_) | (with_reducible refine Gx.setRow ?_ (by first | omega | (simp; done) | (simp <;> omega))) | (with_reducible refine Gx.setCell ?_ (by first | omega | (simp; done) | (simp <;> omega)))))⟩
/-- The samples of the guard. -/
def smG : Nat → Sm := fun _ => ⟨70, -3, 4⟩
theorem smG_G : GoodS smG 1 := ⟨fun i _ => by unfold smG smOk; decide, fun i _ h => by unfold smG at h; simp at h, fun i h => by omega⟩
theorem smG_0 : serE 2 smG 1 = 0 := goodS_back (by omega) (by omega) smG_G
/-- In the frames 0 and 1. -/
theorem smG_v0 : heldV smG (aheadN smG (64 * 0 + 64) 1) (64 * 0 + 63) 100 = ⟨0, 0, 0⟩ ∧ heldB smG (aheadN smG (64 * 0 + 64) 1) (64 * 0 + 63) 100 = false := by
  have : aheadN smG (64 * 0 + 64) 1 = 0 := aheadN_uniq smG_G (by omega) (fun i hi => by omega) (fun i _ _ => by unfold smG; decide)
  rw [this]
  exact ⟨by unfold heldV heldB; rfl, by unfold heldB; rfl⟩
theorem smG_v1 : heldV smG (aheadN smG (64 * 1 + 64) 1) (64 * 1 + 63) 100 = ⟨70, -3, 4⟩ ∧ heldB smG (aheadN smG (64 * 1 + 64) 1) (64 * 1 + 63) 100 = true := by
  have : aheadN smG (64 * 1 + 64) 1 = 1 := aheadN_uniq smG_G (by omega) (fun i hi => by unfold smG; decide) (fun i _ _ => by omega)
  rw [this]
  exact ⟨by unfold heldV heldB; rfl, by unfold heldB; rfl⟩
/-- What a gauge of the guard has in its block: kind, places, track. -/
structure GaAt (w : World) (gB : Nat) (A : Option Addr) (c : Nat) : Prop where
  k : w.cell? ⟨gB, 0, none⟩ = some (.int .i64 1)
  p : w.cell? ⟨gB, 3, none⟩ = some (.int .i64 1)
  t0 : w.cell? ⟨gB, 12, none⟩ = some (.string ⟨#[116]⟩)
  t1 : w.cell? ⟨gB, 13, none⟩ = some (.int .i64 2)
  t2 : w.cell? ⟨gB, 14, none⟩ = some (.slice A 1 c)
  t3 : w.cell? ⟨gB, 15, none⟩ = some (.int .i64 100)
  s : SmAt w smG 1 A
theorem GaAt.on {w W : World} {gB c : Nat} {A : Option Addr} (h : GaAt w gB A c) (hW : ∃ x, W = Go.Proofs.YtbhcjaejkplfeaaGreatDoor.gx w x) : GaAt W gB A c := by
  obtain ⟨x, rfl⟩ := hW
  exact ⟨cell_keep_gx h.k, cell_keep_gx h.p, cell_keep_gx h.t0, cell_keep_gx h.t1, cell_keep_gx h.t2, cell_keep_gx h.t3, h.s.gx⟩
/-- A memo that remembers nothing. -/
abbrev mmG : Value := .agg #[.bool false, .bool false, .int .i64 0, .int .i64 0]
set_option maxHeartbeats 1000000 in
set_option maxRecDepth 100000 in
theorem next_G (gB c : Nat) (A : Option Addr) (fr : Int) (hf : fr = 0 ∨ fr = 1) (w : World) (h : GaAt w gB A c) :
    Calls Tryz.prog 133 #[.pointer (some ⟨gB, 0, none⟩), mmG, .int .i64 fr] w fun e w' => e = .returned mmG ∧ ∃ x, w' = gx w x := by
  obtain ⟨v, b, HV⟩ : ∃ (v : Sm) (b : Bool), Hid (∀ W, (∃ x, W = gx w x) → Calls Tryz.prog 42 #[trV ⟨#[116]⟩ 2 A 1 c 100, .int .i64 fr] W fun e w' => e = .returned (.tuple #[smV v.t v.n v.m, .bool b]) ∧ ∃ x, w' = gx W x) := by
    rcases hf with rfl | rfl
    · exact ⟨⟨0, 0, 0⟩, false, Lib.hid (fun W hW => value_any _ _ smG _ _ _ _ _ W (h.on hW).s (by omega) smG_G (by omega) (by omega) _ _ smG_v0.1 smG_v0.2)⟩
    · exact ⟨⟨70, -3, 4⟩, true, Lib.hid (fun W hW => value_any _ _ smG _ _ _ _ _ W (h.on hW).s (by omega) smG_G (by omega) (by omega) _ _ smG_v1.1 smG_v1.2)⟩
  have hb : gB < w.heap.size := World.block_lt_of_cell? w _ h.k
  obtain ⟨k, p, t0, t1, t2, t3, -⟩ := h
  clear hf
  go_enter Tryz.func133, Tryz.ntmps133
  go_wp2_with (first | (go_at_call 42; refine (HV.out _ (by repeat (first | (with_reducible exact Gx.refl _) | (with_reducible assumption) | (with_reducible refine Gx.gx ?_) | (with_reducible refine Gx.alloc ?_) | (with_reducible refine Gx.drew ?_) | (with_reducible refine Gx.drewN ?_) | (with_reducible refine Gx.setRow ?_ (by first | omega | (simp; done) | (simp <;> omega))) | (with_reducible refine Gx.setCell ?_ (by first | omega | (simp; done) | (simp <;> omega)))))).mono ?_; rintro e w' ⟨rfl, x1, rfl⟩))
  exact bodyPost_ret (v := mmG) (by simp [results, Tryz.results133, go_sem]) rfl ⟨rfl, (by repeat (first | (with_reducible exact Gx.refl _) | (with_reducible assumption) | (with_reducible refine Gx.gx ?_) | (with_reducible refine Gx.alloc ?_) | (with_reducible refine Gx.drew ?_) | (with_reducible refine Gx.drewN ?_) | (with_reducible refine Gx.setRow ?_ (by first | omega | (simp; done) | (simp <;> omega))) | (with_reducible refine Gx.setCell ?_ (by first | omega | (simp; done) | (simp <;> omega)))))⟩
set_option maxHeartbeats 1000000 in
set_option maxRecDepth 100000 in
theorem gdigits_G (gB c : Nat) (A : Option Addr) (w : World) (h : GaAt w gB A c) :
    Calls Tryz.prog 117 #[.pointer (some ⟨gB, 0, none⟩), .int .i64 (-3)] w fun e w' => e = .returned (.string ⟨#[45, 49, 46, 53]⟩) ∧ ∃ x, w' = gx w x := by
  have hb : gB < w.heap.size := World.block_lt_of_cell? w _ h.k
  obtain ⟨k, p, t0, t1, t2, t3, -⟩ := h
  go_enter Tryz.func117, Tryz.ntmps117
  go_wp2
  go_region_held3 (fun W => (∃ x, W = gx w x) ∧ W.cell? ⟨gB, 13, none⟩ = some (.int .i64 2) ∧ W.cell? ⟨gB, 3, none⟩ = some (.int .i64 1))
    (refine ⟨(by repeat (first | (with_reducible exact Gx.refl _) | (with_reducible assumption) | (with_reducible refine Gx.gx ?_) | (with_reducible refine Gx.alloc ?_) | (with_reducible refine Gx.drew ?_) | (with_reducible refine Gx.drewN ?_) | (with_reducible refine Gx.setRow ?_ (by first | omega | (simp; done) | (simp <;> omega))) | (with_reducible refine Gx.setCell ?_ (by first | omega | (simp; done) | (simp <;> omega))))), ?_, ?_⟩ <;> first | assumption | exact cell_keep_gx ‹_› | go_keep | (simp [go_sem]; done))
    (first | (go_at_call 52; refine (digits_G _).mono ?_; rintro e w' ⟨rfl, x2, rfl⟩))
  all_goals go_wp2
  all_goals go_ret
  all_goals exact ⟨rfl, (by repeat (first | (with_reducible exact Gx.refl _) | (with_reducible assumption) | (with_reducible refine Gx.gx ?_) | (with_reducible refine Gx.alloc ?_) | (with_reducible refine Gx.drew ?_) | (with_reducible refine Gx.drewN ?_) | (with_reducible refine Gx.setRow ?_ (by first | omega | (simp; done) | (simp <;> omega))) | (with_reducible refine Gx.setCell ?_ (by first | omega | (simp; done) | (simp <;> omega)))))⟩
/-- The face that the guard shows. -/
abbrev fcG : Value := .agg #[.string ⟨#[45, 49, 46, 53]⟩, .int .i64 0, .bool false, .int .i64 4]
set_option maxHeartbeats 1000000 in
set_option maxRecDepth 100000 in
theorem face_G (gB c : Nat) (A : Option Addr) (w : World) (h : GaAt w gB A c) :
    Calls Tryz.prog 95 #[.pointer (some ⟨gB, 0, none⟩), mmG, .int .i64 1] w fun e w' => e = .returned fcG ∧ ∃ x, w' = gx w x := by
  have HV := Lib.hid (fun W (hW : ∃ x, W = gx w x) => value_any ⟨#[116]⟩ 2 smG 1 c A 100 1 W (h.on hW).s (by omega) smG_G (by omega) (by omega) ⟨70, -3, 4⟩ true smG_v1.1 smG_v1.2)
  have HD := Lib.hid (fun W (hW : ∃ x, W = gx w x) => gdigits_G gB c A W (h.on hW))
  dsimp only at HV
  have hb : gB < w.heap.size := World.block_lt_of_cell? w _ h.k
  obtain ⟨k, p, t0, t1, t2, t3, -⟩ := h
  go_enter Tryz.func95, Tryz.ntmps95
  go_wp2_with (first | (go_at_call 42; refine (HV.out _ (by repeat (first | (with_reducible exact Gx.refl _) | (with_reducible assumption) | (with_reducible refine Gx.gx ?_) | (with_reducible refine Gx.alloc ?_) | (with_reducible refine Gx.drew ?_) | (with_reducible refine Gx.drewN ?_) | (with_reducible refine Gx.setRow ?_ (by first | omega | (simp; done) | (simp <;> omega))) | (with_reducible refine Gx.setCell ?_ (by first | omega | (simp; done) | (simp <;> omega)))))).mono ?_; rintro e w' ⟨rfl, x1, rfl⟩) | (go_at_call 117; refine (HD.out _ (by repeat (first | (with_reducible exact Gx.refl _) | (with_reducible assumption) | (with_reducible refine Gx.gx ?_) | (with_reducible refine Gx.alloc ?_) | (with_reducible refine Gx.drew ?_) | (with_reducible refine Gx.drewN ?_) | (with_reducible refine Gx.setRow ?_ (by first | omega | (simp; done) | (simp <;> omega))) | (with_reducible refine Gx.setCell ?_ (by first | omega | (simp; done) | (simp <;> omega)))))).mono ?_; rintro e w' ⟨rfl, x2, rfl⟩))
  exact bodyPost_ret (v := fcG) (by simp [results, Tryz.results95, go_sem]) rfl ⟨rfl, (by repeat (first | (with_reducible exact Gx.refl _) | (with_reducible assumption) | (with_reducible refine Gx.gx ?_) | (with_reducible refine Gx.alloc ?_) | (with_reducible refine Gx.drew ?_) | (with_reducible refine Gx.drewN ?_) | (with_reducible refine Gx.setRow ?_ (by first | omega | (simp; done) | (simp <;> omega))) | (with_reducible refine Gx.setCell ?_ (by first | omega | (simp; done) | (simp <;> omega)))))⟩
end Go.Proofs.YtbhcjaejkplfeaaGreatDoor
