/-
  The guard of stage 8: shown() = true.
-/
import Derived.Test.YtbhcjaejkplfeaaGreatDoorPInsO
import Derived.Test.YtbhcjaejkplfeaaGreatDoorPFcs
namespace Go.Proofs.YtbhcjaejkplfeaaGreatDoor
open Go.RowKit
-- AT2
-- AT3

theorem CheckInstrument_G (w : World) : Calls Tryz.prog 7 #[inG] w fun e w' => e = .returned (.int .i64 0) ∧ ∃ x, w' = gx w x := by
  refine ins_o 1 ⟨#[97]⟩ ⟨#[116]⟩ 1 0 0 0 none 0 0 0 0 false 0 inG rfl [(true, [1, 4, 6]), (false, [2]), (false, [3, 5]), (false, [3]), (false, [6])] true false w ?_ ?_ ?_ ⟨rfl, rfl, by decide, by decide, rfl, by omega, by omega⟩
  · refine Lib.hid fun W _ => ?_
    have := pIsName_any ⟨#[97]⟩ (by decide) W
    rw [pName_a] at this
    exact this
  · refine Lib.hid fun W _ => ?_
    exact fieldsOf_core 1 ⟨#[97]⟩ ⟨#[116]⟩ 1 0 0 0 none 0 0 0 0 false 0 W false false (.inr ⟨rfl, rfl, rfl, rfl, rfl⟩) (.inr ⟨rfl, rfl, rfl⟩)
  · refine Lib.hid fun W A hF _ => ?_
    unfold FiveAt at hF
    obtain ⟨g, rfl, hl, h⟩ := hF
    have := isMisused_any [(true, [1, 4, 6]), (false, [2]), (false, [3, 5]), (false, [3]), (false, [6])] g 5 1 W (by decide) h
    rw [show misB 1 [(true, [1, 4, 6]), (false, [2]), (false, [3, 5]), (false, [3]), (false, [6])] = false by unfold misB misF inI; rfl] at this
    exact this
set_option maxHeartbeats 2000000 in
set_option maxRecDepth 100000 in
theorem Faces_G (w0 : World) (gR gB gM gK kl kc : Nat) (A : Option Addr) (c : Nat) (w : World) (hG : ∃ x, w = gx w0 x) (hR : At w gR (.cells (rpC gB gM gK kl kc 1) 109 (0, 0))) (hB : GaAt w0 gB A c) (hM : MmAt w gM) :
    Calls Tryz.prog 40 #[.pointer (some ⟨gR, 0, none⟩)] w fun e w' => ∃ gF cF, e = .returned (.slice (some ⟨gF, 0, none⟩) 1 cF) ∧ (∀ j u, fcC[j]? = some u → w'.cell? ⟨gF, j, none⟩ = some u) ∧ ∃ x, w' = gx w x := by
  have HF := Lib.hid (fun W (hW : ∃ x, W = gx w x) => faces_G gB 1 gM A c W (hB.on (Gx.trans hW hG)) (hM.on hW))
  have r0 : w.cell? ⟨gR, 0, none⟩ = some (.slice (some ⟨gB, 0, none⟩) 1 1) := by rw [cell_of_row w _ _ _ _ _ hR]; rfl
  have r2 : w.cell? ⟨gR, 2, none⟩ = some (.int .i64 1) := by rw [cell_of_row w _ _ _ _ _ hR]; rfl
  have r3 : w.cell? ⟨gR, 3, none⟩ = some (.slice (some ⟨gM, 0, none⟩) 1 1) := by rw [cell_of_row w _ _ _ _ _ hR]; rfl
  have lR := hR.lt
  clear hR hG hB hM
  go_enter Tryz.func40, Tryz.ntmps40
  go_wp2
  go_region_held3 (fun W => (∃ x, W = gx w x) ∧ W.cell? ⟨gR, 0, none⟩ = some (.slice (some ⟨gB, 0, none⟩) 1 1) ∧ W.cell? ⟨gR, 2, none⟩ = some (.int .i64 1) ∧ W.cell? ⟨gR, 3, none⟩ = some (.slice (some ⟨gM, 0, none⟩) 1 1))
    (refine ⟨(by repeat (first | (with_reducible exact Gx.refl _) | (with_reducible assumption) | (with_reducible refine Gx.gx ?_) | (with_reducible refine Gx.alloc ?_) | (with_reducible refine Gx.drew ?_) | (with_reducible refine Gx.drewN ?_) | (with_reducible refine Gx.setRow ?_ (by first | omega | (simp; done) | (simp <;> omega))) | (with_reducible refine Gx.setCell ?_ (by first | omega | (simp; done) | (simp <;> omega))))), ?_, ?_, ?_⟩ <;> first | assumption | exact cell_keep_gx ‹_› | go_keep | (simp [go_sem]; done))
    (first | (go_at_call 68; refine (HF.out _ (by repeat (first | (with_reducible exact Gx.refl _) | (with_reducible assumption) | (with_reducible refine Gx.gx ?_) | (with_reducible refine Gx.alloc ?_) | (with_reducible refine Gx.drew ?_) | (with_reducible refine Gx.drewN ?_) | (with_reducible refine Gx.setRow ?_ (by first | omega | (simp; done) | (simp <;> omega))) | (with_reducible refine Gx.setCell ?_ (by first | omega | (simp; done) | (simp <;> omega)))))).mono ?_; rintro e W1 ⟨gF, cF, rfl, hc, x1, rfl⟩; have HC := Lib.hid hc; clear hc))
  all_goals go_wp2
  all_goals go_ret
  all_goals exact ⟨gF, cF, rfl, HC.out, (by repeat (first | (with_reducible exact Gx.refl _) | (with_reducible assumption) | (with_reducible refine Gx.gx ?_) | (with_reducible refine Gx.alloc ?_) | (with_reducible refine Gx.drew ?_) | (with_reducible refine Gx.drewN ?_) | (with_reducible refine Gx.setRow ?_ (by first | omega | (simp; done) | (simp <;> omega))) | (with_reducible refine Gx.setCell ?_ (by first | omega | (simp; done) | (simp <;> omega)))))⟩
theorem inAt_new {w : World} {g : Nat} {t : TypeId} (h : At w g (.cells #[.int .i64 1, .string ⟨#[97]⟩, .string ⟨#[116]⟩, .int .i64 1, .int .i64 0, .int .i64 0, .int .i64 0, .slice none 0 0, .int .i64 0, .int .i64 0, .bool false, .int .i64 0] t (0, 0))) : InAt w g := by
  constructor <;> (rw [cell_of_row w _ _ _ _ _ h]; rfl)
theorem trAt_new {w : World} {g : Nat} {den lg : Int} {A : Option Addr} {n c : Nat} {t : TypeId} (h : At w g (.cells #[.string ⟨#[116]⟩, .int .i64 den, .slice A n c, .int .i64 lg] t (0, 0))) : TrAt w g 0 den A n c lg := by
  constructor <;> (rw [cell_of_row w _ _ _ _ _ h]; rfl)
theorem smAt_new {w : World} {g : Nat} {t : TypeId} (h : At w g (.cells #[.int .i64 70, .int .i64 (-3), .int .i64 4] t (0, 0))) : SmAt w smG 1 (some ⟨g, 0, none⟩) := by
  refine SmAt.mk fun _ => ⟨g, 0, rfl, fun k hk => ?_⟩
  obtain rfl : k = 0 := by omega
  refine ⟨?_, ?_, ?_⟩ <;> (rw [cell_of_row w _ _ _ _ _ h]; rfl)
set_option maxHeartbeats 4000000 in
set_option maxRecDepth 100000 in
theorem shown_any (w : World) : Calls Tryz.prog 14 #[] w fun e w' => e = .returned (.bool true) ∧ ∃ x, w' = gx w x := by
  go_enter Tryz.func14, Tryz.ntmps14
  go_wp2_with (first
    | go_skip
    | (go_at_call 38; refine (New_G w.heap.size 1 (w.heap.size + 1 + 1 + 1) 1 1 (some ⟨w.heap.size + 1 + 1, 0, none⟩) (fun h => by cases h) _ (inAt_new (t := 27) ?_) (trAt_new (t := 43) ?_) (smAt_new (t := 45) ?_) (Lib.hid (fun W _ => CheckInstrument_G W))).mono ?_; (focus (repeat (first | (with_reducible assumption) | (with_reducible exact At.new _ _) | (with_reducible refine At.row ?_) | ((with_reducible refine At.row_other ?_ ?_); rotate_left; (focus (simp <;> omega))) | (with_reducible refine At.app ?_) | (with_reducible refine At.tick ?_) | (with_reducible refine At.gx ?_) | ((with_reducible refine At.new' ?_); focus (simp; done)) | (with_reducible refine At.alloc ?_) | (with_reducible refine At.drew ?_) | (with_reducible exact Is.new _ _ _) | (with_reducible refine Is.row ?_) | ((with_reducible refine Is.row_other ?_ ?_); rotate_left; (focus (simp <;> omega))) | (with_reducible refine Is.gx ?_) | ((with_reducible refine Is.new' ?_); focus (simp; done)) | (with_reducible refine Is.alloc ?_) | (with_reducible refine Is.drew ?_)))); (focus (repeat (first | (with_reducible assumption) | (with_reducible exact At.new _ _) | (with_reducible refine At.row ?_) | ((with_reducible refine At.row_other ?_ ?_); rotate_left; (focus (simp <;> omega))) | (with_reducible refine At.app ?_) | (with_reducible refine At.tick ?_) | (with_reducible refine At.gx ?_) | ((with_reducible refine At.new' ?_); focus (simp; done)) | (with_reducible refine At.alloc ?_) | (with_reducible refine At.drew ?_) | (with_reducible exact Is.new _ _ _) | (with_reducible refine Is.row ?_) | ((with_reducible refine Is.row_other ?_ ?_); rotate_left; (focus (simp <;> omega))) | (with_reducible refine Is.gx ?_) | ((with_reducible refine Is.new' ?_); focus (simp; done)) | (with_reducible refine Is.alloc ?_) | (with_reducible refine Is.drew ?_)))); (focus (repeat (first | (with_reducible assumption) | (with_reducible exact At.new _ _) | (with_reducible refine At.row ?_) | ((with_reducible refine At.row_other ?_ ?_); rotate_left; (focus (simp <;> omega))) | (with_reducible refine At.app ?_) | (with_reducible refine At.tick ?_) | (with_reducible refine At.gx ?_) | ((with_reducible refine At.new' ?_); focus (simp; done)) | (with_reducible refine At.alloc ?_) | (with_reducible refine At.drew ?_) | (with_reducible exact Is.new _ _ _) | (with_reducible refine Is.row ?_) | ((with_reducible refine Is.row_other ?_ ?_); rotate_left; (focus (simp <;> omega))) | (with_reducible refine Is.gx ?_) | ((with_reducible refine Is.new' ?_); focus (simp; done)) | (with_reducible refine Is.alloc ?_) | (with_reducible refine Is.drew ?_)))); rintro e W1 ⟨w0, gR, gB, gM, gM0, gK, A', c', rfl, hw0, hGB, h1, h2, hR, hMM, hM0, hK, hG1⟩; have HS := Lib.hid (Step_G w0 gR gB gM gM0 gK A' c' W1 hG1 h1 h2 hR hGB hM0 hK); have HGB := Lib.hid hGB; have Hw0 : Hid (∃ x, w0 = gx w x) := Lib.hid (Gx.trans hw0 (by repeat (first | (with_reducible exact Gx.refl _) | (with_reducible assumption) | (with_reducible refine Gx.gx ?_) | (with_reducible refine Gx.alloc ?_) | (with_reducible refine Gx.drew ?_) | (with_reducible refine Gx.drewN ?_) | (with_reducible refine Gx.setRow ?_ (by first | omega | (simp; done) | (simp <;> omega))) | (with_reducible refine Gx.setCell ?_ (by first | omega | (simp; done) | (simp <;> omega)))))); clear hR hMM hM0 hK hG1 hGB hw0 h1 h2)
    | (go_at_call 39; refine HS.out.mono ?_; rintro e W2 ⟨gM2, gK2, kc2, rfl, hR2, hM2, hG2⟩; have HF := Lib.hid (Faces_G w0 gR gB gM2 gK2 3 kc2 A' c' W2 hG2 hR2 HGB.out hM2); have HG2 : Hid (∃ x, W2 = gx w x) := Lib.hid (Gx.trans hG2 Hw0.out); clear HS hR2 hM2 hG2)
    | (go_at_call 40; refine HF.out.mono ?_; rintro e W3 ⟨gF, cF, rfl, hc, hG3⟩; have d0 := hc 0 _ rfl; have d1 := hc 1 _ rfl; have d2 := hc 2 _ rfl; have d3 := hc 3 _ rfl; have lF : gF < W3.heap.size := World.block_lt_of_cell? W3 _ d0; have HG3 : Hid (∃ x, W3 = gx w x) := Lib.hid (Gx.trans hG3 HG2.out); clear HF hc hG3))
  go_ret
  exact ⟨rfl, HG3.out⟩
end Go.Proofs.YtbhcjaejkplfeaaGreatDoor
