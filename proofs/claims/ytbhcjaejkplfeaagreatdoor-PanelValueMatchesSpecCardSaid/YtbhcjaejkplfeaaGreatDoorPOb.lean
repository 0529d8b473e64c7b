/-
  The guard of stage 8: the board of a replay.
-/
import Derived.Test.YtbhcjaejkplfeaaGreatDoorPBo
namespace Go.Proofs.YtbhcjaejkplfeaaGreatDoor
open Go.RowKit
-- AT2
-- AT3

theorem own_one {b : Nat} {W : World} {e : TypeId} {s c : Nat} {A : Option Addr} {xs : List Value} (h : Own b W e s (.slice A 1 c) 1 xs) : ∃ g cur, A = some ⟨g, 0, none⟩ ∧ b ≤ g ∧ At W g (.cells cur e (0, 0)) ∧ ∀ j u, xs[j]? = some u → W.cell? ⟨g, j, none⟩ = some u := by
  rcases h.out.2 with ⟨he, h0⟩ | ⟨g, cap, cur, he, hb, hA, _, _, _, ht⟩
  · simp at h0
  · simp only [Value.slice.injEq, true_and] at he
    obtain ⟨rfl, rfl⟩ := he
    have hA' : At W g (.cells cur e (0, 0)) := by unfold At; exact hA
    refine ⟨g, cur, rfl, hb, hA', fun j u hu => ?_⟩
    rw [cell_of_row W _ _ _ _ _ hA', ← Array.getElem?_toList]
    rw [← ht, List.getElem?_take, Nat.one_mul] at hu
    split at hu
    · exact hu
    · cases hu
theorem TrAt.of_own {g : Nat} {W : World} {den : Int} {A : Option Addr} {n c : Nat} {lg : Int} (h : ∀ j u, (trC den A n c lg)[j]? = some u → W.cell? ⟨g, j, none⟩ = some u) : TrAt W g 0 den A n c lg :=
  ⟨h 0 _ rfl, h 1 _ rfl, h 2 _ rfl, h 3 _ rfl⟩
theorem TrAt.put {W : World} {g : Nat} {den : Int} {A A' : Option Addr} {n c n' c' : Nat} {lg : Int} (h : TrAt W g 0 den A n c lg) : TrAt (W.setCell ⟨g, 2, none⟩ (.slice A' n' c')) g 0 den A' n' c' lg :=
  ⟨setc_other h.c0 (fun e => by injection e with e1 e2; omega), setc_other h.c1 (fun e => by injection e with e1 e2; omega), World.cell?_setCell_same _ _ _ h.c2, setc_other h.c3 (fun e => by injection e with e1 e2; omega)⟩
theorem smAt_setc {W : World} {g : Nat → Sm} {n c : Nat} {b K j : Nat} {A : Option Addr} {u : Value} (h : Own b W 45 3 (.slice A n c) n (smC g n)) (hK : K < b) : SmAt (W.setCell ⟨K, j, none⟩ u) g n A :=
  (h.setc (o := j) (u := u) (K := K) (fun e => by have := h.lt K e; omega)).sm
theorem GaAt.of_row {W : World} {gB : Nat} {A : Option Addr} {c : Nat} (h : At W gB (.cells (gaC A 1 c) 132 (0, 0))) (hs : SmAt W smG 1 A) : GaAt W gB A c :=
  ⟨by rw [cell_of_row W _ _ _ _ _ h]; rfl, by rw [cell_of_row W _ _ _ _ _ h]; rfl, by rw [cell_of_row W _ _ _ _ _ h]; rfl, by rw [cell_of_row W _ _ _ _ _ h]; rfl, by rw [cell_of_row W _ _ _ _ _ h]; rfl, by rw [cell_of_row W _ _ _ _ _ h]; rfl, hs⟩
set_option maxHeartbeats 2000000 in
set_option maxRecDepth 100000 in
theorem ownBoard_G (b c bt ct cs : Nat) (A : Option Addr) (hN : A = none → 1 = 0 ∧ cs = 0) (w : World) (h : InAt w b) (hT : TrAt w bt 0 2 A 1 cs 100) (hL : SmAt w smG 1 A) :
    Calls Tryz.prog 65 #[.agg #[.slice (some ⟨b, 0, none⟩) 1 c], .slice (some ⟨bt, 0, none⟩) 1 ct] w fun e w' => ∃ gB A' c', e = .returned (.slice (some ⟨gB, 0, none⟩) 1 1) ∧ w.heap.size ≤ gB ∧ GaAt w' gB A' c' ∧ ∃ x, w' = gx w x := by
  have K1 := Lib.hid (fun W (hW : ∃ x, W = gx w x) => CloneT_one bt ct 2 A 1 cs 100 W (hT.on hW))
  have K2 := Lib.hid (fun W (hW : ∃ x, W = gx w x) => Clone_any smG 1 cs A W (by obtain ⟨x, rfl⟩ := hW; exact hL.gx) hN (by omega))
  have HI := Lib.hid h
  clear h hT hL hN
  go_enter Tryz.func65, Tryz.ntmps65
  go_wp2_with (first | (go_at_call 89; refine (K1.out _ (by repeat (first | (with_reducible exact Gx.refl _) | (with_reducible assumption) | (with_reducible refine Gx.gx ?_) | (with_reducible refine Gx.alloc ?_) | (with_reducible refine Gx.drew ?_) | (with_reducible refine Gx.drewN ?_) | (with_reducible refine Gx.setRow ?_ (by first | omega | (simp; done) | (simp <;> omega))) | (with_reducible refine Gx.setCell ?_ (by first | omega | (simp; done) | (simp <;> omega)))))).mono ?_; rintro e W1 ⟨A1, c1, rfl, hG1, hO1⟩))
  obtain ⟨gT, cur, rfl, hb1, hA1, hc1⟩ := own_one hO1
  have hT1 : TrAt W1 gT 0 2 A 1 cs 100 := TrAt.of_own hc1
  have G1 : ∃ x, W1 = gx w x := Gx.trans hG1 (by repeat (first | (with_reducible exact Gx.refl _) | (with_reducible assumption) | (with_reducible refine Gx.gx ?_) | (with_reducible refine Gx.alloc ?_) | (with_reducible refine Gx.drew ?_) | (with_reducible refine Gx.drewN ?_) | (with_reducible refine Gx.setRow ?_ (by first | omega | (simp; done) | (simp <;> omega))) | (with_reducible refine Gx.setCell ?_ (by first | omega | (simp; done) | (simp <;> omega)))))
  have pc1 : W1.cell? ⟨w.heap.size, 0, none⟩ = some (.slice (some ⟨b, 0, none⟩) 1 c) := by obtain ⟨x, rfl⟩ := hG1; exact cell_keep_gx (by rw [cell_of_row _ _ _ _ _ _ (At.new w _)]; rfl)
  have hb : w.heap.size + 1 ≤ gT := by simpa using hb1
  have ne1 : gT ≠ w.heap.size := by omega
  have ne2 : w.heap.size ≠ gT := by omega
  have lT := hA1.lt
  have lw : w.heap.size < W1.heap.size := by omega
  have HT1 := Lib.hid hT1
  obtain ⟨t0, t1, t2, t3⟩ := hT1
  simp only [Nat.zero_add] at t1 t2 t3
  have HG1 := Lib.hid G1
  clear hO1 hc1 hG1 hb1 G1
  refine wp_loop_rounds 2 ?_
  rw [rounds_succ]
  go_wp2_with (first | (go_at_call 90; refine (K2.out _ (Gx.trans (by repeat (first | (with_reducible exact Gx.refl _) | (with_reducible assumption) | (with_reducible refine Gx.gx ?_) | (with_reducible refine Gx.alloc ?_) | (with_reducible refine Gx.drew ?_) | (with_reducible refine Gx.drewN ?_) | (with_reducible refine Gx.setRow ?_ (by first | omega | (simp; done) | (simp <;> omega))) | (with_reducible refine Gx.setCell ?_ (by first | omega | (simp; done) | (simp <;> omega))))) HG1.out)).mono ?_; rintro e W2 ⟨A2, c2, x2, rfl, hW2, hO2⟩; have u2 : W2.cell? ⟨gT, 2, none⟩ = some (.slice A 1 cs) := (by rw [hW2]; exact cell_keep_gx t2); have hA2 : At W2 gT (.cells cur 43 (0, 0)) := (by rw [hW2]; (focus (repeat (first | (with_reducible assumption) | (with_reducible exact At.new _ _) | (with_reducible refine At.row ?_) | ((with_reducible refine At.row_other ?_ ?_); rotate_left; (focus (simp <;> omega))) | (with_reducible refine At.app ?_) | (with_reducible refine At.tick ?_) | (with_reducible refine At.gx ?_) | ((with_reducible refine At.new' ?_); focus (simp; done)) | (with_reducible refine At.alloc ?_) | (with_reducible refine At.drew ?_) | (with_reducible exact Is.new _ _ _) | (with_reducible refine Is.row ?_) | ((with_reducible refine Is.row_other ?_ ?_); rotate_left; (focus (simp <;> omega))) | (with_reducible refine Is.gx ?_) | ((with_reducible refine Is.new' ?_); focus (simp; done)) | (with_reducible refine Is.alloc ?_) | (with_reducible refine Is.drew ?_))))); have fz2 := hA2.frz (o := 2); have HT2 : Hid (TrAt W2 gT 0 2 A 1 cs 100) := Lib.hid (by rw [hW2]; exact HT1.out.gx); have pc2 : W2.cell? ⟨w.heap.size, 0, none⟩ = some (.slice (some ⟨b, 0, none⟩) 1 c) := (by rw [hW2]; exact cell_keep_gx pc1); have HG2 : Hid (∃ x, W2 = gx w x) := Lib.hid (by rw [hW2]; exact Gx.gx HG1.out); have lT2 := hA2.lt; have lw2 : w.heap.size < W2.heap.size := (by omega); have HO2 := Lib.hid hO2; clear hW2 hO2 hA2))
  rw [rounds_succ]
  have pc3 : (W2.setCell ⟨gT, 2, none⟩ (.slice A2 1 c2)).cell? ⟨w.heap.size, 0, none⟩ = some (.slice (some ⟨b, 0, none⟩) 1 c) := setc_other pc2 (fun e => by injection e with e1 e2; omega)
  have G3 : ∃ x, W2.setCell ⟨gT, 2, none⟩ (.slice A2 1 c2) = gx w x := Gx.setCell HG2.out (by omega)
  have T3 : TrAt (W2.setCell ⟨gT, 2, none⟩ (.slice A2 1 c2)) gT 0 2 A2 1 c2 100 := HT2.out.put
  have S3 : SmAt (W2.setCell ⟨gT, 2, none⟩ (.slice A2 1 c2)) smG 1 A2 := smAt_setc HO2.out lT
  have lw3 : w.heap.size < (W2.setCell ⟨gT, 2, none⟩ (.slice A2 1 c2)).heap.size := World.block_lt_of_cell? _ _ pc3
  generalize W2.setCell ⟨gT, 2, none⟩ (.slice A2 1 c2) = W3 at *
  have HG3 := Lib.hid G3
  have HT3 := Lib.hid T3
  have HS3 := Lib.hid S3
  clear G3 T3 S3 K1 K2 HO2 HT2 HG2 HT1 HG1 u2 fz2 pc2 pc1 t0 t1 t2 t3 lT2 lw2
  go_wp2_with (first | (go_at_call 91; refine (boardOf_G b c gT c1 A2 1 c2 _ (HI.out.on (Gx.trans (by repeat (first | (with_reducible exact Gx.refl _) | (with_reducible assumption) | (with_reducible refine Gx.gx ?_) | (with_reducible refine Gx.alloc ?_) | (with_reducible refine Gx.drew ?_) | (with_reducible refine Gx.drewN ?_) | (with_reducible refine Gx.setRow ?_ (by first | omega | (simp; done) | (simp <;> omega))) | (with_reducible refine Gx.setCell ?_ (by first | omega | (simp; done) | (simp <;> omega))))) HG3.out)) (HT3.out.on (by repeat (first | (with_reducible exact Gx.refl _) | (with_reducible assumption) | (with_reducible refine Gx.gx ?_) | (with_reducible refine Gx.alloc ?_) | (with_reducible refine Gx.drew ?_) | (with_reducible refine Gx.drewN ?_) | (with_reducible refine Gx.setRow ?_ (by first | omega | (simp; done) | (simp <;> omega))) | (with_reducible refine Gx.setCell ?_ (by first | omega | (simp; done) | (simp <;> omega))))))).mono ?_; rintro e W4 ⟨gB, rfl, hgB, hAB, hG4⟩; have HG4 := Lib.hid hG4; have b7 : W4.cell? ⟨gB, 7, none⟩ = some (.slice none 0 0) := (by rw [cell_of_row W4 _ _ _ _ _ hAB]; rfl); have fz4 := hAB.frz (o := 7); have lB := hAB.lt; have HAB := Lib.hid hAB; clear hG4 hAB))
  refine wp_loop_rounds 2 ?_
  rw [rounds_succ]
  go_wp2_with (first | (go_at_call 92; refine (CloneZ_none _).mono ?_; rintro e w' ⟨rfl, z, rfl⟩))
  rw [rounds_succ]
  go_wp2
  go_ret
  have hA4 := HAB.out
  have key : ∀ j v, W4.cell? ⟨gB, j, none⟩ = some v → j ≠ 7 → (gx (W4.setCell ⟨gB, 7, none⟩ (.slice none 0 0)) z).cell? ⟨gB, j, none⟩ = some v := fun j v h hj => cell_keep_gx (setc_other h (fun e => by injection e with e1 e2; omega))
  have hG4 : ∃ x, W4 = gx W3 x := HG4.out
  have hw3 : W3.heap.size ≤ gB := hgB
  have hS : SmAt (gx (W4.setCell ⟨gB, 7, none⟩ (.slice none 0 0)) z) smG 1 A2 := by
    obtain ⟨y, hy⟩ : ∃ y, W4.setCell ⟨gB, 7, none⟩ (.slice none 0 0) = gx W3 y := Gx.setCell hG4 hw3
    rw [hy]
    exact HS3.out.gx.gx
  refine ⟨gB, A2, c2, rfl, by omega, ⟨key 0 _ ?_ (by omega), key 3 _ ?_ (by omega), key 12 _ ?_ (by omega), key 13 _ ?_ (by omega), key 14 _ ?_ (by omega), key 15 _ ?_ (by omega), hS⟩, Gx.gx (Gx.setCell (Gx.trans hG4 HG3.out) (by omega))⟩
  all_goals (rw [cell_of_row W4 _ _ _ _ _ hA4]; rfl)
end Go.Proofs.YtbhcjaejkplfeaaGreatDoor
