/-
  The guard of stage 8: its replay goes on by a frame.
-/
import Derived.Test.YtbhcjaejkplfeaaGreatDoorPAdvP
import Derived.Deep.RegionLaw
namespace Go.Proofs.YtbhcjaejkplfeaaGreatDoor
open Go.RowKit
-- AT2
-- AT3

theorem rpC_now (gB gM gM' gK kl kc : Nat) (fr fr' : Int) : ((rpC gB gM gK kl kc fr).setIfInBounds 2 (.int .i64 fr')).setIfInBounds 3 (.slice (some ⟨gM', 0, none⟩) 1 1) = rpC gB gM' gK kl kc fr' := rfl
theorem rpC_kept (gB gM gK gK' kl kl' kc kc' : Nat) (fr : Int) : (rpC gB gM gK kl kc fr).setIfInBounds 4 (.slice (some ⟨gK', 0, none⟩) kl' kc') = rpC gB gM gK' kl' kc' fr := rfl
set_option maxHeartbeats 4000000 in
set_option maxRecDepth 100000 in
theorem advance_G (w0 : World) (gR gB gM gK kl kc : Nat) (A : Option Addr) (c : Nat) (fr fr' : Int) (hf : (fr = -1 ∧ fr' = 0) ∨ (fr = 0 ∧ fr' = 1)) (ks : List Value) (w : World) (hG : ∃ x, w = gx w0 x) (hgR : w0.heap.size ≤ gR) (hR : At w gR (.cells (rpC gB gM gK kl kc fr) 109 (0, 0)))
    (hB : GaAt w0 gB A c) (hM : MmAt w gM) (hO : Own w0.heap.size w 104 2 (.slice (some ⟨gK, 0, none⟩) kl kc) kl ks) (hkl : kl ≤ 2) :
    Calls Tryz.prog 94 #[.pointer (some ⟨gR, 0, none⟩)] w fun e w' => ∃ gM' gK' kc', e = .returned (.tuple #[]) ∧ At w' gR (.cells (rpC gB gM' gK' (kl + 1) kc' fr') 109 (0, 0)) ∧ MmAt w' gM' ∧ Own w0.heap.size w' 104 2 (.slice (some ⟨gK', 0, none⟩) (kl + 1) kc') (kl + 1) (ks ++ [.int .i64 fr', .slice (some ⟨gM', 0, none⟩) 1 1]) ∧ ∃ x, w' = gx w0 x := by
  have HN := Lib.hid (fun W (hW : ∃ x, W = gx w x) => bnext_G gB c 1 gM A fr fr' hf W (hB.on (Gx.trans hW hG)) (hM.on hW))
  have r0 : w.cell? ⟨gR, 0, none⟩ = some (.slice (some ⟨gB, 0, none⟩) 1 1) := by rw [cell_of_row w _ _ _ _ _ hR]; rfl
  have r2 : w.cell? ⟨gR, 2, none⟩ = some (.int .i64 fr) := by rw [cell_of_row w _ _ _ _ _ hR]; rfl
  have r3 : w.cell? ⟨gR, 3, none⟩ = some (.slice (some ⟨gM, 0, none⟩) 1 1) := by rw [cell_of_row w _ _ _ _ _ hR]; rfl
  have lR := hR.lt
  have HR := Lib.hid hR
  have HO := Lib.hid hO
  have HG := Lib.hid hG
  clear hR hO hM hf hG
  go_enter Tryz.func94, Tryz.ntmps94
  go_wp2
  go_region_with (first | (go_at_call 116; refine (HN.out _ (by repeat (first | (with_reducible exact Gx.refl _) | (with_reducible assumption) | (with_reducible refine Gx.gx ?_) | (with_reducible refine Gx.alloc ?_) | (with_reducible refine Gx.drew ?_) | (with_reducible refine Gx.drewN ?_) | (with_reducible refine Gx.setRow ?_ (by first | omega | (simp; done) | (simp <;> omega))) | (with_reducible refine Gx.setCell ?_ (by first | omega | (simp; done) | (simp <;> omega)))))).mono ?_; rintro e W1 ⟨gM', rfl, hgM', hMM, hG1⟩; have HG1 : Hid (∃ x, W1 = gx w x) := Lib.hid (Gx.trans hG1 (by repeat (first | (with_reducible exact Gx.refl _) | (with_reducible assumption) | (with_reducible refine Gx.gx ?_) | (with_reducible refine Gx.alloc ?_) | (with_reducible refine Gx.drew ?_) | (with_reducible refine Gx.drewN ?_) | (with_reducible refine Gx.setRow ?_ (by first | omega | (simp; done) | (simp <;> omega))) | (with_reducible refine Gx.setCell ?_ (by first | omega | (simp; done) | (simp <;> omega)))))); have HMM := Lib.hid hMM; have HR1 : Hid (At W1 gR (.cells (rpC gB gM gK kl kc fr) 109 (0, 0))) := Lib.hid (by obtain ⟨y, hy⟩ := HG1.out; rw [hy]; exact HR.out.gx); have f0 := HR1.out.frz (o := 2); have f1 := HR1.out.frz (o := 3); have lR1 := HR1.out.lt; have q0 : W1.cell? ⟨gR, 0, none⟩ = some (.slice (some ⟨gB, 0, none⟩) 1 1) := (by rw [cell_of_row W1 _ _ _ _ _ HR1.out]; rfl); have q2 : W1.cell? ⟨gR, 2, none⟩ = some (.int .i64 fr) := (by rw [cell_of_row W1 _ _ _ _ _ HR1.out]; rfl); have q3 : W1.cell? ⟨gR, 3, none⟩ = some (.slice (some ⟨gM, 0, none⟩) 1 1) := (by rw [cell_of_row W1 _ _ _ _ _ HR1.out]; rfl); clear hG1 hMM))
  all_goals
    have hM2 : MmAt ((W1.setCell ⟨gR, 2, none⟩ (.int .i64 fr')).setCell ⟨gR, 3, none⟩ (.slice (some ⟨gM', 0, none⟩) 1 1)) gM' := by
      have hne : gR ≠ gM' := by
        rintro rfl
        have h1 := HMM.out.c0
        rw [q0] at h1
        cases h1
      exact (HMM.out.setc hne).setc hne
    have hR2 : At ((W1.setCell ⟨gR, 2, none⟩ (.int .i64 fr')).setCell ⟨gR, 3, none⟩ (.slice (some ⟨gM', 0, none⟩) 1 1)) gR (.cells (rpC gB gM' gK kl kc fr') 109 (0, 0)) := by
      rw [← rpC_now gB gM gM' gK kl kc fr fr']
      exact HR1.out.setR.setR
    have hG2 : ∃ x, (W1.setCell ⟨gR, 2, none⟩ (.int .i64 fr')).setCell ⟨gR, 3, none⟩ (.slice (some ⟨gM', 0, none⟩) 1 1) = gx w0 x := Gx.setCell (Gx.setCell (Gx.trans HG1.out HG.out) hgR) hgR
    have hO2 : Own w0.heap.size ((W1.setCell ⟨gR, 2, none⟩ (.int .i64 fr')).setCell ⟨gR, 3, none⟩ (.slice (some ⟨gM', 0, none⟩) 1 1)) 104 2 (.slice (some ⟨gK, 0, none⟩) kl kc) kl ks := by
      have h1 : Own w0.heap.size W1 104 2 (.slice (some ⟨gK, 0, none⟩) kl kc) kl ks := by obtain ⟨y, hy⟩ := HG1.out; rw [hy]; exact HO.out.gx
      have hne : (Value.slice (some ⟨gK, 0, none⟩) kl kc).ownBlock ≠ some gR := own_ne_at h1 HR1.out (by decide)
      exact (h1.setc hne).setc hne
    generalize (W1.setCell ⟨gR, 2, none⟩ (.int .i64 fr')).setCell ⟨gR, 3, none⟩ (.slice (some ⟨gM', 0, none⟩) 1 1) = W2 at *
    have hkm : gK ≠ gM' := by
      have h1 := (HO.out.lt gK rfl).2
      have h2 : w.heap.size ≤ gM' := hgM'
      omega
    clear f0 f1 lR1 q0 q2 q3 r0 r2 r3 lR HN HR HO HG HR1 HG1 HMM hgM'
    have hkne : (Value.slice (some ⟨gK, 0, none⟩) kl kc).ownBlock ≠ some gR := own_ne_at hO2 hR2 (by decide)
    have s1 : W2.cell? ⟨gR, 1, none⟩ = some (.int .i64 1) := by rw [cell_of_row W2 _ _ _ _ _ hR2]; rfl
    have s2 : W2.cell? ⟨gR, 2, none⟩ = some (.int .i64 fr') := by rw [cell_of_row W2 _ _ _ _ _ hR2]; rfl
    have s3 : W2.cell? ⟨gR, 3, none⟩ = some (.slice (some ⟨gM', 0, none⟩) 1 1) := by rw [cell_of_row W2 _ _ _ _ _ hR2]; rfl
    have s4 : W2.cell? ⟨gR, 4, none⟩ = some (.slice (some ⟨gK, 0, none⟩) kl kc) := by rw [cell_of_row W2 _ _ _ _ _ hR2]; rfl
    have lR2 := hR2.lt
    have HM2 := Lib.hid hM2
    have HR2 := Lib.hid hR2
    have HG2 := Lib.hid hG2
    have HO2 := Lib.hid hO2
    have HKN := Lib.hid hkne
    have lw0 : w0.heap.size ≤ W2.heap.size := by omega
    clear hM2 hR2 hG2 hO2 hkne
    go_wp2
    go_quiet (fail)
    go_wp2
    have hG3 : ∃ x, W2.drewN nq = gx w0 x := Gx.drewN HG2.out
    have hO3 : Own w0.heap.size (W2.drewN nq) 104 2 (.slice (some ⟨gK, 0, none⟩) kl kc) kl ks := HO2.out.drewN
    have hR3 : At (W2.drewN nq) gR (.cells (rpC gB gM' gK kl kc fr') 109 (0, 0)) := HR2.out
    have hM3 : MmAt (W2.drewN nq) gM' := ⟨HM2.out.c0, HM2.out.c1, HM2.out.c2, HM2.out.c3⟩
    have hwv : w0.heap.size ≤ (W2.drewN nq).heap.size := lw0
    clear HM2 HR2 HG2 HO2 s1 s2 s3 s4 lR2 lw0
    generalize W2.drewN nq = V at *
    have s2 : V.cell? ⟨gR, 2, none⟩ = some (.int .i64 fr') := by rw [cell_of_row V _ _ _ _ _ hR3]; rfl
    have s3 : V.cell? ⟨gR, 3, none⟩ = some (.slice (some ⟨gM', 0, none⟩) 1 1) := by rw [cell_of_row V _ _ _ _ _ hR3]; rfl
    have s4 : V.cell? ⟨gR, 4, none⟩ = some (.slice (some ⟨gK, 0, none⟩) kl kc) := by rw [cell_of_row V _ _ _ _ _ hR3]; rfl
    have lV := hR3.lt
    have HR3 := Lib.hid hR3
    have HM3 := Lib.hid hM3
    clear hR3 hM3
    go_region_law
      (first
      | (apply step_append_all' el_state w0 w0.heap.size (v := .slice (some ⟨gK, 0, none⟩) kl kc) (n := kl) (xs := ks) (m := 1) (news := [.int .i64 fr', .slice (some ⟨gM', 0, none⟩) 1 1]); exact rfl; exact rfl; exact rfl; exact rfl; exact (fun h => by cases h); (focus omega); (focus (repeat (first | (with_reducible assumption) | (with_reducible exact Own.nil _ _ _ _) | (with_reducible refine Own.app ?_) | (with_reducible refine Own.tick ?_) | (with_reducible refine Own.gx ?_) | (with_reducible refine Own.alloc ?_) | (with_reducible refine Own.drew ?_) | (with_reducible refine Own.row ?_ (by omega))))); exact (by repeat (first | (with_reducible exact Gx.refl _) | (with_reducible assumption) | (with_reducible refine Gx.gx ?_) | (with_reducible refine Gx.alloc ?_) | (with_reducible refine Gx.drew ?_) | (with_reducible refine Gx.drewN ?_) | (with_reducible refine Gx.setRow ?_ (by first | omega | (simp; done) | (simp <;> omega))) | (with_reducible refine Gx.setCell ?_ (by first | omega | (simp; done) | (simp <;> omega))))); (focus (simp <;> omega)); exact rfl; (focus (repeat (first | (with_reducible assumption) | ((with_reducible apply Shows.whole); focus ((focus (repeat (first | (with_reducible assumption) | (with_reducible exact At.new _ _) | (with_reducible refine At.row ?_) | ((with_reducible refine At.row_other ?_ ?_); rotate_left; (focus (simp <;> omega))) | (with_reducible refine At.app ?_) | (with_reducible refine At.tick ?_) | (with_reducible refine At.gx ?_) | ((with_reducible refine At.new' ?_); focus (simp; done)) | (with_reducible refine At.alloc ?_) | (with_reducible refine At.drew ?_) | (with_reducible exact Is.new _ _ _) | (with_reducible refine Is.row ?_) | ((with_reducible refine Is.row_other ?_ ?_); rotate_left; (focus (simp <;> omega))) | (with_reducible refine Is.gx ?_) | ((with_reducible refine Is.new' ?_); focus (simp; done)) | (with_reducible refine Is.alloc ?_) | (with_reducible refine Is.drew ?_)))); done)) | (with_reducible refine Shows.app ?_) | (with_reducible refine Shows.tick ?_) | (with_reducible refine Shows.gx ?_) | (with_reducible refine Shows.alloc ?_) | (with_reducible refine Shows.drew ?_)))); (focus (simp [Value.oneCell']; done)); (focus (simp only [maxLen]; omega)); (focus omega); rintro v2 W3 hW3 hO4 hg3; obtain ⟨A4, c4, rfl, -⟩ := hO4.is; obtain ⟨gK2, rfl⟩ := own_pos hO4; have HR4 : Hid (At W3 gR (.cells (rpC gB gM' gK kl kc fr') 109 (0, 0))) := Lib.hid (At.grown (At.drew (At.alloc HR3.out)) hg3 HKN.out); have HM4 : Hid (MmAt W3 gM') := Lib.hid (MmAt.grown (HM3.out.on (by repeat (first | (with_reducible exact Gx.refl _) | (with_reducible assumption) | (with_reducible refine Gx.gx ?_) | (with_reducible refine Gx.alloc ?_) | (with_reducible refine Gx.drew ?_) | (with_reducible refine Gx.drewN ?_) | (with_reducible refine Gx.setRow ?_ (by first | omega | (simp; done) | (simp <;> omega))) | (with_reducible refine Gx.setCell ?_ (by first | omega | (simp; done) | (simp <;> omega)))))) hg3 (fun e => by simp only [Value.ownBlock, Option.some.injEq] at e; omega)); have q4 : W3.cell? ⟨gR, 4, none⟩ = some (.slice (some ⟨gK, 0, none⟩) kl kc) := (by rw [cell_of_row W3 _ _ _ _ _ HR4.out]; rfl); have q2 : W3.cell? ⟨gR, 2, none⟩ = some (.int .i64 fr') := (by rw [cell_of_row W3 _ _ _ _ _ HR4.out]; rfl); have q3 : W3.cell? ⟨gR, 3, none⟩ = some (.slice (some ⟨gM', 0, none⟩) 1 1) := (by rw [cell_of_row W3 _ _ _ _ _ HR4.out]; rfl); have f4 := HR4.out.frz (o := 4); have lW3 := HR4.out.lt; have HO4 := Lib.hid hO4; clear hO4 hg3))
    all_goals go_wp2
    all_goals refine bodyPost_end (v := .tuple #[]) (by simp [results, Tryz.results94, go_sem]) rfl ⟨gM', gK2, c4, rfl, ?_, ?_, ?_, ?_⟩
    all_goals first
      | exact Gx.setCell hW3 hgR
      | exact HM4.out.setc (HM4.out.ne_at HR4.out)
      | exact HO4.out.setc (own_ne_at HO4.out HR4.out (by decide))
      | (rw [← rpC_kept gB gM' gK gK2 kl (kl + 1) kc c4 fr']; exact HR4.out.setR)
end Go.Proofs.YtbhcjaejkplfeaaGreatDoor
