/-
  The guard of stage 8: its replay goes two frames on, and shows its faces.
-/
import Derived.Test.YtbhcjaejkplfeaaGreatDoorPAdv
namespace Go.Proofs.YtbhcjaejkplfeaaGreatDoor
open Go.RowKit
-- AT2
-- AT3

set_option maxHeartbeats 4000000 in
set_option maxRecDepth 100000 in
theorem goTo_G (w0 : World) (gR gB gM gM0 gK : Nat) (A : Option Addr) (c : Nat) (w : World) (hG : ∃ x, w = gx w0 x) (hgR : w0.heap.size ≤ gR) (hgK : w0.heap.size ≤ gK) (hR : At w gR (.cells (rpC gB gM gK 1 1 (-1)) 109 (0, 0)))
    (hB : GaAt w0 gB A c) (hM0 : MmAt w gM0) (hK : At w gK (.cells #[.int .i64 (-1), .slice (some ⟨gM0, 0, none⟩) 1 1] 104 (0, 0))) :
    Calls Tryz.prog 67 #[.pointer (some ⟨gR, 0, none⟩), .int .i64 1] w fun e w' => ∃ gM' gK' kc', e = .returned (.int .i64 2) ∧ At w' gR (.cells (rpC gB gM' gK' 3 kc' 1) 109 (0, 0)) ∧ MmAt w' gM' ∧ ∃ x, w' = gx w0 x := by
  have hN := nearest_G gR gB gM gK gM0 1 w hR (by rw [cell_of_row w _ _ _ _ _ hK]; rfl) (by rw [cell_of_row w _ _ _ _ _ hK]; rfl)
  have HN := Lib.hid hN
  have hO : Own w0.heap.size w 104 2 (.slice (some ⟨gK, 0, none⟩) 1 1) 1 [.int .i64 (-1), .slice (some ⟨gM0, 0, none⟩) 1 1] :=
    Own.mk' ⟨rfl, .inr ⟨gK, 1, _, rfl, hgK, (by unfold At at hK; exact hK), Nat.le_refl _, by simp only [maxLen]; omega, rfl, rfl⟩⟩
  have HO := Lib.hid hO
  have HR := Lib.hid hR
  have HG := Lib.hid hG
  have HM0 := Lib.hid hM0
  clear hN hO hR hG hM0 hK
  go_enter Tryz.func67, Tryz.ntmps67
  go_wp2_with (first | (go_at_call 93; refine HN.out.mono ?_; rintro e W1 ⟨rfl, hG1⟩; have HG1 := Lib.hid hG1; have HR1 : Hid (At W1 gR (.cells (rpC gB gM gK 1 1 (-1)) 109 (0, 0))) := Lib.hid (by obtain ⟨y, hy⟩ := hG1; rw [hy]; exact HR.out.gx); have f2 := HR1.out.frz (o := 2); have f3 := HR1.out.frz (o := 3); have lR1 := HR1.out.lt; have q2 : W1.cell? ⟨gR, 2, none⟩ = some (.int .i64 (-1)) := (by rw [cell_of_row W1 _ _ _ _ _ HR1.out]; rfl); have q3 : W1.cell? ⟨gR, 3, none⟩ = some (.slice (some ⟨gM, 0, none⟩) 1 1) := (by rw [cell_of_row W1 _ _ _ _ _ HR1.out]; rfl); clear hG1))
  have M1 : MmAt W1 gM0 := HM0.out.on HG1.out
  have O1 : Own w0.heap.size W1 104 2 (.slice (some ⟨gK, 0, none⟩) 1 1) 1 [.int .i64 (-1), .slice (some ⟨gM0, 0, none⟩) 1 1] := by obtain ⟨y, hy⟩ := HG1.out; rw [hy]; exact HO.out.gx
  have hne : (Value.slice (some ⟨gK, 0, none⟩) 1 1).ownBlock ≠ some gR := own_ne_at O1 HR1.out (by decide)
  have R2 : At ((W1.setCell ⟨gR, 2, none⟩ (.int .i64 (-1))).setCell ⟨gR, 3, none⟩ (.slice (some ⟨gM0, 0, none⟩) 1 1)) gR (.cells (rpC gB gM0 gK 1 1 (-1)) 109 (0, 0)) := by
    rw [← rpC_now gB gM gM0 gK 1 1 (-1) (-1)]
    exact HR1.out.setR.setR
  have G2 : ∃ x, (W1.setCell ⟨gR, 2, none⟩ (.int .i64 (-1))).setCell ⟨gR, 3, none⟩ (.slice (some ⟨gM0, 0, none⟩) 1 1) = gx w0 x := Gx.setCell (Gx.setCell (Gx.trans HG1.out HG.out) hgR) hgR
  have O2 := (O1.setc (o := 2) (u := .int .i64 (-1)) hne).setc (o := 3) (u := .slice (some ⟨gM0, 0, none⟩) 1 1) hne
  have hne2 := M1.ne_at HR1.out
  have M2 := (M1.setc (o := 2) (u := .int .i64 (-1)) hne2).setc (o := 3) (u := .slice (some ⟨gM0, 0, none⟩) 1 1) hne2
  clear f2 f3 lR1 q2 q3 HR1 HG1 M1 O1 hne hne2 HN HO HR HG HM0
  generalize (W1.setCell ⟨gR, 2, none⟩ (.int .i64 (-1))).setCell ⟨gR, 3, none⟩ (.slice (some ⟨gM0, 0, none⟩) 1 1) = W2 at *
  have HA := Lib.hid (advance_G w0 gR gB gM0 gK 1 1 A c (-1) 0 (.inl ⟨rfl, rfl⟩) _ W2 G2 hgR R2 hB M2 O2 (by omega))
  clear R2 G2 O2 M2
  refine wp_loop_rounds 3 ?_
  rw [rounds_succ]
  go_wp2_with (first | (go_at_call 94; refine HA.out.mono ?_; rintro e W3 ⟨gM1, gK1, kc1, rfl, R3, M3, O3, G3⟩; have HA2 := Lib.hid (advance_G w0 gR gB gM1 gK1 2 kc1 A c 0 1 (.inr ⟨rfl, rfl⟩) _ W3 G3 hgR R3 hB M3 O3 (by omega)); clear R3 G3 O3 M3))
  clear HA
  rw [rounds_succ]
  go_wp2_with (first | (go_at_call 94; refine HA2.out.mono ?_; rintro e W4 ⟨gM2, gK2, kc2, rfl, R4, M4, O4, G4⟩; have HR4 := Lib.hid R4; have HM4 := Lib.hid M4; have HG4 := Lib.hid G4; clear R4 M4 G4 O4))
  rw [rounds_succ]
  go_wp2
  go_ret
  exact ⟨gM2, gK2, kc2, rfl, HR4.out, HM4.out, HG4.out⟩
set_option maxHeartbeats 4000000 in
set_option maxRecDepth 100000 in
theorem Step_G (w0 : World) (gR gB gM gM0 gK : Nat) (A : Option Addr) (c : Nat) (w : World) (hG : ∃ x, w = gx w0 x) (hgR : w0.heap.size ≤ gR) (hgK : w0.heap.size ≤ gK) (hR : At w gR (.cells (rpC gB gM gK 1 1 (-1)) 109 (0, 0)))
    (hB : GaAt w0 gB A c) (hM0 : MmAt w gM0) (hK : At w gK (.cells #[.int .i64 (-1), .slice (some ⟨gM0, 0, none⟩) 1 1] 104 (0, 0))) :
    Calls Tryz.prog 39 #[.pointer (some ⟨gR, 0, none⟩), .int .i64 2] w fun e w' => ∃ gM' gK' kc', e = .returned (.int .i64 0) ∧ At w' gR (.cells (rpC gB gM' gK' 3 kc' 1) 109 (0, 0)) ∧ MmAt w' gM' ∧ ∃ x, w' = gx w0 x := by
  have HT := Lib.hid (goTo_G w0 gR gB gM gM0 gK A c w hG hgR hgK hR hB hM0 hK)
  have r2 : w.cell? ⟨gR, 2, none⟩ = some (.int .i64 (-1)) := by rw [cell_of_row w _ _ _ _ _ hR]; rfl
  have lR := hR.lt
  clear hG hR hB hM0 hK
  go_enter Tryz.func39, Tryz.ntmps39
  go_wp2_with (first | go_skip | (go_at_call 67; refine HT.out.mono ?_; rintro e W4 ⟨gM2, gK2, kc2, rfl, R4, M4, G4⟩; have HR4 := Lib.hid R4; have HM4 := Lib.hid M4; have HG4 := Lib.hid G4; clear R4 M4 G4))
  go_ret
  exact ⟨gM2, gK2, kc2, rfl, HR4.out, HM4.out, HG4.out⟩
end Go.Proofs.YtbhcjaejkplfeaaGreatDoor
