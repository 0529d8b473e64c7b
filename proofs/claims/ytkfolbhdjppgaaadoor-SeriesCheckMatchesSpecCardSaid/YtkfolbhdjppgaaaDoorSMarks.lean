/-
  Marks, both sides: how many samples have each mark.
-/
import Derived.Test.YtkfolbhdjppgaaaDoorSCalb2
import Derived.Test.YtkfolbhdjppgaaaDoorSRSer
namespace Go.Proofs.YtkfolbhdjppgaaaDoor
open Go.RowKit
-- AT2
-- AT3

def cntN (g : Nat → Sm) (j : Int) : Nat → Nat
  | 0 => 0
  | k + 1 => cntN g j k + if (g k).m = j then 1 else 0
theorem cntN_le (g : Nat → Sm) (j : Int) : ∀ k, cntN g j k ≤ k
  | 0 => Nat.le_refl _
  | k + 1 => by have := cntN_le g j k; unfold cntN; split <;> omega
theorem cntN_yes {g : Nat → Sm} {j : Int} {k : Nat} (h : (g k).m = j) : cntN g j (k + 1) = cntN g j k + 1 := by show cntN g j k + (if (g k).m = j then 1 else 0) = _; rw [if_pos h]
theorem cntN_no {g : Nat → Sm} {j : Int} {k : Nat} (h : (g k).m ≠ j) : cntN g j (k + 1) = cntN g j k := by show cntN g j k + (if (g k).m = j then 1 else 0) = _; rw [if_neg h]; rfl
def mkA (a b c d e : Nat) : Array Value := #[.int .i64 (a : Int), .int .i64 (b : Int), .int .i64 (c : Int), .int .i64 (d : Int), .int .i64 (e : Int)]
/-- What Marks has at hand in its loop. -/
structure MkSt (w wr : World) (sB : Array Value) (a b c d e : Nat) : Prop where
  grew : ∃ x, wr = gx w x
  ser : At wr w.heap.size (.cells sB 24 (0, 0))
  res : At wr (w.heap.size + 1) (.cells (mkA 0 0 0 0 0) 25 (0, 0))
  cnt : At wr (w.heap.size + 1 + 1) (.cells (mkA a b c d e) 25 (0, 0))
theorem MkSt.onx {w wr : World} {sB : Array Value} {a b c d e : Nat} {x : Ext} (h : MkSt w wr sB a b c d e) : MkSt w (gx wr x) sB a b c d e := ⟨Gx.gx h.grew, h.ser.gx, h.res.gx, h.cnt.gx⟩
theorem MkSt.onalloc {w wr : World} {sB : Array Value} {a b c d e : Nat} {o : Obj} (h : MkSt w wr sB a b c d e) : MkSt w (wr.alloc o) sB a b c d e := by rw [alloc_is]; exact h.onx
theorem At.setc_at {W : World} {K i : Nat} {cs : Array Value} {u : Value} {t : TypeId} (h : At W K (.cells cs t (0, 0))) : At (W.setCell ⟨K, i, none⟩ u) K (.cells (cs.setIfInBounds i u) t (0, 0)) := by
  unfold At at *
  simp [World.setCell, Array.getElem?_modify, h]
theorem MkSt.put {w wr : World} {sB : Array Value} {a b c d e a' b' c' d' e' i : Nat} {u : Value} (h : MkSt w wr sB a b c d e) (hu : (mkA a b c d e).setIfInBounds i u = mkA a' b' c' d' e') : MkSt w (wr.setCell ⟨w.heap.size + 1 + 1, i, none⟩ u) sB a' b' c' d' e' :=
  ⟨Gx.setCell h.grew (by omega), h.ser.setc_other (by omega), h.res.setc_other (by omega), by rw [← hu]; exact h.cnt.setc_at⟩
/-- What Marks returns. -/
def mkV (den : Int) (g : Nat → Sm) (n : Nat) : Value := .agg (if serE den g n = 0 then mkA (cntN g 0 n) (cntN g 1 n) (cntN g 2 n) (cntN g 3 n) (cntN g 4 n) else mkA 0 0 0 0 0)
set_option maxHeartbeats 4000000 in
set_option maxRecDepth 100000 in
theorem Marks_any (den : Int) (g : Nat → Sm) (n c : Nat) (A : Option Addr) (w : World) (hL : SmAt w g n A) :
    Calls Tryd.prog 10 #[serV den A n c] w fun e w' => e = .returned (.tuple #[mkV den g n, .int .i64 (serE den g n)]) ∧ ∃ x, w' = gx w x := by
  have hLw : SmAt (((w.alloc (.cells #[.int .i64 den, .slice A n c] 24)).alloc (.cells #[.int .i64 0, .int .i64 0, .int .i64 0, .int .i64 0, .int .i64 0] 25)).alloc (.cells #[.int .i64 0, .int .i64 0, .int .i64 0, .int .i64 0, .int .i64 0] 25)) g n A := hL.alloc.alloc.alloc
  have HC := fun W h => Check_any den g n c A W h
  by_cases h0 : serE den g n = 0
  · obtain ⟨_, hn, hG⟩ := goodS_of h0
    have HV : Hid (mkV den g n = .agg (mkA (cntN g 0 n) (cntN g 1 n) (cntN g 2 n) (cntN g 3 n) (cntN g 4 n)) ∧ serE den g n = 0) := ⟨by unfold mkV; rw [if_pos h0], h0⟩
    rw [h0] at HC
    clear h0
    go_enter Tryd.func10, Tryd.ntmps10
    go_wp2_with (go_at_call 12; refine (HC _ hLw).mono ?_; rintro e w' ⟨rfl, z1, rfl⟩)
    go_loopw [17] (fun i wr => ∃ k : Nat, k ≤ n ∧ i = .int .i64 k ∧ MkSt w wr #[.int .i64 den, .slice A n c] (cntN g 0 k) (cntN g 1 k) (cntN g 2 k) (cntN g 3 k) (cntN g 4 k)) (fun i _ => n - (intOf i).toNat)
    case atStart =>
      refine ⟨0, Nat.zero_le _, rfl, ⟨(by repeat (first | (with_reducible exact Gx.refl _) | (with_reducible assumption) | (with_reducible refine Gx.gx ?_) | (with_reducible refine Gx.alloc ?_) | (with_reducible refine Gx.drew ?_) | (with_reducible refine Gx.drewN ?_) | (with_reducible refine Gx.setRow ?_ (by first | omega | (simp; done) | (simp <;> omega))) | (with_reducible refine Gx.setCell ?_ (by first | omega | (simp; done) | (simp <;> omega))))), ?_, (show At _ _ (.cells #[.int .i64 0, .int .i64 0, .int .i64 0, .int .i64 0, .int .i64 0] 25 (0, 0)) from ?_), (show At _ _ (.cells #[.int .i64 0, .int .i64 0, .int .i64 0, .int .i64 0, .int .i64 0] 25 (0, 0)) from ?_)⟩⟩
      all_goals ((focus (repeat (first | (with_reducible assumption) | (with_reducible exact At.new _ _) | (with_reducible refine At.row ?_) | ((with_reducible refine At.row_other ?_ ?_); rotate_left; (focus (simp <;> omega))) | (with_reducible refine At.app ?_) | (with_reducible refine At.tick ?_) | (with_reducible refine At.gx ?_) | ((with_reducible refine At.new' ?_); focus (simp; done)) | (with_reducible refine At.alloc ?_) | (with_reducible refine At.drew ?_) | (with_reducible exact Is.new _ _ _) | (with_reducible refine Is.row ?_) | ((with_reducible refine Is.row_other ?_ ?_); rotate_left; (focus (simp <;> omega))) | (with_reducible refine Is.gx ?_) | ((with_reducible refine Is.new' ?_); focus (simp; done)) | (with_reducible refine Is.alloc ?_) | (with_reducible refine Is.drew ?_)))); done)
    case round =>
      obtain ⟨k, hk, rfl, hst⟩ := hrel
      have s1 : wr.cell? ⟨w.heap.size, 1, none⟩ = some (.slice A n c) := by rw [cell_of_row wr _ _ _ _ _ hst.ser]; rfl
      have l0 : w.heap.size < wr.heap.size := hst.ser.lt
      have l1 : w.heap.size + 1 < wr.heap.size := hst.res.lt
      have l2 : w.heap.size + 1 + 1 < wr.heap.size := hst.cnt.lt
      have b0 := cntN_le g 0 k
      have b1 := cntN_le g 1 k
      have b2 := cntN_le g 2 k
      have b3 := cntN_le g 3 k
      have b4 := cntN_le g 4 k
      obtain ⟨a, ha⟩ : ∃ a, cntN g 0 k = a := ⟨_, rfl⟩
      obtain ⟨b, hb⟩ : ∃ a, cntN g 1 k = a := ⟨_, rfl⟩
      obtain ⟨c', hc⟩ : ∃ a, cntN g 2 k = a := ⟨_, rfl⟩
      obtain ⟨d, hd⟩ : ∃ a, cntN g 3 k = a := ⟨_, rfl⟩
      obtain ⟨e, he⟩ : ∃ a, cntN g 4 k = a := ⟨_, rfl⟩
      rw [ha] at b0 hst
      rw [hb] at b1 hst
      rw [hc] at b2 hst
      rw [hd] at b3 hst
      rw [he] at b4 hst
      have x0 : wr.cell? ⟨w.heap.size + 1 + 1, 0, none⟩ = some (.int .i64 (a : Int)) := by rw [cell_of_row wr _ _ _ _ _ hst.cnt]; rfl
      have x1 : wr.cell? ⟨w.heap.size + 1 + 1, 1, none⟩ = some (.int .i64 (b : Int)) := by rw [cell_of_row wr _ _ _ _ _ hst.cnt]; rfl
      have x2 : wr.cell? ⟨w.heap.size + 1 + 1, 2, none⟩ = some (.int .i64 (c' : Int)) := by rw [cell_of_row wr _ _ _ _ _ hst.cnt]; rfl
      have x3 : wr.cell? ⟨w.heap.size + 1 + 1, 3, none⟩ = some (.int .i64 (d : Int)) := by rw [cell_of_row wr _ _ _ _ _ hst.cnt]; rfl
      have x4 : wr.cell? ⟨w.heap.size + 1 + 1, 4, none⟩ = some (.int .i64 (e : Int)) := by rw [cell_of_row wr _ _ _ _ _ hst.cnt]; rfl
      have fz : ∀ o, wr.frozen? ⟨w.heap.size + 1 + 1, o, none⟩ = false := fun o => hst.cnt.frz
      have fz0 := fz 0
      have fz1 := fz 1
      have fz2 := fz 2
      have fz3 := fz 3
      have fz4 := fz 4
      have HS := Lib.hid hst
      by_cases hlt : k < n
      · have hkz : (k : Int) < (n : Int) := by omega
        obtain ⟨b', o', rfl, hbw, HCs⟩ := hL.get (by omega)
        obtain ⟨s2, s3, s4⟩ := HCs.out k hlt
        obtain ⟨x, hx⟩ := hst.grew
        have d1 : wr.cell? ⟨b', o' + k * 3, none⟩ = some (.int .i64 (g k).t) := by rw [hx]; exact cell_keep_gx s2
        have d2 : wr.cell? ⟨b', o' + k * 3 + 1, none⟩ = some (.int .i64 (g k).n) := by rw [hx]; exact cell_keep_gx s3
        have d3 : wr.cell? ⟨b', o' + k * 3 + 2, none⟩ = some (.int .i64 (g k).m) := by rw [hx]; exact cell_keep_gx s4
        have hok := hG.ok k hlt
        unfold smOk at hok
        clear hst hx s2 s3 s4 fz
        rcases (by omega : (g k).m = 0 ∨ (g k).m = 1 ∨ (g k).m = 2 ∨ (g k).m = 3 ∨ (g k).m = 4) with hm | hm | hm | hm | hm
        · have e0 : cntN g 0 (k + 1) = a + 1 := by rw [cntN_yes hm, ha]
          have e1 : cntN g 1 (k + 1) = b := by rw [cntN_no (by omega), hb]
          have e2 : cntN g 2 (k + 1) = c' := by rw [cntN_no (by omega), hc]
          have e3 : cntN g 3 (k + 1) = d := by rw [cntN_no (by omega), hd]
          have e4 : cntN g 4 (k + 1) = e := by rw [cntN_no (by omega), he]
          rw [hm] at d3
          have E0 := Lib.hid e0
          have E1 := Lib.hid e1
          have E2 := Lib.hid e2
          have E3 := Lib.hid e3
          have E4 := Lib.hid e4
          clear hm e0 e1 e2 e3 e4 ha hb hc hd he
          go_wp2
          go_roundw
          case rel => exact ⟨k + 1, by omega, by go_num, by rw [E0.out, E1.out, E2.out, E3.out, E4.out]; refine (HS.out.put ?_).onalloc; unfold mkA; simp⟩
          case measure => simp [intOf]; omega
        · have e0 : cntN g 0 (k + 1) = a := by rw [cntN_no (by omega), ha]
          have e1 : cntN g 1 (k + 1) = b + 1 := by rw [cntN_yes hm, hb]
          have e2 : cntN g 2 (k + 1) = c' := by rw [cntN_no (by omega), hc]
          have e3 : cntN g 3 (k + 1) = d := by rw [cntN_no (by omega), hd]
          have e4 : cntN g 4 (k + 1) = e := by rw [cntN_no (by omega), he]
          rw [hm] at d3
          have E0 := Lib.hid e0
          have E1 := Lib.hid e1
          have E2 := Lib.hid e2
          have E3 := Lib.hid e3
          have E4 := Lib.hid e4
          clear hm e0 e1 e2 e3 e4 ha hb hc hd he
          go_wp2
          go_roundw
          case rel => exact ⟨k + 1, by omega, by go_num, by rw [E0.out, E1.out, E2.out, E3.out, E4.out]; refine (HS.out.put ?_).onalloc; unfold mkA; simp⟩
          case measure => simp [intOf]; omega
        · have e0 : cntN g 0 (k + 1) = a := by rw [cntN_no (by omega), ha]
          have e1 : cntN g 1 (k + 1) = b := by rw [cntN_no (by omega), hb]
          have e2 : cntN g 2 (k + 1) = c' + 1 := by rw [cntN_yes hm, hc]
          have e3 : cntN g 3 (k + 1) = d := by rw [cntN_no (by omega), hd]
          have e4 : cntN g 4 (k + 1) = e := by rw [cntN_no (by omega), he]
          rw [hm] at d3
          have E0 := Lib.hid e0
          have E1 := Lib.hid e1
          have E2 := Lib.hid e2
          have E3 := Lib.hid e3
          have E4 := Lib.hid e4
          clear hm e0 e1 e2 e3 e4 ha hb hc hd he
          go_wp2
          go_roundw
          case rel => exact ⟨k + 1, by omega, by go_num, by rw [E0.out, E1.out, E2.out, E3.out, E4.out]; refine (HS.out.put ?_).onalloc; unfold mkA; simp⟩
          case measure => simp [intOf]; omega
        · have e0 : cntN g 0 (k + 1) = a := by rw [cntN_no (by omega), ha]
          have e1 : cntN g 1 (k + 1) = b := by rw [cntN_no (by omega), hb]
          have e2 : cntN g 2 (k + 1) = c' := by rw [cntN_no (by omega), hc]
          have e3 : cntN g 3 (k + 1) = d + 1 := by rw [cntN_yes hm, hd]
          have e4 : cntN g 4 (k + 1) = e := by rw [cntN_no (by omega), he]
          rw [hm] at d3
          have E0 := Lib.hid e0
          have E1 := Lib.hid e1
          have E2 := Lib.hid e2
          have E3 := Lib.hid e3
          have E4 := Lib.hid e4
          clear hm e0 e1 e2 e3 e4 ha hb hc hd he
          go_wp2
          go_roundw
          case rel => exact ⟨k + 1, by omega, by go_num, by rw [E0.out, E1.out, E2.out, E3.out, E4.out]; refine (HS.out.put ?_).onalloc; unfold mkA; simp⟩
          case measure => simp [intOf]; omega
        · have e0 : cntN g 0 (k + 1) = a := by rw [cntN_no (by omega), ha]
          have e1 : cntN g 1 (k + 1) = b := by rw [cntN_no (by omega), hb]
          have e2 : cntN g 2 (k + 1) = c' := by rw [cntN_no (by omega), hc]
          have e3 : cntN g 3 (k + 1) = d := by rw [cntN_no (by omega), hd]
          have e4 : cntN g 4 (k + 1) = e + 1 := by rw [cntN_yes hm, he]
          rw [hm] at d3
          have E0 := Lib.hid e0
          have E1 := Lib.hid e1
          have E2 := Lib.hid e2
          have E3 := Lib.hid e3
          have E4 := Lib.hid e4
          clear hm e0 e1 e2 e3 e4 ha hb hc hd he
          go_wp2
          go_roundw
          case rel => exact ⟨k + 1, by omega, by go_num, by rw [E0.out, E1.out, E2.out, E3.out, E4.out]; refine (HS.out.put ?_).onalloc; unfold mkA; simp⟩
          case measure => simp [intOf]; omega
      · obtain rfl : k = n := by omega
        have r0 : wr.cell? ⟨w.heap.size + 1, 0, none⟩ = some (.int .i64 0) := by rw [cell_of_row wr _ _ _ _ _ hst.res]; rfl
        have r1 : wr.cell? ⟨w.heap.size + 1, 1, none⟩ = some (.int .i64 0) := by rw [cell_of_row wr _ _ _ _ _ hst.res]; rfl
        have r2 : wr.cell? ⟨w.heap.size + 1, 2, none⟩ = some (.int .i64 0) := by rw [cell_of_row wr _ _ _ _ _ hst.res]; rfl
        have r3 : wr.cell? ⟨w.heap.size + 1, 3, none⟩ = some (.int .i64 0) := by rw [cell_of_row wr _ _ _ _ _ hst.res]; rfl
        have r4 : wr.cell? ⟨w.heap.size + 1, 4, none⟩ = some (.int .i64 0) := by rw [cell_of_row wr _ _ _ _ _ hst.res]; rfl
        have q : ∀ o, wr.frozen? ⟨w.heap.size + 1, o, none⟩ = false := fun o => hst.res.frz
        have q0 := q 0
        have q1 := q 1
        have q2 := q 2
        have q3 := q 3
        have q4 := q 4
        have HE := Lib.hid (And.intro ha (And.intro hb (And.intro hc (And.intro hd he))))
        clear hst q fz ha hb hc hd he
        go_wp2
        refine bodyPost_ret (v := .tuple #[.agg (mkA a b c' d e), .int .i64 0]) (by simp [results, Tryd.results10, go_sem, mkA, r0, r1, r2, r3, r4]) rfl ⟨?_, ?_⟩
        · rw [HV.out.1, HV.out.2, HE.out.1, HE.out.2.1, HE.out.2.2.1, HE.out.2.2.2.1, HE.out.2.2.2.2]
        · have := HS.out.grew
          exact (by repeat (first | (with_reducible exact Gx.refl _) | (with_reducible assumption) | (with_reducible refine Gx.gx ?_) | (with_reducible refine Gx.alloc ?_) | (with_reducible refine Gx.drew ?_) | (with_reducible refine Gx.drewN ?_) | (with_reducible refine Gx.setRow ?_ (by first | omega | (simp; done) | (simp <;> omega))) | (with_reducible refine Gx.setCell ?_ (by first | omega | (simp; done) | (simp <;> omega)))))
  · have HV : Hid (mkV den g n = .agg (mkA 0 0 0 0 0)) := by unfold mkV; rw [if_neg h0]; rfl
    have n1 := ne0 h0
    have n2 := ne0' h0
    clear h0
    generalize serE den g n = q at *
    go_enter Tryd.func10, Tryd.ntmps10
    go_wp2_with (go_at_call 12; refine (HC _ hLw).mono ?_; rintro e w' ⟨rfl, z1, rfl⟩)
    exact bodyPost_ret (v := .tuple #[.agg (mkA 0 0 0 0 0), .int .i64 q]) (by simp [results, Tryd.results10, go_sem, mkA]) rfl ⟨by rw [HV.out], (by repeat (first | (with_reducible exact Gx.refl _) | (with_reducible assumption) | (with_reducible refine Gx.gx ?_) | (with_reducible refine Gx.alloc ?_) | (with_reducible refine Gx.drew ?_) | (with_reducible refine Gx.drewN ?_) | (with_reducible refine Gx.setRow ?_ (by first | omega | (simp; done) | (simp <;> omega))) | (with_reducible refine Gx.setCell ?_ (by first | omega | (simp; done) | (simp <;> omega)))))⟩
set_option maxHeartbeats 4000000 in
set_option maxRecDepth 100000 in
theorem RMarks_any (den : Int) (g : Nat → Sm) (n c : Nat) (A : Option Addr) (w : World) (hL : SmAt w g n A) :
    Calls Tryd.prog 11 #[serV den A n c] w fun e w' => e = .returned (.tuple #[mkV den g n, .int .i64 (serE den g n)]) ∧ ∃ x, w' = gx w x := by
  have hLw : SmAt (((w.alloc (.cells #[.int .i64 den, .slice A n c] 24)).alloc (.cells #[.int .i64 0, .int .i64 0, .int .i64 0, .int .i64 0, .int .i64 0] 25)).alloc (.cells #[.int .i64 0, .int .i64 0, .int .i64 0, .int .i64 0, .int .i64 0] 25)) g n A := hL.alloc.alloc.alloc
  have HC := fun W h => RCheck_any den g n c A W h
  by_cases h0 : serE den g n = 0
  · obtain ⟨_, hn, hG⟩ := goodS_of h0
    have HV : Hid (mkV den g n = .agg (mkA (cntN g 0 n) (cntN g 1 n) (cntN g 2 n) (cntN g 3 n) (cntN g 4 n)) ∧ serE den g n = 0) := ⟨by unfold mkV; rw [if_pos h0], h0⟩
    rw [h0] at HC
    clear h0
    go_enter Tryd.func11, Tryd.ntmps11
    go_wp2_with (go_at_call 13; refine (HC _ hLw).mono ?_; rintro e w' ⟨rfl, z1, rfl⟩)
    go_loopw [6] (fun i wr => ∃ k : Nat, k ≤ n ∧ i = .int .i64 k ∧ MkSt w wr #[.int .i64 den, .slice A n c] (cntN g 0 k) (cntN g 1 k) (cntN g 2 k) (cntN g 3 k) (cntN g 4 k)) (fun i _ => n - (intOf i).toNat)
    case atStart =>
      refine ⟨0, Nat.zero_le _, rfl, ⟨(by repeat (first | (with_reducible exact Gx.refl _) | (with_reducible assumption) | (with_reducible refine Gx.gx ?_) | (with_reducible refine Gx.alloc ?_) | (with_reducible refine Gx.drew ?_) | (with_reducible refine Gx.drewN ?_) | (with_reducible refine Gx.setRow ?_ (by first | omega | (simp; done) | (simp <;> omega))) | (with_reducible refine Gx.setCell ?_ (by first | omega | (simp; done) | (simp <;> omega))))), ?_, (show At _ _ (.cells #[.int .i64 0, .int .i64 0, .int .i64 0, .int .i64 0, .int .i64 0] 25 (0, 0)) from ?_), (show At _ _ (.cells #[.int .i64 0, .int .i64 0, .int .i64 0, .int .i64 0, .int .i64 0] 25 (0, 0)) from ?_)⟩⟩
      all_goals ((focus (repeat (first | (with_reducible assumption) | (with_reducible exact At.new _ _) | (with_reducible refine At.row ?_) | ((with_reducible refine At.row_other ?_ ?_); rotate_left; (focus (simp <;> omega))) | (with_reducible refine At.app ?_) | (with_reducible refine At.tick ?_) | (with_reducible refine At.gx ?_) | ((with_reducible refine At.new' ?_); focus (simp; done)) | (with_reducible refine At.alloc ?_) | (with_reducible refine At.drew ?_) | (with_reducible exact Is.new _ _ _) | (with_reducible refine Is.row ?_) | ((with_reducible refine Is.row_other ?_ ?_); rotate_left; (focus (simp <;> omega))) | (with_reducible refine Is.gx ?_) | ((with_reducible refine Is.new' ?_); focus (simp; done)) | (with_reducible refine Is.alloc ?_) | (with_reducible refine Is.drew ?_)))); done)
    case round =>
      obtain ⟨k, hk, rfl, hst⟩ := hrel
      have s1 : wr.cell? ⟨w.heap.size, 1, none⟩ = some (.slice A n c) := by rw [cell_of_row wr _ _ _ _ _ hst.ser]; rfl
      have l0 : w.heap.size < wr.heap.size := hst.ser.lt
      have l1 : w.heap.size + 1 < wr.heap.size := hst.res.lt
      have l2 : w.heap.size + 1 + 1 < wr.heap.size := hst.cnt.lt
      have b0 := cntN_le g 0 k
      have b1 := cntN_le g 1 k
      have b2 := cntN_le g 2 k
      have b3 := cntN_le g 3 k
      have b4 := cntN_le g 4 k
      obtain ⟨a, ha⟩ : ∃ a, cntN g 0 k = a := ⟨_, rfl⟩
      obtain ⟨b, hb⟩ : ∃ a, cntN g 1 k = a := ⟨_, rfl⟩
      obtain ⟨c', hc⟩ : ∃ a, cntN g 2 k = a := ⟨_, rfl⟩
      obtain ⟨d, hd⟩ : ∃ a, cntN g 3 k = a := ⟨_, rfl⟩
      obtain ⟨e, he⟩ : ∃ a, cntN g 4 k = a := ⟨_, rfl⟩
      rw [ha] at b0 hst
      rw [hb] at b1 hst
      rw [hc] at b2 hst
      rw [hd] at b3 hst
      rw [he] at b4 hst
      have x0 : wr.cell? ⟨w.heap.size + 1 + 1, 0, none⟩ = some (.int .i64 (a : Int)) := by rw [cell_of_row wr _ _ _ _ _ hst.cnt]; rfl
      have x1 : wr.cell? ⟨w.heap.size + 1 + 1, 1, none⟩ = some (.int .i64 (b : Int)) := by rw [cell_of_row wr _ _ _ _ _ hst.cnt]; rfl
      have x2 : wr.cell? ⟨w.heap.size + 1 + 1, 2, none⟩ = some (.int .i64 (c' : Int)) := by rw [cell_of_row wr _ _ _ _ _ hst.cnt]; rfl
      have x3 : wr.cell? ⟨w.heap.size + 1 + 1, 3, none⟩ = some (.int .i64 (d : Int)) := by rw [cell_of_row wr _ _ _ _ _ hst.cnt]; rfl
      have x4 : wr.cell? ⟨w.heap.size + 1 + 1, 4, none⟩ = some (.int .i64 (e : Int)) := by rw [cell_of_row wr _ _ _ _ _ hst.cnt]; rfl
      have fz : ∀ o, wr.frozen? ⟨w.heap.size + 1 + 1, o, none⟩ = false := fun o => hst.cnt.frz
      have fz0 := fz 0
      have fz1 := fz 1
      have fz2 := fz 2
      have fz3 := fz 3
      have fz4 := fz 4
      have HS := Lib.hid hst
      by_cases hlt : k < n
      · have hkz : (k : Int) < (n : Int) := by omega
        obtain ⟨b', o', rfl, hbw, HCs⟩ := hL.get (by omega)
        obtain ⟨s2, s3, s4⟩ := HCs.out k hlt
        obtain ⟨x, hx⟩ := hst.grew
        have d1 : wr.cell? ⟨b', o' + k * 3, none⟩ = some (.int .i64 (g k).t) := by rw [hx]; exact cell_keep_gx s2
        have d2 : wr.cell? ⟨b', o' + k * 3 + 1, none⟩ = some (.int .i64 (g k).n) := by rw [hx]; exact cell_keep_gx s3
        have d3 : wr.cell? ⟨b', o' + k * 3 + 2, none⟩ = some (.int .i64 (g k).m) := by rw [hx]; exact cell_keep_gx s4
        have hok := hG.ok k hlt
        unfold smOk at hok
        clear hst hx s2 s3 s4 fz
        rcases (by omega : (g k).m = 0 ∨ (g k).m = 1 ∨ (g k).m = 2 ∨ (g k).m = 3 ∨ (g k).m = 4) with hm | hm | hm | hm | hm
        · have e0 : cntN g 0 (k + 1) = a + 1 := by rw [cntN_yes hm, ha]
          have e1 : cntN g 1 (k + 1) = b := by rw [cntN_no (by omega), hb]
          have e2 : cntN g 2 (k + 1) = c' := by rw [cntN_no (by omega), hc]
          have e3 : cntN g 3 (k + 1) = d := by rw [cntN_no (by omega), hd]
          have e4 : cntN g 4 (k + 1) = e := by rw [cntN_no (by omega), he]
          rw [hm] at d3
          have E0 := Lib.hid e0
          have E1 := Lib.hid e1
          have E2 := Lib.hid e2
          have E3 := Lib.hid e3
          have E4 := Lib.hid e4
          clear hm e0 e1 e2 e3 e4 ha hb hc hd he
          go_wp2
          go_roundw
          case rel => exact ⟨k + 1, by omega, by go_num, by rw [E0.out, E1.out, E2.out, E3.out, E4.out]; refine HS.out.put ?_; unfold mkA; simp⟩
          case measure => simp [intOf]; omega
        · have e0 : cntN g 0 (k + 1) = a := by rw [cntN_no (by omega), ha]
          have e1 : cntN g 1 (k + 1) = b + 1 := by rw [cntN_yes hm, hb]
          have e2 : cntN g 2 (k + 1) = c' := by rw [cntN_no (by omega), hc]
          have e3 : cntN g 3 (k + 1) = d := by rw [cntN_no (by omega), hd]
          have e4 : cntN g 4 (k + 1) = e := by rw [cntN_no (by omega), he]
          rw [hm] at d3
          have E0 := Lib.hid e0
          have E1 := Lib.hid e1
          have E2 := Lib.hid e2
          have E3 := Lib.hid e3
          have E4 := Lib.hid e4
          clear hm e0 e1 e2 e3 e4 ha hb hc hd he
          go_wp2
          go_roundw
          case rel => exact ⟨k + 1, by omega, by go_num, by rw [E0.out, E1.out, E2.out, E3.out, E4.out]; refine HS.out.put ?_; unfold mkA; simp⟩
          case measure => simp [intOf]; omega
        · have e0 : cntN g 0 (k + 1) = a := by rw [cntN_no (by omega), ha]
          have e1 : cntN g 1 (k + 1) = b := by rw [cntN_no (by omega), hb]
          have e2 : cntN g 2 (k + 1) = c' + 1 := by rw [cntN_yes hm, hc]
          have e3 : cntN g 3 (k + 1) = d := by rw [cntN_no (by omega), hd]
          have e4 : cntN g 4 (k + 1) = e := by rw [cntN_no (by omega), he]
          rw [hm] at d3
          have E0 := Lib.hid e0
          have E1 := Lib.hid e1
          have E2 := Lib.hid e2
          have E3 := Lib.hid e3
          have E4 := Lib.hid e4
          clear hm e0 e1 e2 e3 e4 ha hb hc hd he
          go_wp2
          go_roundw
          case rel => exact ⟨k + 1, by omega, by go_num, by rw [E0.out, E1.out, E2.out, E3.out, E4.out]; refine HS.out.put ?_; unfold mkA; simp⟩
          case measure => simp [intOf]; omega
        · have e0 : cntN g 0 (k + 1) = a := by rw [cntN_no (by omega), ha]
          have e1 : cntN g 1 (k + 1) = b := by rw [cntN_no (by omega), hb]
          have e2 : cntN g 2 (k + 1) = c' := by rw [cntN_no (by omega), hc]
          have e3 : cntN g 3 (k + 1) = d + 1 := by rw [cntN_yes hm, hd]
          have e4 : cntN g 4 (k + 1) = e := by rw [cntN_no (by omega), he]
          rw [hm] at d3
          have E0 := Lib.hid e0
          have E1 := Lib.hid e1
          have E2 := Lib.hid e2
          have E3 := Lib.hid e3
          have E4 := Lib.hid e4
          clear hm e0 e1 e2 e3 e4 ha hb hc hd he
          go_wp2
          go_roundw
          case rel => exact ⟨k + 1, by omega, by go_num, by rw [E0.out, E1.out, E2.out, E3.out, E4.out]; refine HS.out.put ?_; unfold mkA; simp⟩
          case measure => simp [intOf]; omega
        · have e0 : cntN g 0 (k + 1) = a := by rw [cntN_no (by omega), ha]
          have e1 : cntN g 1 (k + 1) = b := by rw [cntN_no (by omega), hb]
          have e2 : cntN g 2 (k + 1) = c' := by rw [cntN_no (by omega), hc]
          have e3 : cntN g 3 (k + 1) = d := by rw [cntN_no (by omega), hd]
          have e4 : cntN g 4 (k + 1) = e + 1 := by rw [cntN_yes hm, he]
          rw [hm] at d3
          have E0 := Lib.hid e0
          have E1 := Lib.hid e1
          have E2 := Lib.hid e2
          have E3 := Lib.hid e3
          have E4 := Lib.hid e4
          clear hm e0 e1 e2 e3 e4 ha hb hc hd he
          go_wp2
          go_roundw
          case rel => exact ⟨k + 1, by omega, by go_num, by rw [E0.out, E1.out, E2.out, E3.out, E4.out]; refine HS.out.put ?_; unfold mkA; simp⟩
          case measure => simp [intOf]; omega
      · obtain rfl : k = n := by omega
        have r0 : wr.cell? ⟨w.heap.size + 1, 0, none⟩ = some (.int .i64 0) := by rw [cell_of_row wr _ _ _ _ _ hst.res]; rfl
        have r1 : wr.cell? ⟨w.heap.size + 1, 1, none⟩ = some (.int .i64 0) := by rw [cell_of_row wr _ _ _ _ _ hst.res]; rfl
        have r2 : wr.cell? ⟨w.heap.size + 1, 2, none⟩ = some (.int .i64 0) := by rw [cell_of_row wr _ _ _ _ _ hst.res]; rfl
        have r3 : wr.cell? ⟨w.heap.size + 1, 3, none⟩ = some (.int .i64 0) := by rw [cell_of_row wr _ _ _ _ _ hst.res]; rfl
        have r4 : wr.cell? ⟨w.heap.size + 1, 4, none⟩ = some (.int .i64 0) := by rw [cell_of_row wr _ _ _ _ _ hst.res]; rfl
        have q : ∀ o, wr.frozen? ⟨w.heap.size + 1, o, none⟩ = false := fun o => hst.res.frz
        have q0 := q 0
        have q1 := q 1
        have q2 := q 2
        have q3 := q 3
        have q4 := q 4
        have HE := Lib.hid (And.intro ha (And.intro hb (And.intro hc (And.intro hd he))))
        clear hst q fz ha hb hc hd he
        go_wp2
        refine bodyPost_ret (v := .tuple #[.agg (mkA a b c' d e), .int .i64 0]) (by simp [results, Tryd.results11, go_sem, mkA, r0, r1, r2, r3, r4]) rfl ⟨?_, ?_⟩
        · rw [HV.out.1, HV.out.2, HE.out.1, HE.out.2.1, HE.out.2.2.1, HE.out.2.2.2.1, HE.out.2.2.2.2]
        · have := HS.out.grew
          exact (by repeat (first | (with_reducible exact Gx.refl _) | (with_reducible assumption) | (with_reducible refine Gx.gx ?_) | (with_reducible refine Gx.alloc ?_) | (with_reducible refine Gx.drew ?_) | (with_reducible refine Gx.drewN ?_) | (with_reducible refine Gx.setRow ?_ (by first | omega | (simp; done) | (simp <;> omega))) | (with_reducible refine Gx.setCell ?_ (by first | omega | (simp; done) | (simp <;> omega)))))
  · have HV : Hid (mkV den g n = .agg (mkA 0 0 0 0 0)) := by unfold mkV; rw [if_neg h0]; rfl
    have n1 := ne0 h0
    have n2 := ne0' h0
    clear h0
    generalize serE den g n = q at *
    go_enter Tryd.func11, Tryd.ntmps11
    go_wp2_with (go_at_call 13; refine (HC _ hLw).mono ?_; rintro e w' ⟨rfl, z1, rfl⟩)
    exact bodyPost_ret (v := .tuple #[.agg (mkA 0 0 0 0 0), .int .i64 q]) (by simp [results, Tryd.results11, go_sem, mkA]) rfl ⟨by rw [HV.out], (by repeat (first | (with_reducible exact Gx.refl _) | (with_reducible assumption) | (with_reducible refine Gx.gx ?_) | (with_reducible refine Gx.alloc ?_) | (with_reducible refine Gx.drew ?_) | (with_reducible refine Gx.drewN ?_) | (with_reducible refine Gx.setRow ?_ (by first | omega | (simp; done) | (simp <;> omega))) | (with_reducible refine Gx.setCell ?_ (by first | omega | (simp; done) | (simp <;> omega)))))⟩
end Go.Proofs.YtkfolbhdjppgaaaDoor
