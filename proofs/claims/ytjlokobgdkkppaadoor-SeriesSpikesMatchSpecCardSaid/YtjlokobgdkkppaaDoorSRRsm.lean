/-
  Resample, the reference's: contracts.
-/
import Derived.Test.YtjlokobgdkkppaaDoorSRsm2
import Derived.Test.YtjlokobgdkkppaaDoorSRHeld
import Derived.Test.YtjlokobgdkkppaaDoorSRCalb
namespace Go.Proofs.YtjlokobgdkkppaaDoor
open Go.RowKit
-- AT2
-- AT3

/-- What the reference's Resample has at hand in its loop. -/
structure RtSt (w wr : World) (gO k : Nat) (f : Nat → Sm) (den : Int) (A : Option Addr) (c : Nat) (sB rB : Array Value) : Prop where
  grew : ∃ x, wr = gx w x
  ser : At wr w.heap.size (.cells sB 24 (0, 0))
  res : At wr (w.heap.size + 1) (.cells rB 24 (0, 0))
  out : At wr gO (.cells #[.int .i64 den, .slice A k c] 24 (0, 0))
  far : w.heap.size + 1 < gO
  own : Own (w.heap.size + 1 + 1) wr 61 3 (.slice A k c) k (smC f k)
theorem RtSt.gx {w wr : World} {gO k : Nat} {f : Nat → Sm} {den : Int} {A : Option Addr} {c : Nat} {sB rB : Array Value} {x : Ext} (h : RtSt w wr gO k f den A c sB rB) : RtSt w (gx wr x) gO k f den A c sB rB :=
  ⟨Gx.gx h.grew, h.ser.gx, h.res.gx, h.out.gx, h.far, h.own.gx⟩
theorem RtSt.alloc {w wr : World} {gO k : Nat} {f : Nat → Sm} {den : Int} {A : Option Addr} {c : Nat} {sB rB : Array Value} {o : Obj} (h : RtSt w wr gO k f den A c sB rB) : RtSt w (wr.alloc o) gO k f den A c sB rB := by rw [alloc_is]; exact h.gx
/-- A sample was appended, and the slice stored. -/
theorem RtSt.step {w W W2 : World} {gO k : Nat} {f : Nat → Sm} {den : Int} {A A2 : Option Addr} {c c2 : Nat} {sB rB : Array Value} (h : RtSt w W gO k f den A c sB rB) (hW : ∃ x, W2 = Go.Proofs.YtjlokobgdkkppaaDoor.gx w x) (hg : W.grownBy W2 (Value.slice A k c).ownBlock)
    (hO : Own (w.heap.size + 1 + 1) W2 61 3 (.slice A2 (k + 1) c2) (k + 1) (smC f k ++ [.int .i64 (f k).t, .int .i64 (f k).n, .int .i64 (f k).m])) : RtSt w (W2.setCell ⟨gO, 1, none⟩ (.slice A2 (k + 1) c2)) gO (k + 1) f den A2 c2 sB rB := by
  have n0 := own_ne_at h.own h.ser (by decide)
  have n2 := own_ne_at h.own h.res (by decide)
  have n3 := own_ne_at h.own h.out (by decide)
  have a3 := h.out.grown hg n3
  have hf := h.far
  refine ⟨Gx.setCell hW (by omega), (h.ser.grown hg n0).setc_other (by omega), (h.res.grown hg n2).setc_other (by omega), a3.setc2, hf, ?_⟩
  rw [smC_succ]
  exact hO.setc (own_ne_at hO a3 (by decide))
theorem RtSt.fin {w wr : World} {gO k : Nat} {f : Nat → Sm} {den : Int} {A1 : Option Addr} {c1 : Nat} {sB rB : Array Value} {u v : Value} (h : RtSt w wr gO k f den A1 c1 sB rB) :
    SerPost w den f k 0 (.returned (.tuple #[serV den A1 k c1, .int .i64 0])) ((wr.setCell ⟨w.heap.size + 1, 0, none⟩ u).setCell ⟨w.heap.size + 1, 1, none⟩ v) := by
  have n2 := own_ne_at h.own h.res (by decide)
  exact SerPost.mk (Gx.setCell (Gx.setCell h.grew (by omega)) (by omega)) ((h.own.setc n2).setc n2).sm
set_option maxHeartbeats 4000000 in
set_option maxRecDepth 100000 in
theorem RResample_go (den : Int) (g : Nat → Sm) (n c : Nat) (A : Option Addr) (fr st lg : Int) (cn : Nat) (w : World) (hL : SmAt w g n A)
    (h0 : holdE den g n fr lg = 0) (hs1 : 1 ≤ st) (hs2 : st ≤ 1099511627776) (hcn : cn ≤ 20000) (hsum : 0 < cn → fr + ((cn : Int) - 1) * st ≤ 1099511627776) (f : Nat → Sm) (hf : ∀ i, f i = rsF g n fr st lg i) :
    Calls Tryd.prog 25 #[serV den A n c, .int .i64 fr, .int .i64 st, .int .i64 cn, .int .i64 lg] w (SerPost w den f cn 0) := by
  obtain ⟨e1, ⟨hf1, hf2⟩, hl1, hl2⟩ := holdE_0 h0
  obtain ⟨_, hn, hG⟩ := goodS_of e1
  have hLw : SmAt ((w.alloc (.cells #[.int .i64 den, .slice A n c] 24)).alloc (.cells #[.int .i64 0, .slice none 0 0] 24)) g n A := hL.alloc.alloc
  have HC := fun W h => RCheck_any den g n c A W h
  rw [e1] at HC
  clear h0 e1
  have b1 : inB 0 1099511627776 fr = true := inB_iff.2 ⟨hf1, hf2⟩
  have b2 : inB 0 1099511627776 lg = true := inB_iff.2 ⟨hl1, hl2⟩
  have b3 : inB 1 1099511627776 st = true := inB_iff.2 ⟨hs1, hs2⟩
  have b4 : inB 0 20000 (cn : Int) = true := inB_iff.2 ⟨by omega, by omega⟩
  go_enter Tryd.func25, Tryd.ntmps25
  have hsplit : (decide (0 < cn) = false) ∨ (decide (0 < cn) = true ∧ IntKind.i64.wrap ((cn : Int) - 1) = (cn : Int) - 1 ∧ IntKind.i64.wrap (((cn : Int) - 1) * st) = ((cn : Int) - 1) * st ∧ IntKind.i64.wrap (fr + ((cn : Int) - 1) * st) = fr + ((cn : Int) - 1) * st ∧ decide (1099511627776 < fr + ((cn : Int) - 1) * st) = false) := by
    rcases Nat.eq_zero_or_pos cn with hz | hz
    · exact .inl (decide_eq_false (by omega))
    · have h1 := hsum hz
      have h3 : 0 ≤ ((cn : Int) - 1) * st := Int.mul_nonneg (by omega) (by omega)
      refine .inr ⟨decide_eq_true hz, IntWalk.i64_in _ (by omega), ?_, ?_, ?_⟩
      all_goals generalize ((cn : Int) - 1) * st = q at *
      · exact IntWalk.i64_in _ (by omega)
      · exact IntWalk.i64_in _ (by omega)
      · exact decide_eq_false (by omega)
  rcases hsplit with k5 | ⟨k5, k6, k7, k8, k9⟩
  all_goals go_wp2_with first
    | (go_at_call 13; refine (HC _ hLw).mono ?_; rintro e w' ⟨rfl, z1, rfl⟩)
    | (go_at_call 57; refine (outside_any _ _ _ _).mono ?_; (first | rw [b1] | rw [b2] | rw [b3] | rw [b4]); rintro e w' ⟨rfl, rfl⟩)
  · obtain ⟨gO, hgO⟩ : ∃ gO, gO = w.heap.size + 1 + 1 + z1.n := ⟨_, rfl⟩
    rw [← hgO]
    have HgO := Lib.hid hgO
    clear hgO
    go_loopw [14] (fun i wr => ∃ (k : Nat) (A1 : Option Addr) (c1 : Nat), k ≤ cn ∧ i = .int .i64 k ∧ RtSt w wr gO k f den A1 c1 #[.int .i64 den, .slice A n c] #[.int .i64 0, .slice none 0 0]) (fun i _ => cn - (intOf i).toNat)
    case atStart =>
      have e1 := HgO.out
      refine ⟨0, none, 0, Nat.zero_le _, rfl, ⟨(by repeat (first | (with_reducible exact Gx.refl _) | (with_reducible assumption) | (with_reducible refine Gx.gx ?_) | (with_reducible refine Gx.alloc ?_) | (with_reducible refine Gx.drew ?_) | (with_reducible refine Gx.drewN ?_) | (with_reducible refine Gx.setRow ?_ (by first | omega | (simp; done) | (simp <;> omega))) | (with_reducible refine Gx.setCell ?_ (by first | omega | (simp; done) | (simp <;> omega))))), ?_, ?_, ?_, by omega, Own.nil _ _ _ _⟩⟩
      all_goals first | (refine At.new' ?_; simp; omega) | ((focus (repeat (first | (with_reducible assumption) | (with_reducible exact At.new _ _) | (with_reducible refine At.row ?_) | ((with_reducible refine At.row_other ?_ ?_); rotate_left; (focus (simp <;> omega))) | (with_reducible refine At.app ?_) | (with_reducible refine At.tick ?_) | (with_reducible refine At.gx ?_) | ((with_reducible refine At.new' ?_); focus (simp; done)) | (with_reducible refine At.alloc ?_) | (with_reducible refine At.drew ?_) | (with_reducible exact Is.new _ _ _) | (with_reducible refine Is.row ?_) | ((with_reducible refine Is.row_other ?_ ?_); rotate_left; (focus (simp <;> omega))) | (with_reducible refine Is.gx ?_) | ((with_reducible refine Is.new' ?_); focus (simp; done)) | (with_reducible refine Is.alloc ?_) | (with_reducible refine Is.drew ?_)))); done)
    case round =>
      obtain ⟨k, A1, c1, hk, rfl, hst⟩ := hrel
      have s0 : wr.cell? ⟨w.heap.size, 0, none⟩ = some (.int .i64 den) := by rw [cell_of_row wr _ _ _ _ _ hst.ser]; rfl
      have s1 : wr.cell? ⟨w.heap.size, 1, none⟩ = some (.slice A n c) := by rw [cell_of_row wr _ _ _ _ _ hst.ser]; rfl
      have l0 : w.heap.size < wr.heap.size := hst.ser.lt
      have l2 : w.heap.size + 1 < wr.heap.size := hst.res.lt
      have l3 : gO < wr.heap.size := hst.out.lt
      have o0 : wr.cell? ⟨gO, 0, none⟩ = some (.int .i64 den) := by rw [cell_of_row wr _ _ _ _ _ hst.out]; rfl
      have o1 : wr.cell? ⟨gO, 1, none⟩ = some (.slice A1 k c1) := by rw [cell_of_row wr _ _ _ _ _ hst.out]; rfl
      have hfar := hst.far
      have of1 : wr.frozen? ⟨gO, 1, none⟩ = false := hst.out.frz
      by_cases hlt : k < cn
      · obtain ⟨P1, P2, P3, P4⟩ := at_ok hs1 hf1 hf2 hsum hlt
        have hkz : (k : Int) < (cn : Int) := by omega
        obtain ⟨x, hx⟩ := hst.grew
        have hLr : SmAt wr g n A := by rw [hx]; exact hL.gx
        have HH := Lib.hid (fun W (h : SmAt W g n A) => Held_any den g n c A (fr + (k : Int) * st) lg W h hn hG P3 P4)
        have hfk : f k = ⟨fr + (k : Int) * st, (heldV g (aheadN g (fr + (k : Int) * st + 1) n) (fr + (k : Int) * st) lg).n, (heldV g (aheadN g (fr + (k : Int) * st + 1) n) (fr + (k : Int) * st) lg).m⟩ := hf k
        generalize heldV g (aheadN g (fr + (k : Int) * st + 1) n) (fr + (k : Int) * st) lg = V at *
        generalize heldB g (aheadN g (fr + (k : Int) * st + 1) n) (fr + (k : Int) * st) lg = bb at *
        obtain ⟨vt, vn, vm⟩ := V
        simp only at HH hfk
        generalize hq : (k : Int) * st = q at *
        generalize ha : fr + q = a at *
        have Hfk : Hid (f k = ⟨a, vn, vm⟩) := hfk
        have HS := Lib.hid hst
        clear hst hx hfk
        go_wp2_with first
          | (go_at_call 58; refine (HH.out _ hLr).mono ?_; rintro e w' ⟨rfl, z, rfl⟩)
          | (at_builtin; (with_reducible apply append_new (o := ⟨some 79, _, _, _, _, _⟩) el_sample w (w.heap.size + 1 + 1) (v := .slice A1 k c1) (n := k) (xs := smC f k) (m := 1) (news := [.int .i64 a, .int .i64 vn, .int .i64 vm])); go_loud (exact rfl; exact rfl; exact rfl; exact rfl; (focus omega); exact (((HS.out.gx (x := z)).alloc (o := (.cells #[.int .i64 a, .int .i64 vn, .int .i64 vm] 61))).alloc (o := (.cells #[.int .i64 a, .int .i64 vn, .int .i64 vm] 61))).own; exact (((HS.out.gx (x := z)).alloc (o := (.cells #[.int .i64 a, .int .i64 vn, .int .i64 vm] 61))).alloc (o := (.cells #[.int .i64 a, .int .i64 vn, .int .i64 vm] 61))).grew; (focus (simp <;> omega)); exact rfl; (focus (repeat (first | (with_reducible assumption) | ((with_reducible apply Shows.whole); focus ((focus (repeat (first | (with_reducible assumption) | (with_reducible exact At.new _ _) | (with_reducible refine At.row ?_) | ((with_reducible refine At.row_other ?_ ?_); rotate_left; (focus (simp <;> omega))) | (with_reducible refine At.app ?_) | (with_reducible refine At.tick ?_) | (with_reducible refine At.gx ?_) | ((with_reducible refine At.new' ?_); focus (simp; done)) | (with_reducible refine At.alloc ?_) | (with_reducible refine At.drew ?_) | (with_reducible exact Is.new _ _ _) | (with_reducible refine Is.row ?_) | ((with_reducible refine Is.row_other ?_ ?_); rotate_left; (focus (simp <;> omega))) | (with_reducible refine Is.gx ?_) | ((with_reducible refine Is.new' ?_); focus (simp; done)) | (with_reducible refine Is.alloc ?_) | (with_reducible refine Is.drew ?_)))); done)) | (with_reducible refine Shows.app ?_) | (with_reducible refine Shows.tick ?_) | (with_reducible refine Shows.gx ?_) | (with_reducible refine Shows.alloc ?_) | (with_reducible refine Shows.drew ?_)))); (focus (simp [Value.oneCell']; done)); (focus (simp only [maxLen]; omega)); (focus omega); rintro v2 W2 hW2 hO2 hg; obtain ⟨A2, c2, rfl, -⟩ := hO2.is; have hM := (((HS.out.gx (x := z)).alloc (o := (.cells #[.int .i64 a, .int .i64 vn, .int .i64 vm] 61))).alloc (o := (.cells #[.int .i64 a, .int .i64 vn, .int .i64 vm] 61))); have hN := RtSt.step hM hW2 hg (by rw [Hfk.out]; exact hO2); have ho := hM.out.grown hg (own_ne_at hM.own hM.out (by decide)); have p1 : W2.cell? ⟨gO, 1, none⟩ = some (.slice A1 k c1) := (by rw [cell_of_row W2 _ _ _ _ _ ho]; rfl); have pf : W2.frozen? ⟨gO, 1, none⟩ = false := ho.frz; have HN := Lib.hid hN; clear hN ho hg hO2 hW2 hM))
        go_roundw
        case rel => exact ⟨k + 1, A2, c2, by omega, by go_num, HN.out⟩
        case measure => simp [intOf]; omega
      · obtain rfl : k = cn := by omega
        have HS := Lib.hid hst
        have qr : wr.cell? ⟨w.heap.size + 1, 0, none⟩ = some (.int .i64 0) := by rw [cell_of_row wr _ _ _ _ _ hst.res]; rfl
        have qr1 : wr.cell? ⟨w.heap.size + 1, 1, none⟩ = some (.slice none 0 0) := by rw [cell_of_row wr _ _ _ _ _ hst.res]; rfl
        have qf0 : wr.frozen? ⟨w.heap.size + 1, 0, none⟩ = false := hst.res.frz
        have qf1 : wr.frozen? ⟨w.heap.size + 1, 1, none⟩ = false := hst.res.frz
        clear hst
        go_wp2
        refine bodyPost_ret (v := .tuple #[serV den A1 k c1, .int .i64 0]) (by simp [results, Tryd.results25, go_sem, qr, qr1]) rfl ?_
        exact RtSt.fin HS.out
  · obtain ⟨gO, hgO⟩ : ∃ gO, gO = w.heap.size + 1 + 1 + z1.n := ⟨_, rfl⟩
    rw [← hgO]
    have HgO := Lib.hid hgO
    clear hgO
    go_loopw [14] (fun i wr => ∃ (k : Nat) (A1 : Option Addr) (c1 : Nat), k ≤ cn ∧ i = .int .i64 k ∧ RtSt w wr gO k f den A1 c1 #[.int .i64 den, .slice A n c] #[.int .i64 0, .slice none 0 0]) (fun i _ => cn - (intOf i).toNat)
    case atStart =>
      have e1 := HgO.out
      refine ⟨0, none, 0, Nat.zero_le _, rfl, ⟨(by repeat (first | (with_reducible exact Gx.refl _) | (with_reducible assumption) | (with_reducible refine Gx.gx ?_) | (with_reducible refine Gx.alloc ?_) | (with_reducible refine Gx.drew ?_) | (with_reducible refine Gx.drewN ?_) | (with_reducible refine Gx.setRow ?_ (by first | omega | (simp; done) | (simp <;> omega))) | (with_reducible refine Gx.setCell ?_ (by first | omega | (simp; done) | (simp <;> omega))))), ?_, ?_, ?_, by omega, Own.nil _ _ _ _⟩⟩
      all_goals first | (refine At.new' ?_; simp; omega) | ((focus (repeat (first | (with_reducible assumption) | (with_reducible exact At.new _ _) | (with_reducible refine At.row ?_) | ((with_reducible refine At.row_other ?_ ?_); rotate_left; (focus (simp <;> omega))) | (with_reducible refine At.app ?_) | (with_reducible refine At.tick ?_) | (with_reducible refine At.gx ?_) | ((with_reducible refine At.new' ?_); focus (simp; done)) | (with_reducible refine At.alloc ?_) | (with_reducible refine At.drew ?_) | (with_reducible exact Is.new _ _ _) | (with_reducible refine Is.row ?_) | ((with_reducible refine Is.row_other ?_ ?_); rotate_left; (focus (simp <;> omega))) | (with_reducible refine Is.gx ?_) | ((with_reducible refine Is.new' ?_); focus (simp; done)) | (with_reducible refine Is.alloc ?_) | (with_reducible refine Is.drew ?_)))); done)
    case round =>
      obtain ⟨k, A1, c1, hk, rfl, hst⟩ := hrel
      have s0 : wr.cell? ⟨w.heap.size, 0, none⟩ = some (.int .i64 den) := by rw [cell_of_row wr _ _ _ _ _ hst.ser]; rfl
      have s1 : wr.cell? ⟨w.heap.size, 1, none⟩ = some (.slice A n c) := by rw [cell_of_row wr _ _ _ _ _ hst.ser]; rfl
      have l0 : w.heap.size < wr.heap.size := hst.ser.lt
      have l2 : w.heap.size + 1 < wr.heap.size := hst.res.lt
      have l3 : gO < wr.heap.size := hst.out.lt
      have o0 : wr.cell? ⟨gO, 0, none⟩ = some (.int .i64 den) := by rw [cell_of_row wr _ _ _ _ _ hst.out]; rfl
      have o1 : wr.cell? ⟨gO, 1, none⟩ = some (.slice A1 k c1) := by rw [cell_of_row wr _ _ _ _ _ hst.out]; rfl
      have hfar := hst.far
      have of1 : wr.frozen? ⟨gO, 1, none⟩ = false := hst.out.frz
      by_cases hlt : k < cn
      · obtain ⟨P1, P2, P3, P4⟩ := at_ok hs1 hf1 hf2 hsum hlt
        have hkz : (k : Int) < (cn : Int) := by omega
        obtain ⟨x, hx⟩ := hst.grew
        have hLr : SmAt wr g n A := by rw [hx]; exact hL.gx
        have HH := Lib.hid (fun W (h : SmAt W g n A) => Held_any den g n c A (fr + (k : Int) * st) lg W h hn hG P3 P4)
        have hfk : f k = ⟨fr + (k : Int) * st, (heldV g (aheadN g (fr + (k : Int) * st + 1) n) (fr + (k : Int) * st) lg).n, (heldV g (aheadN g (fr + (k : Int) * st + 1) n) (fr + (k : Int) * st) lg).m⟩ := hf k
        generalize heldV g (aheadN g (fr + (k : Int) * st + 1) n) (fr + (k : Int) * st) lg = V at *
        generalize heldB g (aheadN g (fr + (k : Int) * st + 1) n) (fr + (k : Int) * st) lg = bb at *
        obtain ⟨vt, vn, vm⟩ := V
        simp only at HH hfk
        generalize hq : (k : Int) * st = q at *
        generalize ha : fr + q = a at *
        have Hfk : Hid (f k = ⟨a, vn, vm⟩) := hfk
        have HS := Lib.hid hst
        clear hst hx hfk
        go_wp2_with first
          | (go_at_call 58; refine (HH.out _ hLr).mono ?_; rintro e w' ⟨rfl, z, rfl⟩)
          | (at_builtin; (with_reducible apply append_new (o := ⟨some 79, _, _, _, _, _⟩) el_sample w (w.heap.size + 1 + 1) (v := .slice A1 k c1) (n := k) (xs := smC f k) (m := 1) (news := [.int .i64 a, .int .i64 vn, .int .i64 vm])); go_loud (exact rfl; exact rfl; exact rfl; exact rfl; (focus omega); exact (((HS.out.gx (x := z)).alloc (o := (.cells #[.int .i64 a, .int .i64 vn, .int .i64 vm] 61))).alloc (o := (.cells #[.int .i64 a, .int .i64 vn, .int .i64 vm] 61))).own; exact (((HS.out.gx (x := z)).alloc (o := (.cells #[.int .i64 a, .int .i64 vn, .int .i64 vm] 61))).alloc (o := (.cells #[.int .i64 a, .int .i64 vn, .int .i64 vm] 61))).grew; (focus (simp <;> omega)); exact rfl; (focus (repeat (first | (with_reducible assumption) | ((with_reducible apply Shows.whole); focus ((focus (repeat (first | (with_reducible assumption) | (with_reducible exact At.new _ _) | (with_reducible refine At.row ?_) | ((with_reducible refine At.row_other ?_ ?_); rotate_left; (focus (simp <;> omega))) | (with_reducible refine At.app ?_) | (with_reducible refine At.tick ?_) | (with_reducible refine At.gx ?_) | ((with_reducible refine At.new' ?_); focus (simp; done)) | (with_reducible refine At.alloc ?_) | (with_reducible refine At.drew ?_) | (with_reducible exact Is.new _ _ _) | (with_reducible refine Is.row ?_) | ((with_reducible refine Is.row_other ?_ ?_); rotate_left; (focus (simp <;> omega))) | (with_reducible refine Is.gx ?_) | ((with_reducible refine Is.new' ?_); focus (simp; done)) | (with_reducible refine Is.alloc ?_) | (with_reducible refine Is.drew ?_)))); done)) | (with_reducible refine Shows.app ?_) | (with_reducible refine Shows.tick ?_) | (with_reducible refine Shows.gx ?_) | (with_reducible refine Shows.alloc ?_) | (with_reducible refine Shows.drew ?_)))); (focus (simp [Value.oneCell']; done)); (focus (simp only [maxLen]; omega)); (focus omega); rintro v2 W2 hW2 hO2 hg; obtain ⟨A2, c2, rfl, -⟩ := hO2.is; have hM := (((HS.out.gx (x := z)).alloc (o := (.cells #[.int .i64 a, .int .i64 vn, .int .i64 vm] 61))).alloc (o := (.cells #[.int .i64 a, .int .i64 vn, .int .i64 vm] 61))); have hN := RtSt.step hM hW2 hg (by rw [Hfk.out]; exact hO2); have ho := hM.out.grown hg (own_ne_at hM.own hM.out (by decide)); have p1 : W2.cell? ⟨gO, 1, none⟩ = some (.slice A1 k c1) := (by rw [cell_of_row W2 _ _ _ _ _ ho]; rfl); have pf : W2.frozen? ⟨gO, 1, none⟩ = false := ho.frz; have HN := Lib.hid hN; clear hN ho hg hO2 hW2 hM))
        go_roundw
        case rel => exact ⟨k + 1, A2, c2, by omega, by go_num, HN.out⟩
        case measure => simp [intOf]; omega
      · obtain rfl : k = cn := by omega
        have HS := Lib.hid hst
        have qr : wr.cell? ⟨w.heap.size + 1, 0, none⟩ = some (.int .i64 0) := by rw [cell_of_row wr _ _ _ _ _ hst.res]; rfl
        have qr1 : wr.cell? ⟨w.heap.size + 1, 1, none⟩ = some (.slice none 0 0) := by rw [cell_of_row wr _ _ _ _ _ hst.res]; rfl
        have qf0 : wr.frozen? ⟨w.heap.size + 1, 0, none⟩ = false := hst.res.frz
        have qf1 : wr.frozen? ⟨w.heap.size + 1, 1, none⟩ = false := hst.res.frz
        clear hst
        go_wp2
        refine bodyPost_ret (v := .tuple #[serV den A1 k c1, .int .i64 0]) (by simp [results, Tryd.results25, go_sem, qr, qr1]) rfl ?_
        exact RtSt.fin HS.out
end Go.Proofs.YtjlokobgdkkppaaDoor
