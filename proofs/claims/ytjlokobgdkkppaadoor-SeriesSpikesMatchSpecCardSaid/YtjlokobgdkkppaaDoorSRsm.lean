/-
  Resample, the program's: contracts.
-/
import Derived.Test.YtjlokobgdkkppaaDoorSCalb2
namespace Go.Proofs.YtjlokobgdkkppaaDoor
open Go.RowKit
-- AT2
-- AT3

/-- What is wrong with a series and times that are a step apart. -/
def rsE (den : Int) (g : Nat → Sm) (n : Nat) (fr st ct lg : Int) : Int :=
  if holdE den g n fr lg ≠ 0 then holdE den g n fr lg else if ¬ ((1 ≤ st ∧ st ≤ 1099511627776) ∧ (0 ≤ ct ∧ ct ≤ 20000)) then 9 else if 0 < ct ∧ 1099511627776 < fr + (ct - 1) * st then 9 else 0
/-- What is told at the times. -/
def rsF (g : Nat → Sm) (n : Nat) (fr st lg : Int) (k : Nat) : Sm := ⟨fr + (k : Int) * st, (heldV g (aheadN g (fr + (k : Int) * st + 1) n) (fr + (k : Int) * st) lg).n, (heldV g (aheadN g (fr + (k : Int) * st + 1) n) (fr + (k : Int) * st) lg).m⟩
theorem at_ok {fr st : Int} {cn k : Nat} (hs1 : 1 ≤ st) (hf1 : 0 ≤ fr) (_hf2 : fr ≤ 1099511627776) (hsum : 0 < cn → fr + ((cn : Int) - 1) * st ≤ 1099511627776) (hk : k < cn) :
    IntKind.i64.wrap ((k : Int) * st) = (k : Int) * st ∧ IntKind.i64.wrap (fr + (k : Int) * st) = fr + (k : Int) * st ∧ 0 ≤ fr + (k : Int) * st ∧ fr + (k : Int) * st ≤ 1099511627776 := by
  have h1 := hsum (by omega)
  have h2 : (k : Int) * st ≤ ((cn : Int) - 1) * st := Int.mul_le_mul_of_nonneg_right (by omega) (by omega)
  have h3 : 0 ≤ (k : Int) * st := Int.mul_nonneg (by omega) (by omega)
  generalize (k : Int) * st = q at *
  generalize ((cn : Int) - 1) * st = p at *
  exact ⟨IntWalk.i64_in _ (by omega), IntWalk.i64_in _ (by omega), by omega, by omega⟩
/-- What Resample has at hand in its loop. -/
structure RsSt (w wr : World) (gM g8 : Nat) (n k : Nat) (f : Nat → Sm) (sB rB tB : Array Value) : Prop where
  grew : ∃ x, wr = gx w x
  made : MadeAt wr gM n k f
  ser : At wr w.heap.size (.cells sB 24 (0, 0))
  res : At wr (w.heap.size + 1) (.cells rB 24 (0, 0))
  told : At wr g8 (.cells tB 24 (0, 0))
  far : w.heap.size + 1 < gM ∧ w.heap.size + 1 < g8 ∧ gM ≠ g8
theorem RsSt.step {w wr : World} {gM g8 n k : Nat} {f : Nat → Sm} {sB rB tB : Array Value} (h : RsSt w wr gM g8 n k f sB rB tB) (hk : k < n) {o : Obj} {x : Ext} {t' n' m' : Int} (ht : (f k).t = t') (hn : (f k).n = n') (hm : (f k).m = m') :
    RsSt w ((gx (((wr.setCell ⟨gM, k * 3, none⟩ (.int .i64 t')).setCell ⟨gM, k * 3 + 1, none⟩ (.int .i64 n')).setCell ⟨gM, k * 3 + 2, none⟩ (.int .i64 m')) x).alloc o) gM g8 n (k + 1) f sB rB tB := by
  obtain ⟨f1, f2, f3⟩ := h.far
  refine ⟨?_, (h.made.put hk ht hn hm).gx.alloc, ?_, ?_, ?_, h.far⟩
  · exact Gx.alloc (Gx.gx (Gx.setCell (Gx.setCell (Gx.setCell h.grew (by omega)) (by omega)) (by omega)))
  · exact (At.setc_other (At.setc_other (At.setc_other h.ser (by omega)) (by omega)) (by omega)).gx.alloc
  · exact (At.setc_other (At.setc_other (At.setc_other h.res (by omega)) (by omega)) (by omega)).gx.alloc
  · exact (At.setc_other (At.setc_other (At.setc_other h.told f3) f3) f3).gx.alloc
set_option maxHeartbeats 4000000 in
set_option maxRecDepth 100000 in
theorem Resample_go (den : Int) (g : Nat → Sm) (n c : Nat) (A : Option Addr) (fr st lg : Int) (cn : Nat) (w : World) (hL : SmAt w g n A)
    (h0 : holdE den g n fr lg = 0) (hs1 : 1 ≤ st) (hs2 : st ≤ 1099511627776) (hcn : cn ≤ 20000) (hsum : 0 < cn → fr + ((cn : Int) - 1) * st ≤ 1099511627776) (f : Nat → Sm) (hf : ∀ i, f i = rsF g n fr st lg i) :
    Calls Tryd.prog 24 #[serV den A n c, .int .i64 fr, .int .i64 st, .int .i64 cn, .int .i64 lg] w (SerPost w den f cn 0) := by
  obtain ⟨e1, ⟨hf1, hf2⟩, hl1, hl2⟩ := holdE_0 h0
  obtain ⟨_, hn, hG⟩ := goodS_of e1
  have hLw : SmAt ((w.alloc (.cells #[.int .i64 den, .slice A n c] 24)).alloc (.cells #[.int .i64 0, .slice none 0 0] 24)) g n A := hL.alloc.alloc
  have HC := fun W h => checkHold_any den g n c A fr lg W h
  rw [h0] at HC
  clear h0 e1
  obtain ⟨C, hC, hmk⟩ := make_sms cn (by omega)
  have k1 : decide (st < 1) = false := decide_eq_false (by omega)
  have k2 : decide (1099511627776 < st) = false := decide_eq_false (by omega)
  have k3 : decide ((cn : Int) < 0) = false := decide_eq_false (by omega)
  have k4 : decide (20000 < (cn : Int)) = false := decide_eq_false (by omega)
  have HP : Hid (IntKind.i64.wrap ((cn : Int) - 1) = (cn : Int) - 1) := IntWalk.i64_in _ (by omega)
  go_enter Tryd.func24, Tryd.ntmps24
  have hsplit : (decide (0 < cn) = false) ∨ (decide (0 < cn) = true ∧ IntKind.i64.wrap ((cn : Int) - 1) = (cn : Int) - 1 ∧ IntKind.i64.wrap (((cn : Int) - 1) * st) = ((cn : Int) - 1) * st ∧ IntKind.i64.wrap (fr + ((cn : Int) - 1) * st) = fr + ((cn : Int) - 1) * st ∧ decide (1099511627776 < fr + ((cn : Int) - 1) * st) = false) := by
    rcases Nat.eq_zero_or_pos cn with hz | hz
    · exact .inl (decide_eq_false (by omega))
    · have h1 := hsum hz
      have h3 : 0 ≤ ((cn : Int) - 1) * st := Int.mul_nonneg (by omega) (by omega)
      refine .inr ⟨decide_eq_true hz, IntWalk.i64_in _ (by omega), ?_, ?_, ?_⟩
      all_goals generalize ((cn : Int) - 1) * st = q at *
      · exact IntWalk.i64_in _ (by omega)
      · exact IntWalk.i64_in _ (by omega)
      · exact decide_eq_false (by omega)
  rcases hsplit with k5 | ⟨k5, k6, k7, k8, k9⟩
  all_goals go_wp2_with (go_at_call 55; refine (HC _ hLw).mono ?_; rintro e w' ⟨rfl, z1, rfl⟩)
  all_goals go_region
  · rename_i Q' K hK
    refine hK _ _ ?_
    go_wp2
    obtain ⟨gM, hgM⟩ : ∃ gM, gM = w.heap.size + 1 + 1 + (z1.tick 1).n := ⟨_, rfl⟩
    obtain ⟨g8, hg8⟩ : ∃ g8, g8 = w.heap.size + 1 + 1 + (z1.tick 1).n + 1 := ⟨_, rfl⟩
    rw [← hg8, ← hgM]
    have HgM := Lib.hid hgM
    have Hg8 := Lib.hid hg8
    clear hgM hg8
    go_loopw [61] (fun i wr => ∃ k : Nat, k ≤ cn ∧ i = .int .i64 k ∧ RsSt w wr gM g8 cn k f #[.int .i64 den, .slice A n c] #[.int .i64 0, .slice none 0 0] #[.int .i64 den, .slice (some ⟨gM, 0, none⟩) cn cn]) (fun i _ => cn - (intOf i).toNat)
    case atStart =>
      have e1 := HgM.out
      have e2 := Hg8.out
      refine ⟨0, Nat.zero_le _, rfl, ⟨(by repeat (first | (with_reducible exact Gx.refl _) | (with_reducible assumption) | (with_reducible refine Gx.gx ?_) | (with_reducible refine Gx.alloc ?_) | (with_reducible refine Gx.drew ?_) | (with_reducible refine Gx.drewN ?_) | (with_reducible refine Gx.setRow ?_ (by first | omega | (simp; done) | (simp <;> omega))) | (with_reducible refine Gx.setCell ?_ (by first | omega | (simp; done) | (simp <;> omega))))), MadeAt.new (C := C) ?_ hC, ?_, ?_, ?_, by omega⟩⟩
      all_goals first | (refine At.new' ?_; simp; omega) | (refine At.alloc (At.new' ?_); simp; omega) | ((focus (repeat (first | (with_reducible assumption) | (with_reducible exact At.new _ _) | (with_reducible refine At.row ?_) | ((with_reducible refine At.row_other ?_ ?_); rotate_left; (focus (simp <;> omega))) | (with_reducible refine At.app ?_) | (with_reducible refine At.tick ?_) | (with_reducible refine At.gx ?_) | ((with_reducible refine At.new' ?_); focus (simp; done)) | (with_reducible refine At.alloc ?_) | (with_reducible refine At.drew ?_) | (with_reducible exact Is.new _ _ _) | (with_reducible refine Is.row ?_) | ((with_reducible refine Is.row_other ?_ ?_); rotate_left; (focus (simp <;> omega))) | (with_reducible refine Is.gx ?_) | ((with_reducible refine Is.new' ?_); focus (simp; done)) | (with_reducible refine Is.alloc ?_) | (with_reducible refine Is.drew ?_)))); done)
    case round =>
      obtain ⟨k, hk, rfl, hst⟩ := hrel
      have q8 : wr.cell? ⟨g8, 1, none⟩ = some (.slice (some ⟨gM, 0, none⟩) cn cn) := by rw [cell_of_row wr _ _ _ _ _ hst.told]; rfl
      have hl8 : g8 < wr.heap.size := hst.told.lt
      have hlM : gM < wr.heap.size := hst.made.lt
      by_cases hlt : k < cn
      · obtain ⟨P1, P2, P3, P4⟩ := at_ok hs1 hf1 hf2 hsum hlt
        have hkz : (k : Int) < (cn : Int) := by omega
        have s1 : wr.cell? ⟨w.heap.size, 1, none⟩ = some (.slice A n c) := by rw [cell_of_row wr _ _ _ _ _ hst.ser]; rfl
        have hlw0 : w.heap.size < wr.heap.size := hst.ser.lt
        obtain ⟨x, hx⟩ := hst.grew
        have hLr : SmAt wr g n A := by rw [hx]; exact hL.gx
        have HH := Lib.hid (fun W (h : SmAt W g n A) => hold_any g n c A (fr + (k : Int) * st) lg W h hn hG P3 P4 hl1 hl2)
        have hfk : f k = ⟨fr + (k : Int) * st, (heldV g (aheadN g (fr + (k : Int) * st + 1) n) (fr + (k : Int) * st) lg).n, (heldV g (aheadN g (fr + (k : Int) * st + 1) n) (fr + (k : Int) * st) lg).m⟩ := hf k
        have P2' := P2
        generalize heldV g (aheadN g (fr + (k : Int) * st + 1) n) (fr + (k : Int) * st) lg = V at *
        generalize heldB g (aheadN g (fr + (k : Int) * st + 1) n) (fr + (k : Int) * st) lg = bb at *
        obtain ⟨vt, vn, vm⟩ := V
        simp only at HH hfk
        generalize hq : (k : Int) * st = q at *
        generalize ha : fr + q = a at *
        have Hfk := Lib.hid hfk
        obtain ⟨a0, ha0⟩ := hst.made.all (k * 3) (by omega)
        obtain ⟨a1, ha1⟩ := hst.made.all (k * 3 + 1) (by omega)
        obtain ⟨a2, ha2⟩ := hst.made.all (k * 3 + 2) (by omega)
        have fz0 := hst.made.frz (o := k * 3)
        have fz1 := hst.made.frz (o := k * 3 + 1)
        have fz2 := hst.made.frz (o := k * 3 + 2)
        have HS := Lib.hid hst
        clear hst hx hfk P2'
        go_wp2_with (go_at_call 56; refine (HH.out _ hLr).mono ?_; rintro e w' ⟨rfl, z, rfl⟩)
        go_roundw
        case rel => exact ⟨k + 1, by omega, by go_num, HS.out.step hlt (by rw [Hfk.out]) (by rw [Hfk.out]) (by rw [Hfk.out])⟩
        case measure => simp [intOf]; omega
      · obtain rfl : k = cn := by omega
        have qr : wr.cell? ⟨w.heap.size + 1, 0, none⟩ = some (.int .i64 0) := by rw [cell_of_row wr _ _ _ _ _ hst.res]; rfl
        have qr1 : wr.cell? ⟨w.heap.size + 1, 1, none⟩ = some (.slice none 0 0) := by rw [cell_of_row wr _ _ _ _ _ hst.res]; rfl
        have q80 : wr.cell? ⟨g8, 0, none⟩ = some (.int .i64 den) := by rw [cell_of_row wr _ _ _ _ _ hst.told]; rfl
        have qf : ∀ o, wr.frozen? ⟨w.heap.size + 1, o, none⟩ = false := fun o => hst.res.frz
        have qf0 := qf 0
        have qf1 := qf 1
        have HS := Lib.hid hst
        have hlr : w.heap.size + 1 < wr.heap.size := hst.res.lt
        have hne : gM ≠ w.heap.size + 1 := by have := hst.far.1; omega
        clear hst qf
        go_wp2
        refine bodyPost_ret (v := .tuple #[serV den (some ⟨gM, 0, none⟩) k k, .int .i64 0]) (by simp [results, Tryd.results24, go_sem, qr, qr1]) rfl ?_
        exact SerPost.mk (Gx.setCell (Gx.setCell HS.out.grew (by omega)) (by omega)) ((HS.out.made.far (Ne.symm hne)).far (Ne.symm hne)).sm
  · rename_i Q' K hK
    refine hK _ _ ?_
    go_wp2
    obtain ⟨gM, hgM⟩ : ∃ gM, gM = w.heap.size + 1 + 1 + (z1.tick 1).n + 1 := ⟨_, rfl⟩
    obtain ⟨g8, hg8⟩ : ∃ g8, g8 = w.heap.size + 1 + 1 + (z1.tick 1).n := ⟨_, rfl⟩
    rw [← hgM, ← hg8]
    have HgM := Lib.hid hgM
    have Hg8 := Lib.hid hg8
    clear hgM hg8
    go_loopw [61] (fun i wr => ∃ k : Nat, k ≤ cn ∧ i = .int .i64 k ∧ RsSt w wr gM g8 cn k f #[.int .i64 den, .slice A n c] #[.int .i64 0, .slice none 0 0] #[.int .i64 den, .slice (some ⟨gM, 0, none⟩) cn cn]) (fun i _ => cn - (intOf i).toNat)
    case atStart =>
      have e1 := HgM.out
      have e2 := Hg8.out
      refine ⟨0, Nat.zero_le _, rfl, ⟨(by repeat (first | (with_reducible exact Gx.refl _) | (with_reducible assumption) | (with_reducible refine Gx.gx ?_) | (with_reducible refine Gx.alloc ?_) | (with_reducible refine Gx.drew ?_) | (with_reducible refine Gx.drewN ?_) | (with_reducible refine Gx.setRow ?_ (by first | omega | (simp; done) | (simp <;> omega))) | (with_reducible refine Gx.setCell ?_ (by first | omega | (simp; done) | (simp <;> omega))))), MadeAt.new (C := C) ?_ hC, ?_, ?_, ?_, by omega⟩⟩
      all_goals first | (refine At.new' ?_; simp; omega) | (refine At.alloc (At.new' ?_); simp; omega) | ((focus (repeat (first | (with_reducible assumption) | (with_reducible exact At.new _ _) | (with_reducible refine At.row ?_) | ((with_reducible refine At.row_other ?_ ?_); rotate_left; (focus (simp <;> omega))) | (with_reducible refine At.app ?_) | (with_reducible refine At.tick ?_) | (with_reducible refine At.gx ?_) | ((with_reducible refine At.new' ?_); focus (simp; done)) | (with_reducible refine At.alloc ?_) | (with_reducible refine At.drew ?_) | (with_reducible exact Is.new _ _ _) | (with_reducible refine Is.row ?_) | ((with_reducible refine Is.row_other ?_ ?_); rotate_left; (focus (simp <;> omega))) | (with_reducible refine Is.gx ?_) | ((with_reducible refine Is.new' ?_); focus (simp; done)) | (with_reducible refine Is.alloc ?_) | (with_reducible refine Is.drew ?_)))); done)
    case round =>
      obtain ⟨k, hk, rfl, hst⟩ := hrel
      have q8 : wr.cell? ⟨g8, 1, none⟩ = some (.slice (some ⟨gM, 0, none⟩) cn cn) := by rw [cell_of_row wr _ _ _ _ _ hst.told]; rfl
      have hl8 : g8 < wr.heap.size := hst.told.lt
      have hlM : gM < wr.heap.size := hst.made.lt
      by_cases hlt : k < cn
      · obtain ⟨P1, P2, P3, P4⟩ := at_ok hs1 hf1 hf2 hsum hlt
        have hkz : (k : Int) < (cn : Int) := by omega
        have s1 : wr.cell? ⟨w.heap.size, 1, none⟩ = some (.slice A n c) := by rw [cell_of_row wr _ _ _ _ _ hst.ser]; rfl
        have hlw0 : w.heap.size < wr.heap.size := hst.ser.lt
        obtain ⟨x, hx⟩ := hst.grew
        have hLr : SmAt wr g n A := by rw [hx]; exact hL.gx
        have HH := Lib.hid (fun W (h : SmAt W g n A) => hold_any g n c A (fr + (k : Int) * st) lg W h hn hG P3 P4 hl1 hl2)
        have hfk : f k = ⟨fr + (k : Int) * st, (heldV g (aheadN g (fr + (k : Int) * st + 1) n) (fr + (k : Int) * st) lg).n, (heldV g (aheadN g (fr + (k : Int) * st + 1) n) (fr + (k : Int) * st) lg).m⟩ := hf k
        have P2' := P2
        generalize heldV g (aheadN g (fr + (k : Int) * st + 1) n) (fr + (k : Int) * st) lg = V at *
        generalize heldB g (aheadN g (fr + (k : Int) * st + 1) n) (fr + (k : Int) * st) lg = bb at *
        obtain ⟨vt, vn, vm⟩ := V
        simp only at HH hfk
        generalize hq : (k : Int) * st = q at *
        generalize ha : fr + q = a at *
        have Hfk := Lib.hid hfk
        obtain ⟨a0, ha0⟩ := hst.made.all (k * 3) (by omega)
        obtain ⟨a1, ha1⟩ := hst.made.all (k * 3 + 1) (by omega)
        obtain ⟨a2, ha2⟩ := hst.made.all (k * 3 + 2) (by omega)
        have fz0 := hst.made.frz (o := k * 3)
        have fz1 := hst.made.frz (o := k * 3 + 1)
        have fz2 := hst.made.frz (o := k * 3 + 2)
        have HS := Lib.hid hst
        clear hst hx hfk P2'
        go_wp2_with (go_at_call 56; refine (HH.out _ hLr).mono ?_; rintro e w' ⟨rfl, z, rfl⟩)
        go_roundw
        case rel => exact ⟨k + 1, by omega, by go_num, HS.out.step hlt (by rw [Hfk.out]) (by rw [Hfk.out]) (by rw [Hfk.out])⟩
        case measure => simp [intOf]; omega
      · obtain rfl : k = cn := by omega
        have qr : wr.cell? ⟨w.heap.size + 1, 0, none⟩ = some (.int .i64 0) := by rw [cell_of_row wr _ _ _ _ _ hst.res]; rfl
        have qr1 : wr.cell? ⟨w.heap.size + 1, 1, none⟩ = some (.slice none 0 0) := by rw [cell_of_row wr _ _ _ _ _ hst.res]; rfl
        have q80 : wr.cell? ⟨g8, 0, none⟩ = some (.int .i64 den) := by rw [cell_of_row wr _ _ _ _ _ hst.told]; rfl
        have qf : ∀ o, wr.frozen? ⟨w.heap.size + 1, o, none⟩ = false := fun o => hst.res.frz
        have qf0 := qf 0
        have qf1 := qf 1
        have HS := Lib.hid hst
        have hlr : w.heap.size + 1 < wr.heap.size := hst.res.lt
        have hne : gM ≠ w.heap.size + 1 := by have := hst.far.1; omega
        clear hst qf
        go_wp2
        refine bodyPost_ret (v := .tuple #[serV den (some ⟨gM, 0, none⟩) k k, .int .i64 0]) (by simp [results, Tryd.results24, go_sem, qr, qr1]) rfl ?_
        exact SerPost.mk (Gx.setCell (Gx.setCell HS.out.grew (by omega)) (by omega)) ((HS.out.made.far (Ne.symm hne)).far (Ne.symm hne)).sm
  · rename_i Q' K hK
    refine hK _ _ ?_
    go_wp2
    obtain ⟨gM, hgM⟩ : ∃ gM, gM = w.heap.size + 1 + 1 + (z1.tick 1).n := ⟨_, rfl⟩
    obtain ⟨g8, hg8⟩ : ∃ g8, g8 = w.heap.size + 1 + 1 + (z1.tick 1).n + 1 := ⟨_, rfl⟩
    rw [← hg8, ← hgM]
    have HgM := Lib.hid hgM
    have Hg8 := Lib.hid hg8
    clear hgM hg8
    go_loopw [61] (fun i wr => ∃ k : Nat, k ≤ cn ∧ i = .int .i64 k ∧ RsSt w wr gM g8 cn k f #[.int .i64 den, .slice A n c] #[.int .i64 0, .slice none 0 0] #[.int .i64 den, .slice (some ⟨gM, 0, none⟩) cn cn]) (fun i _ => cn - (intOf i).toNat)
    case atStart =>
      have e1 := HgM.out
      have e2 := Hg8.out
      refine ⟨0, Nat.zero_le _, rfl, ⟨(by repeat (first | (with_reducible exact Gx.refl _) | (with_reducible assumption) | (with_reducible refine Gx.gx ?_) | (with_reducible refine Gx.alloc ?_) | (with_reducible refine Gx.drew ?_) | (with_reducible refine Gx.drewN ?_) | (with_reducible refine Gx.setRow ?_ (by first | omega | (simp; done) | (simp <;> omega))) | (with_reducible refine Gx.setCell ?_ (by first | omega | (simp; done) | (simp <;> omega))))), MadeAt.new (C := C) ?_ hC, ?_, ?_, ?_, by omega⟩⟩
      all_goals first | (refine At.new' ?_; simp; omega) | (refine At.alloc (At.new' ?_); simp; omega) | ((focus (repeat (first | (with_reducible assumption) | (with_reducible exact At.new _ _) | (with_reducible refine At.row ?_) | ((with_reducible refine At.row_other ?_ ?_); rotate_left; (focus (simp <;> omega))) | (with_reducible refine At.app ?_) | (with_reducible refine At.tick ?_) | (with_reducible refine At.gx ?_) | ((with_reducible refine At.new' ?_); focus (simp; done)) | (with_reducible refine At.alloc ?_) | (with_reducible refine At.drew ?_) | (with_reducible exact Is.new _ _ _) | (with_reducible refine Is.row ?_) | ((with_reducible refine Is.row_other ?_ ?_); rotate_left; (focus (simp <;> omega))) | (with_reducible refine Is.gx ?_) | ((with_reducible refine Is.new' ?_); focus (simp; done)) | (with_reducible refine Is.alloc ?_) | (with_reducible refine Is.drew ?_)))); done)
    case round =>
      obtain ⟨k, hk, rfl, hst⟩ := hrel
      have q8 : wr.cell? ⟨g8, 1, none⟩ = some (.slice (some ⟨gM, 0, none⟩) cn cn) := by rw [cell_of_row wr _ _ _ _ _ hst.told]; rfl
      have hl8 : g8 < wr.heap.size := hst.told.lt
      have hlM : gM < wr.heap.size := hst.made.lt
      by_cases hlt : k < cn
      · obtain ⟨P1, P2, P3, P4⟩ := at_ok hs1 hf1 hf2 hsum hlt
        have hkz : (k : Int) < (cn : Int) := by omega
        have s1 : wr.cell? ⟨w.heap.size, 1, none⟩ = some (.slice A n c) := by rw [cell_of_row wr _ _ _ _ _ hst.ser]; rfl
        have hlw0 : w.heap.size < wr.heap.size := hst.ser.lt
        obtain ⟨x, hx⟩ := hst.grew
        have hLr : SmAt wr g n A := by rw [hx]; exact hL.gx
        have HH := Lib.hid (fun W (h : SmAt W g n A) => hold_any g n c A (fr + (k : Int) * st) lg W h hn hG P3 P4 hl1 hl2)
        have hfk : f k = ⟨fr + (k : Int) * st, (heldV g (aheadN g (fr + (k : Int) * st + 1) n) (fr + (k : Int) * st) lg).n, (heldV g (aheadN g (fr + (k : Int) * st + 1) n) (fr + (k : Int) * st) lg).m⟩ := hf k
        have P2' := P2
        generalize heldV g (aheadN g (fr + (k : Int) * st + 1) n) (fr + (k : Int) * st) lg = V at *
        generalize heldB g (aheadN g (fr + (k : Int) * st + 1) n) (fr + (k : Int) * st) lg = bb at *
        obtain ⟨vt, vn, vm⟩ := V
        simp only at HH hfk
        generalize hq : (k : Int) * st = q at *
        generalize ha : fr + q = a at *
        have Hfk := Lib.hid hfk
        obtain ⟨a0, ha0⟩ := hst.made.all (k * 3) (by omega)
        obtain ⟨a1, ha1⟩ := hst.made.all (k * 3 + 1) (by omega)
        obtain ⟨a2, ha2⟩ := hst.made.all (k * 3 + 2) (by omega)
        have fz0 := hst.made.frz (o := k * 3)
        have fz1 := hst.made.frz (o := k * 3 + 1)
        have fz2 := hst.made.frz (o := k * 3 + 2)
        have HS := Lib.hid hst
        clear hst hx hfk P2'
        go_wp2_with (go_at_call 56; refine (HH.out _ hLr).mono ?_; rintro e w' ⟨rfl, z, rfl⟩)
        go_roundw
        case rel => exact ⟨k + 1, by omega, by go_num, HS.out.step hlt (by rw [Hfk.out]) (by rw [Hfk.out]) (by rw [Hfk.out])⟩
        case measure => simp [intOf]; omega
      · obtain rfl : k = cn := by omega
        have qr : wr.cell? ⟨w.heap.size + 1, 0, none⟩ = some (.int .i64 0) := by rw [cell_of_row wr _ _ _ _ _ hst.res]; rfl
        have qr1 : wr.cell? ⟨w.heap.size + 1, 1, none⟩ = some (.slice none 0 0) := by rw [cell_of_row wr _ _ _ _ _ hst.res]; rfl
        have q80 : wr.cell? ⟨g8, 0, none⟩ = some (.int .i64 den) := by rw [cell_of_row wr _ _ _ _ _ hst.told]; rfl
        have qf : ∀ o, wr.frozen? ⟨w.heap.size + 1, o, none⟩ = false := fun o => hst.res.frz
        have qf0 := qf 0
        have qf1 := qf 1
        have HS := Lib.hid hst
        have hlr : w.heap.size + 1 < wr.heap.size := hst.res.lt
        have hne : gM ≠ w.heap.size + 1 := by have := hst.far.1; omega
        clear hst qf
        go_wp2
        refine bodyPost_ret (v := .tuple #[serV den (some ⟨gM, 0, none⟩) k k, .int .i64 0]) (by simp [results, Tryd.results24, go_sem, qr, qr1]) rfl ?_
        exact SerPost.mk (Gx.setCell (Gx.setCell HS.out.grew (by omega)) (by omega)) ((HS.out.made.far (Ne.symm hne)).far (Ne.symm hne)).sm
  · rename_i Q' K hK
    refine hK _ _ ?_
    go_wp2
    obtain ⟨gM, hgM⟩ : ∃ gM, gM = w.heap.size + 1 + 1 + (z1.tick 1).n + 1 := ⟨_, rfl⟩
    obtain ⟨g8, hg8⟩ : ∃ g8, g8 = w.heap.size + 1 + 1 + (z1.tick 1).n := ⟨_, rfl⟩
    rw [← hgM, ← hg8]
    have HgM := Lib.hid hgM
    have Hg8 := Lib.hid hg8
    clear hgM hg8
    go_loopw [61] (fun i wr => ∃ k : Nat, k ≤ cn ∧ i = .int .i64 k ∧ RsSt w wr gM g8 cn k f #[.int .i64 den, .slice A n c] #[.int .i64 0, .slice none 0 0] #[.int .i64 den, .slice (some ⟨gM, 0, none⟩) cn cn]) (fun i _ => cn - (intOf i).toNat)
    case atStart =>
      have e1 := HgM.out
      have e2 := Hg8.out
      refine ⟨0, Nat.zero_le _, rfl, ⟨(by repeat (first | (with_reducible exact Gx.refl _) | (with_reducible assumption) | (with_reducible refine Gx.gx ?_) | (with_reducible refine Gx.alloc ?_) | (with_reducible refine Gx.drew ?_) | (with_reducible refine Gx.drewN ?_) | (with_reducible refine Gx.setRow ?_ (by first | omega | (simp; done) | (simp <;> omega))) | (with_reducible refine Gx.setCell ?_ (by first | omega | (simp; done) | (simp <;> omega))))), MadeAt.new (C := C) ?_ hC, ?_, ?_, ?_, by omega⟩⟩
      all_goals first | (refine At.new' ?_; simp; omega) | (refine At.alloc (At.new' ?_); simp; omega) | ((focus (repeat (first | (with_reducible assumption) | (with_reducible exact At.new _ _) | (with_reducible refine At.row ?_) | ((with_reducible refine At.row_other ?_ ?_); rotate_left; (focus (simp <;> omega))) | (with_reducible refine At.app ?_) | (with_reducible refine At.tick ?_) | (with_reducible refine At.gx ?_) | ((with_reducible refine At.new' ?_); focus (simp; done)) | (with_reducible refine At.alloc ?_) | (with_reducible refine At.drew ?_) | (with_reducible exact Is.new _ _ _) | (with_reducible refine Is.row ?_) | ((with_reducible refine Is.row_other ?_ ?_); rotate_left; (focus (simp <;> omega))) | (with_reducible refine Is.gx ?_) | ((with_reducible refine Is.new' ?_); focus (simp; done)) | (with_reducible refine Is.alloc ?_) | (with_reducible refine Is.drew ?_)))); done)
    case round =>
      obtain ⟨k, hk, rfl, hst⟩ := hrel
      have q8 : wr.cell? ⟨g8, 1, none⟩ = some (.slice (some ⟨gM, 0, none⟩) cn cn) := by rw [cell_of_row wr _ _ _ _ _ hst.told]; rfl
      have hl8 : g8 < wr.heap.size := hst.told.lt
      have hlM : gM < wr.heap.size := hst.made.lt
      by_cases hlt : k < cn
      · obtain ⟨P1, P2, P3, P4⟩ := at_ok hs1 hf1 hf2 hsum hlt
        have hkz : (k : Int) < (cn : Int) := by omega
        have s1 : wr.cell? ⟨w.heap.size, 1, none⟩ = some (.slice A n c) := by rw [cell_of_row wr _ _ _ _ _ hst.ser]; rfl
        have hlw0 : w.heap.size < wr.heap.size := hst.ser.lt
        obtain ⟨x, hx⟩ := hst.grew
        have hLr : SmAt wr g n A := by rw [hx]; exact hL.gx
        have HH := Lib.hid (fun W (h : SmAt W g n A) => hold_any g n c A (fr + (k : Int) * st) lg W h hn hG P3 P4 hl1 hl2)
        have hfk : f k = ⟨fr + (k : Int) * st, (heldV g (aheadN g (fr + (k : Int) * st + 1) n) (fr + (k : Int) * st) lg).n, (heldV g (aheadN g (fr + (k : Int) * st + 1) n) (fr + (k : Int) * st) lg).m⟩ := hf k
        have P2' := P2
        generalize heldV g (aheadN g (fr + (k : Int) * st + 1) n) (fr + (k : Int) * st) lg = V at *
        generalize heldB g (aheadN g (fr + (k : Int) * st + 1) n) (fr + (k : Int) * st) lg = bb at *
        obtain ⟨vt, vn, vm⟩ := V
        simp only at HH hfk
        generalize hq : (k : Int) * st = q at *
        generalize ha : fr + q = a at *
        have Hfk := Lib.hid hfk
        obtain ⟨a0, ha0⟩ := hst.made.all (k * 3) (by omega)
        obtain ⟨a1, ha1⟩ := hst.made.all (k * 3 + 1) (by omega)
        obtain ⟨a2, ha2⟩ := hst.made.all (k * 3 + 2) (by omega)
        have fz0 := hst.made.frz (o := k * 3)
        have fz1 := hst.made.frz (o := k * 3 + 1)
        have fz2 := hst.made.frz (o := k * 3 + 2)
        have HS := Lib.hid hst
        clear hst hx hfk P2'
        go_wp2_with (go_at_call 56; refine (HH.out _ hLr).mono ?_; rintro e w' ⟨rfl, z, rfl⟩)
        go_roundw
        case rel => exact ⟨k + 1, by omega, by go_num, HS.out.step hlt (by rw [Hfk.out]) (by rw [Hfk.out]) (by rw [Hfk.out])⟩
        case measure => simp [intOf]; omega
      · obtain rfl : k = cn := by omega
        have qr : wr.cell? ⟨w.heap.size + 1, 0, none⟩ = some (.int .i64 0) := by rw [cell_of_row wr _ _ _ _ _ hst.res]; rfl
        have qr1 : wr.cell? ⟨w.heap.size + 1, 1, none⟩ = some (.slice none 0 0) := by rw [cell_of_row wr _ _ _ _ _ hst.res]; rfl
        have q80 : wr.cell? ⟨g8, 0, none⟩ = some (.int .i64 den) := by rw [cell_of_row wr _ _ _ _ _ hst.told]; rfl
        have qf : ∀ o, wr.frozen? ⟨w.heap.size + 1, o, none⟩ = false := fun o => hst.res.frz
        have qf0 := qf 0
        have qf1 := qf 1
        have HS := Lib.hid hst
        have hlr : w.heap.size + 1 < wr.heap.size := hst.res.lt
        have hne : gM ≠ w.heap.size + 1 := by have := hst.far.1; omega
        clear hst qf
        go_wp2
        refine bodyPost_ret (v := .tuple #[serV den (some ⟨gM, 0, none⟩) k k, .int .i64 0]) (by simp [results, Tryd.results24, go_sem, qr, qr1]) rfl ?_
        exact SerPost.mk (Gx.setCell (Gx.setCell HS.out.grew (by omega)) (by omega)) ((HS.out.made.far (Ne.symm hne)).far (Ne.symm hne)).sm
end Go.Proofs.YtjlokobgdkkppaaDoor
