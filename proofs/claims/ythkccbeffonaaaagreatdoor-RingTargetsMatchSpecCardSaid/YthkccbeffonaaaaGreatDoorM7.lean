/-
  Texts that this claim leans on, merged: GGuard, GEqI, GLawT, Lift.
-/
import Derived.Test.YthkccbeffonaaaaGreatDoorCards
import Derived.Test.YthkccbeffonaaaaGreatDoorTie
import Derived.ProofKit
import Derived.OpenShut
import Derived.Deep.DeepHandedRow
import Derived.Lib.LaidTab
import Derived.Test.YthkccbeffonaaaaGreatDoorM6
import Derived.Test.YthkccbeffonaaaaGreatDoorM3
import Derived.Test.YthkccbeffonaaaaGreatDoorM2

/-
  kept() of the laws of package ring: it holds.
-/
namespace Go.Proofs.YthkccbeffonaaaaGreatDoor
open Go.RowKit
-- AT2

def keptF : List Int := newF zeroF 4 (zerosI 58)
theorem keptE : newE 4 (zerosI 58) = 0 := by decide +kernel
theorem kept_made : Made 4 (zerosI 58) keptF := (made_of keptE).1
theorem kept_wide : wideB keptF = false := by decide +kernel
theorem kept_read : rdF ((doneB (16 + 97 * 1) (packF keptF)).drop 16) = keptF := by decide +kernel
theorem keptF_eq : newF zeroF 4 (zerosI 58) = keptF := rfl
attribute [irreducible] keptF
def mA : PM := blankM 2 1 3
def mB : PM := { mA with wear := mA.wear.set 0 (gw mA.wear 0 + 1), sec := mA.sec.set 0 (doneB (16 + 97 * mA.slots) (packF keptF)) }
theorem mA_s (k : Nat) (hk : k < 2) : mA.s k = onesB 113 := by
  unfold PM.s mA blankM
  match k, hk with
  | 0, _ => rfl
  | 1, _ => rfl
theorem mA_out (k : Nat) (hk : 2 ≤ k) : mA.s k = [] := by
  unfold PM.s mA blankM
  simp only [List.getD]
  rw [List.getElem?_eq_none (by simp; omega)]
  rfl
theorem mA_wear (k : Nat) : gw mA.wear k = 0 := by unfold mA blankM; exact zerosI_get 2 k
theorem mA_good : Good mA := by
  have hl : mA.sec.length = 2 := rfl
  refine ⟨by rw [hl]; unfold sizesOk mA blankM; decide, by unfold mA blankM; simp [zerosI_len], by unfold mA blankM; simp, fun i hi => by rw [mA_s i (by omega), onesB_len]; rfl, fun i hi => by rw [mA_wear]; unfold mA blankM; decide, fun i => ?_⟩
  rcases Nat.lt_or_ge i 2 with h | h
  · rw [mA_s i h]; exact onesB_bs _
  · rw [mA_out i h]; exact nil_bs
theorem mA_wl : mA.wear.length = 2 := zerosI_len 2
theorem ones_no : NoHead (onesB 113) := by
  refine .inr ?_
  decide +kernel
theorem mA_no : ∀ k, k < mA.sec.length → NoHead (mA.s k) := fun k hk => by
  rw [mA_s k (by have : mA.sec.length = 2 := rfl; omega)]
  exact ones_no
theorem mB_s0 : mB.s 0 = doneB (16 + 97 * mB.slots) (packF keptF) := by unfold PM.s mB mA blankM; rfl
theorem mB_s (k : Nat) (hk : 0 < k) : mB.s k = mA.s k := by
  unfold PM.s mB
  simp only [List.getD]
  rw [List.getElem?_set_ne (by omega)]
theorem mB_wear (k : Nat) : 0 ≤ gw mB.wear k ∧ gw mB.wear k ≤ 1 := by
  have e : mB.wear = (zerosI 2).set 0 (gw (zerosI 2) 0 + 1) := rfl
  rw [e, gw_set _ _ _ _ (by rw [zerosI_len]; decide), zerosI_get, zerosI_get]
  split <;> decide
theorem mB_good : Good mB := by
  have hl : mB.sec.length = 2 := rfl
  have hP : Bs (packF keptF) := FrBs kept_made.fr kept_made.narrow
  refine ⟨by rw [hl]; show sizesOk ((2 : Nat) : Int) ((1 : Nat) : Int) 3; unfold sizesOk; decide, by show ((zerosI 2).set 0 (gw (zerosI 2) 0 + 1)).length = 2; rw [List.length_set, zerosI_len], rfl, fun i hi => ?_, fun i hi => ?_, fun i => ?_⟩
  · rcases Nat.eq_zero_or_pos i with rfl | h
    · rw [mB_s0]
      show (doneB (16 + 97 * 1) (packF keptF)).length = 16 + 97 * 1
      unfold doneB slotB
      rw [wrB_len, wrB_len, headed_len (by omega)]
    · rw [mB_s i h]; exact mA_good.len i hi
  · have := mB_wear i
    exact ⟨this.1, by have e : mB.limit = 3 := rfl; rw [e]; omega⟩
  · rcases Nat.eq_zero_or_pos i with rfl | h
    · rw [mB_s0]; exact done_bs (by show 113 ≤ 16 + 97 * 1; omega) hP
    · rw [mB_s i h]; exact mA_good.bs i
theorem mB_no : ∀ k, 0 < k → k < mB.sec.length → NoHead (mB.s k) := fun k h0 hk => by
  rw [mB_s k h0]
  exact mA_no k hk
theorem Own.addr {b : Nat} {W : World} {e : TypeId} {size n c : Nat} {A : Option Addr} {xs : List Value} (h : Own b W e size (.slice A n c) n xs) (h0 : 0 < n) : ∃ g, A = some ⟨g, 0, none⟩ := by
  rcases h.out.2 with ⟨e, rfl⟩ | ⟨g, cap, cur, e, _⟩
  · omega
  · simp only [Value.slice.injEq] at e
    exact ⟨g, e.1⟩
theorem quiet_frm {ops : Array Oper} {C : World → Prop} {Q : Act → Prop} {a : Act} {o : Oper} {rest : List Oper} (hw : Region.wanted o (yielded ops a.tmps) = true) (x : Operand) (ho : o.op = .load 57 x)
    (g q : Nat) (hx : a.eval x = .pointer (some ⟨g, q, none⟩)) (F : List Int) (hl : F.length = 64) (hC : ∀ w, C w → w.rangeAt g q (F.map (Value.int .u16)))
    (h : wpQuiet Tryz.prog ops C Q rest (a.put o.dst (.agg (fc F)))) : wpQuiet Tryz.prog ops C Q (o :: rest) a := by
  refine BigFrame.wpQuiet_want hw fun K hK => ⟨.agg (fc F), fun w hw' => ?_, hK _ h⟩
  unfold Oper.quietAt execOp
  simp only [ho, hx, Instr.loadAt, Instr.sureAddr, Sem.run_bind, Sem.run_pure, Result.andThen_ok, run_loadVar_mid w g _ _ _ _ (hC w hw') Tryz.underlying57 rfl (by rw [List.length_map, hl]; kernel_rfl)]
  exact ⟨rfl, rfl⟩
/-- NewMemory(2, 1, 3). -/
theorem NewMemory_A (w : World) : Calls Tryz.prog 15 #[.int .i64 2, .int .i64 1, .int .i64 3] w fun e w' => ∃ gS A1 A2 c1 c2 x, e = .returned (.tuple #[.agg #[.int .i64 1, .int .i64 3, .slice (some ⟨gS, 0, none⟩) 2 2, .slice A1 2 c1, .slice A2 2 c2], .int .i64 0]) ∧ w' = gx w x ∧ RM (gx w x) mA (some ⟨gS, 0, none⟩) A1 A2 := by
  refine (NewMemory_ok 2 1 3 (by unfold sizesOk; decide) w).mono ?_
  rintro e w' ⟨gS, vW, vB, Z, x, rfl, rfl, hO⟩
  obtain ⟨A1, c1, rfl, -⟩ := hO.wear.is
  obtain ⟨A2, c2, rfl, -⟩ := hO.bad.is
  refine ⟨gS, A1, A2, c1, c2, x, ?_, rfl, OMem.rm mA_good hO⟩
  have e1 : (blankM 2 1 3).wear.length = 2 := by unfold blankM; exact zerosI_len 2
  have e2 : (blankM 2 1 3).bad.length = 2 := rfl
  have e3 : (blankM 2 1 3).sec.length = 2 := rfl
  unfold oV
  rw [e1, e2, e3]
  rfl
theorem five_at {W : World} {g : Nat} {m : PM} {A B C : Option Addr} {a b c : Nat} {cs : Array Value} (hA : At W g (.cells cs 26 (0, 0))) (h : cs = #[.int .i64 m.slots, .int .i64 m.limit, .slice A m.sec.length a, .slice B m.wear.length b, .slice C m.bad.length c]) : Five W g 0 m A B C a b c := by
  subst h
  exact ⟨by rw [cell_of_row _ _ _ _ _ _ hA]; rfl, by rw [cell_of_row _ _ _ _ _ _ hA]; rfl, by rw [cell_of_row _ _ _ _ _ _ hA]; rfl, by rw [cell_of_row _ _ _ _ _ _ hA]; rfl, by rw [cell_of_row _ _ _ _ _ _ hA]; rfl⟩
set_option maxHeartbeats 2000000 in
set_option maxRecDepth 100000 in
theorem keptGuard (w : World) (hT : Tab w) : Calls Tryz.prog 18 #[] w fun e w' => e = .returned (.bool true) ∧ ∃ x, w' = gx w x := by
  have hM := kept_made
  have hl : keptF.length = 64 := hM.fr.len
  have he := eqF_self keptF
  have hz := zeroF_len
  have HN : Hid (∀ (b : Nat) (W : World), Tab W → (∀ j, j < 58 → W.cell? ⟨b, 0 + j, none⟩ = some (.int .i64 (gw (zerosI 58) j))) → Calls Tryz.prog 80 #[.int .i64 4, .slice (some ⟨b, 0, none⟩) 58 58] W fun e w' => e = .returned (.tuple #[.agg (fc keptF), .int .i64 0]) ∧ ∃ x, w' = gx W x) := Lib.hid (fun b W hT hc => by
    have h := RNew_any 4 (zerosI 58) (some ⟨b, 0, none⟩) 58 W hT (fun _ => ⟨b, 0, rfl, hc⟩)
    rw [zerosI_len, keptF_eq, keptE] at h
    exact h)
  have hn0 : 0 ≤ numI keptF := by rw [hM.num]; decide
  have hn1 : numI keptF < 4194304 := by rw [hM.num]; decide
  have HRec : Hid (∀ {wk : World} {b : Nat} {W : World} {gr gm gS gs : Nat} {A1 A2 : Option Addr} {c1 c2 c3 : Nat} {Z : List (Nat × List Int)} {last : Int}, (∃ x, wk = gx w x) → (∃ x, W = gx wk x) → wk.heap.size ≤ b → RecSt b W mA gr gm gS A1 A2 (some ⟨gs, 0, none⟩) c1 c2 c3 Z (-1) 0 false false last → Calls Tryz.prog 54 #[.pointer (some ⟨gr, 0, none⟩), .agg (fc keptF), .int .i64 109] W fun e w' => e = .returned (.tuple #[.int .i64 1, .bool true, .int .i64 0]) ∧ (∃ x, w' = gx wk x) ∧ ∃ Z' l', RecSt b w' mB gr gm gS A1 A2 (some ⟨gs, 0, none⟩) c1 c2 c3 Z' 0 1 false false l') := Lib.hid (fun hk hG hb h => (Record_new _ (Tab.of_gx' hT hk) hG hb h mA_good (by unfold gq; rfl) (by rw [mA_wear]; decide) mA_no keptF hM.fr hM.narrow hM.sound kept_wide (hM.odd 1 (by omega) (by omega)) (hM.odd 2 (by omega) (by omega)) hn0 hn1 109 (by omega) (by omega)).mono (by
    rintro e w' ⟨rfl, h1, Z', h2⟩
    exact ⟨rfl, h1, Z', _, h2⟩))
  have HFr : Hid (∀ {A B C : Option Addr} {a b c gn : Nat} {W : World}, (∃ x, W = gx w x) → Five W gn 0 mB A B C a b c → RM W mB A B C → Calls Tryz.prog 43 #[.slice (some ⟨gn, 0, none⟩) 1 1] W fun e w' => ∃ g q c' x, e = .returned (.tuple #[.slice (some ⟨g, q, none⟩) 1 c', .int .i64 0]) ∧ w' = gx W x ∧ (gx W x).rangeAt g q (keptF.map (Value.int .u16))) := Lib.hid (fun hG hF hR => Frames_one mB mB_good _ _ _ _ _ _ _ 0 1 _ (Tab.of_gx' hT hG) hF hR (packF keptF) (FrBs hM.fr hM.narrow) mB_s0 (by unfold gq; rfl) mB_no keptF kept_read hM.fr hM.narrow hM.sound kept_wide (hM.odd 1 (by omega) (by omega)) (hM.odd 2 (by omega) (by omega)) hn0 hn1)
  clear hM hn0 hn1
  go_enter Tryz.func18, Tryz.ntmps18
  go_wp2_with (first | (go_at_call 80; go_loud (refine (HN.out _ _ (Tab.of_gx' hT ?_) ?_).mono ?_; (focus (exact (by repeat (first | (with_reducible exact Gx.refl _) | (with_reducible assumption) | (with_reducible refine Gx.gx ?_) | (with_reducible refine Gx.alloc ?_) | (with_reducible refine Gx.drew ?_) | (with_reducible refine Gx.drewN ?_) | (with_reducible refine Gx.setRow ?_ (by simp)) | (with_reducible refine Gx.setCell ?_ (by simp)))))); (focus (exact icells_of_at (At.new _ _) 58 (by rw [zerosI_len]; exact Nat.le_refl _))); rintro e W1 ⟨rfl, z1, hW1⟩; have hG1 : ∃ x, W1 = gx w x := (hW1 ▸ (by repeat (first | (with_reducible exact Gx.refl _) | (with_reducible assumption) | (with_reducible refine Gx.gx ?_) | (with_reducible refine Gx.alloc ?_) | (with_reducible refine Gx.drew ?_) | (with_reducible refine Gx.drewN ?_) | (with_reducible refine Gx.setRow ?_ (by simp)) | (with_reducible refine Gx.setCell ?_ (by simp))))); clear hW1)) | (refine store_fr rfl _ _ rfl _ rfl _ rfl ?_ ?_ ?_ ?_ ?_; rotate_left; (focus (repeat (first | (with_reducible assumption) | (with_reducible exact At.new _ _) | (with_reducible refine At.row ?_) | (with_reducible refine At.app ?_) | (with_reducible refine At.tick ?_) | (with_reducible refine At.gx ?_) | ((with_reducible refine At.new' ?_); focus (simp; done)) | (with_reducible refine At.alloc ?_) | (with_reducible refine At.drew ?_) | (with_reducible exact Is.new _ _ _) | (with_reducible refine Is.row ?_) | (with_reducible refine Is.gx ?_) | ((with_reducible refine Is.new' ?_); focus (simp; done)) | (with_reducible refine Is.alloc ?_) | (with_reducible refine Is.drew ?_)))); (focus (with_reducible (first | exact hl | exact hl1 | exact hl2 | exact hl3 | exact hl4 | exact zeroF_len))); (focus (with_reducible (first | exact hl | exact hl1 | exact hl2 | exact hl3 | exact hl4 | exact zeroF_len)))) | (go_at_call 15; go_loud (refine (NewMemory_A _).mono ?_; rintro e W2 ⟨gS, A1, A2, c1, c2, z2, rfl, hW2, hR2⟩; rw [← hW2] at hR2; have hG2 : ∃ x, W2 = gx w x := (hW2 ▸ (by repeat (first | (with_reducible exact Gx.refl _) | (with_reducible assumption) | (with_reducible refine Gx.gx ?_) | (with_reducible refine Gx.alloc ?_) | (with_reducible refine Gx.drew ?_) | (with_reducible refine Gx.drewN ?_) | (with_reducible refine Gx.setRow ?_ (by simp)) | (with_reducible refine Gx.setCell ?_ (by simp))))); have hF2 : At W2 W1.heap.size (.cells (fc keptF) 57 (0, 0)) := (by rw [hW2]; exact At.gx (At.new _ _)); have lF2 := hF2.lt; have hz2 := size_of_gx hG2; clear hW2)) | (go_at_call 50; go_loud (refine (Mount_one mA mA_good (some ⟨gS, 0, none⟩) A1 A2 2 c1 c2 (W2.heap.size + 1) 0 1 _ ?_ (RM.of_gx hR2 ?_) mA_no).mono ?_; (focus (refine five_at (At.new' (by simp)) ?_; rw [mA_wl]; rfl)); (focus (exact (by repeat (first | (with_reducible exact Gx.refl _) | (with_reducible assumption) | (with_reducible refine Gx.gx ?_) | (with_reducible refine Gx.alloc ?_) | (with_reducible refine Gx.drew ?_) | (with_reducible refine Gx.drewN ?_) | (with_reducible refine Gx.setRow ?_ (by simp)) | (with_reducible refine Gx.setCell ?_ (by simp)))))); rintro e W3 ⟨gr, gm, gT, B1, B2, B3, d1, d2, d3, Z, z3, rfl, hW3, hSt⟩; rw [← hW3] at hSt; obtain ⟨gs, rfl⟩ := hSt.std.addr (by omega); obtain ⟨Wm, hm1, hm2, hm3, hm4⟩ : ∃ Wm, W3 = gx Wm z3 ∧ Wm.heap.size = W2.heap.size + 1 + 1 ∧ At Wm W1.heap.size (.cells (fc keptF) 57 (0, 0)) ∧ (∃ x, Wm = gx w x) := ⟨_, hW3, by simp, At.alloc (At.alloc hF2), (by repeat (first | (with_reducible exact Gx.refl _) | (with_reducible assumption) | (with_reducible refine Gx.gx ?_) | (with_reducible refine Gx.alloc ?_) | (with_reducible refine Gx.drew ?_) | (with_reducible refine Gx.drewN ?_) | (with_reducible refine Gx.setRow ?_ (by simp)) | (with_reducible refine Gx.setCell ?_ (by simp))))⟩; have hG3 : ∃ x, W3 = gx Wm x := ⟨z3, hm1⟩; have hF3 : At W3 W1.heap.size (.cells (fc keptF) 57 (0, 0)) := (by rw [hm1]; exact At.gx hm3); have HSt := Lib.hid hSt; clear hSt hW3 hm1 hR2 hF2)) | (refine load_fr rfl _ rfl _ rfl ?_ ?_ ?_ ?_; rotate_left; (focus (repeat (first | (with_reducible assumption) | (with_reducible exact At.new _ _) | (with_reducible refine At.row ?_) | (with_reducible refine At.app ?_) | (with_reducible refine At.tick ?_) | (with_reducible refine At.gx ?_) | ((with_reducible refine At.new' ?_); focus (simp; done)) | (with_reducible refine At.alloc ?_) | (with_reducible refine At.drew ?_) | (with_reducible exact Is.new _ _ _) | (with_reducible refine Is.row ?_) | (with_reducible refine Is.gx ?_) | ((with_reducible refine Is.new' ?_); focus (simp; done)) | (with_reducible refine Is.alloc ?_) | (with_reducible refine Is.drew ?_)))); (focus (with_reducible (first | exact hl | exact hl1 | exact hl2 | exact hl3 | exact hl4 | exact zeroF_len)))) | (go_at_call 54; go_loud (refine (HRec.out hm4 hG3 (by rw [hm2]; simp) HSt.out).mono ?_; rintro e W4 ⟨rfl, hG4, Z4, l4, hS4⟩; have HS4 := Lib.hid hS4; have hF4 : At W4 W1.heap.size (.cells (fc keptF) 57 (0, 0)) := (by obtain ⟨x, rfl⟩ := hG4; exact At.gx hm3); clear hS4 hF3 hG3)) | (go_at_call 58; go_loud (refine (Memories_one HS4.out mB_good).mono ?_; rintro e W5 ⟨gn, gU, vW, vB, Y, x5, rfl, hW5, hgn, hAn, hO⟩; rw [← hW5] at hAn hO; obtain ⟨C1, k1, rfl, -⟩ := hO.wear.is; obtain ⟨C2, k2, rfl, -⟩ := hO.bad.is; have hG5 : ∃ x, W5 = gx w x := (hW5 ▸ Gx.gx (Gx.trans hG4 hm4)); have HR5 := Lib.hid (OMem.rm mB_good hO); have HF5 := Lib.hid (five_at hAn (by unfold oC; rfl) : Five W5 gn 0 mB (some ⟨gU, 0, none⟩) C1 C2 mB.sec.length k1 k2); have hF5 : At W5 W1.heap.size (.cells (fc keptF) 57 (0, 0)) := (by rw [hW5]; exact At.gx hF4); clear hO hAn hW5 hF4)) | (go_at_call 43; go_loud (refine (HFr.out hG5 HF5.out HR5.out).mono ?_; rintro e W6 ⟨g6, q6, c6, x6, rfl, hW6, hrg⟩; rw [← hW6] at hrg; have hG6 : ∃ x, W6 = gx w x := (hW6 ▸ Gx.gx hG5); have hF6 : At W6 W1.heap.size (.cells (fc keptF) 57 (0, 0)) := (by rw [hW6]; exact At.gx hF5); clear hW6 hF5)))
  first | (with_reducible refine region_gxx (by kernel_rfl) (by kernel_rfl) ?_) | (with_reducible refine region_gx (by kernel_rfl) (by kernel_rfl) ?_)
  repeat (any_goals (first | (refine quiet_fr rfl _ rfl _ rfl ?_ ?_ ?_ ?_; rotate_left; (focus (rintro _ ⟨x, rfl⟩; (focus (repeat (first | (with_reducible assumption) | (with_reducible exact At.new _ _) | (with_reducible refine At.row ?_) | (with_reducible refine At.app ?_) | (with_reducible refine At.tick ?_) | (with_reducible refine At.gx ?_) | ((with_reducible refine At.new' ?_); focus (simp; done)) | (with_reducible refine At.alloc ?_) | (with_reducible refine At.drew ?_) | (with_reducible exact Is.new _ _ _) | (with_reducible refine Is.row ?_) | (with_reducible refine Is.gx ?_) | ((with_reducible refine Is.new' ?_); focus (simp; done)) | (with_reducible refine Is.alloc ?_) | (with_reducible refine Is.drew ?_)))))); (focus (with_reducible (first | exact hl | exact hl1 | exact hl2 | exact hl3 | exact hl4 | exact zeroF_len)))) | (refine quiet_frm rfl _ rfl _ _ rfl keptF hl ?_ ?_; (focus (rintro _ ⟨x, rfl⟩; exact rangeAt_gx hrg))) | go_big_quiet_step (fail) | quiet_step (fail)))
  refine wpQuiet_nil ?_
  rintro _ ⟨x, rfl⟩
  go_wp2
  go_ret
  exact ⟨rfl, (by repeat (first | (with_reducible exact Gx.refl _) | (with_reducible assumption) | (with_reducible refine Gx.gx ?_) | (with_reducible refine Gx.alloc ?_) | (with_reducible refine Gx.drew ?_) | (with_reducible refine Gx.drewN ?_) | (with_reducible refine Gx.setRow ?_ (by simp)) | (with_reducible refine Gx.setCell ?_ (by simp))))⟩
end Go.Proofs.YthkccbeffonaaaaGreatDoor

/-
  slices.Equal of two slices of numbers that are shown.
-/
namespace Go.Proofs.YthkccbeffonaaaaGreatDoor
open Go.RowKit
-- AT2

theorem shows_ints {P : List Int} {A : Option Addr} {w : World} (h : Shows (iC P) A w) (h0 : 0 < P.length) : ∃ g o, A = some ⟨g, o, none⟩ ∧ ∀ j, j < P.length → w.cell? ⟨g, o + j, none⟩ = some (.int .i64 (gw P j)) := by
  unfold Shows at h
  obtain ⟨g, o, e, hc⟩ := h (by rw [iC_len]; exact h0)
  exact ⟨g, o, e, fun j hj => hc j _ (iC_get hj)⟩

set_option maxHeartbeats 600000 in
set_option maxRecDepth 100000 in
theorem EqualI_none (A A' : Option Addr) (c c' : Nat) (w : World) :
    Calls Tryz.prog 23 #[.slice A 0 c, .slice A' 0 c'] w fun e w' => e = .returned (.bool true) ∧ ∃ x, w' = gx w x := by
  go_enter Tryz.func23, Tryz.ntmps23
  go_wp2
  go_loopw [13] (fun i wr => i = .int .i64 0 ∧ wr = w) (fun i _ => (intOf i).toNat)
  case atStart => exact ⟨rfl, rfl⟩
  case round =>
    obtain ⟨rfl, rfl⟩ := hrel
    go_wp2
    go_ret
    exact ⟨rfl, (by repeat (first | (with_reducible exact Gx.refl _) | (with_reducible assumption) | (with_reducible refine Gx.gx ?_) | (with_reducible refine Gx.alloc ?_) | (with_reducible refine Gx.drew ?_) | (with_reducible refine Gx.drewN ?_) | (with_reducible refine Gx.setRow ?_ (by simp)) | (with_reducible refine Gx.setCell ?_ (by simp))))⟩
theorem EqualI_shows (P : List Int) (n : Nat) (hP : P.length = n) (hn : n ≤ 9223372036854775807) (A A' : Option Addr) (c c' : Nat) (w : World) (h : Shows (iC P) A w) (h' : Shows (iC P) A' w) :
    Calls Tryz.prog 23 #[.slice A n c, .slice A' n c'] w fun e w' => e = .returned (.bool true) ∧ ∃ x, w' = gx w x := by
  rcases Nat.eq_zero_or_pos n with rfl | h0
  · exact EqualI_none A A' c c' w
  · obtain ⟨g, o, rfl, hc⟩ := shows_ints h (by omega)
    obtain ⟨g', o', rfl, hc'⟩ := shows_ints h' (by omega)
    exact EqualI_same P n g o c g' o' c' hn w (fun j hj => hc j (by omega)) (fun j hj => hc' j (by omega))
end Go.Proofs.YthkccbeffonaaaaGreatDoor

/-
  RingTargetsMatchSpec: the walk.
-/
namespace Go.Proofs.YthkccbeffonaaaaGreatDoor
open Go.RowKit
-- AT2

set_option maxHeartbeats 1000000 in
set_option maxRecDepth 100000 in
theorem targetsLaw (a b c : Int) (w : World) (hT : Tab w) :
    Calls Tryz.prog 9 #[.int .i64 a, .int .i64 b, .int .i64 c] w fun e w' => e = .returned (.bool true) ∧ ∃ x, w' = gx w x := by
  by_cases h : tgOk a b c
  · obtain ⟨k, rfl⟩ : ∃ k : Nat, c = k := ⟨c.toNat, by obtain ⟨h1, h2, h3, h4, h5, h6⟩ := h; omega⟩
    have hk : k ≤ 9223372036854775807 := by obtain ⟨h1, h2, h3, h4, h5, h6⟩ := h; omega
    have H := Lib.hid h
    clear h
    go_enter Tryz.func9, Tryz.ntmps9
    go_wp2_with (first | (go_at_call 48; go_loud (refine (Targets_ok a b k H.out _).mono ?_; rintro e W1 ⟨g, z, rfl, hW1, hg, hA⟩; rw [← hW1] at hA; have hG1 : ∃ x, W1 = gx w x := (hW1 ▸ (by repeat (first | (with_reducible exact Gx.refl _) | (with_reducible assumption) | (with_reducible refine Gx.gx ?_) | (with_reducible refine Gx.alloc ?_) | (with_reducible refine Gx.drew ?_) | (with_reducible refine Gx.drewN ?_) | (with_reducible refine Gx.setRow ?_ (by simp)) | (with_reducible refine Gx.setCell ?_ (by simp))))); have hS1 := Lib.hid (Shows.whole (xs := iC (tgL a b k)) hA); clear hW1 hA hg)) | (go_at_call 49; go_loud (refine (RTargets_ok a b k H.out _).mono ?_; rintro e W2 ⟨v, z2, rfl, hW2, hO⟩; rw [← hW2] at hO; have hG2 : ∃ x, W2 = gx w x := (hW2 ▸ Gx.gx hG1); have hS1' := Lib.hid (hW2 ▸ Shows.gx hS1.out : Shows (iC (tgL a b k)) (some ⟨g, 0, none⟩) W2); obtain ⟨A', c', rfl, h1, h2, h3, h4⟩ := hO.is; have hS2 := Lib.hid h4; clear h4 hO hW2 h1 h2 h3)) | (go_at_call 23; go_loud (refine (EqualI_shows (tgL a b k) k (tgL_len a b k) hk _ _ _ _ _ hS1'.out hS2.out).mono ?_; rintro e w' ⟨rfl, z3, rfl⟩)) | (go_at_call 18; go_loud (refine (keptGuard _ ?_).mono ?_; (focus (refine Tab.of_gx' hT ?_; exact (by repeat (first | (with_reducible exact Gx.refl _) | (with_reducible assumption) | (with_reducible refine Gx.gx ?_) | (with_reducible refine Gx.alloc ?_) | (with_reducible refine Gx.drew ?_) | (with_reducible refine Gx.drewN ?_) | (with_reducible refine Gx.setRow ?_ (by simp)) | (with_reducible refine Gx.setCell ?_ (by simp)))))); rintro e w' ⟨rfl, z4, rfl⟩)))
    go_ret
    exact ⟨rfl, (by repeat (first | (with_reducible exact Gx.refl _) | (with_reducible assumption) | (with_reducible refine Gx.gx ?_) | (with_reducible refine Gx.alloc ?_) | (with_reducible refine Gx.drew ?_) | (with_reducible refine Gx.drewN ?_) | (with_reducible refine Gx.setRow ?_ (by simp)) | (with_reducible refine Gx.setCell ?_ (by simp))))⟩
  · have H := Lib.hid h
    clear h
    go_enter Tryz.func9, Tryz.ntmps9
    go_wp2_with (first | (go_at_call 48; go_loud (refine (Targets_bad a b c H.out _).mono ?_; rintro e w' ⟨rfl, z, rfl⟩)) | (go_at_call 49; go_loud (refine (RTargets_bad a b c H.out _).mono ?_; rintro e w' ⟨rfl, z2, rfl⟩)) | (go_at_call 23; go_loud (refine (EqualI_none _ _ _ _ _).mono ?_; rintro e w' ⟨rfl, z3, rfl⟩)) | (go_at_call 18; go_loud (refine (keptGuard _ ?_).mono ?_; (focus (refine Tab.of_gx' hT ?_; exact (by repeat (first | (with_reducible exact Gx.refl _) | (with_reducible assumption) | (with_reducible refine Gx.gx ?_) | (with_reducible refine Gx.alloc ?_) | (with_reducible refine Gx.drew ?_) | (with_reducible refine Gx.drewN ?_) | (with_reducible refine Gx.setRow ?_ (by simp)) | (with_reducible refine Gx.setCell ?_ (by simp)))))); rintro e w' ⟨rfl, z4, rfl⟩)))
    go_ret
    exact ⟨rfl, (by repeat (first | (with_reducible exact Gx.refl _) | (with_reducible assumption) | (with_reducible refine Gx.gx ?_) | (with_reducible refine Gx.alloc ?_) | (with_reducible refine Gx.drew ?_) | (with_reducible refine Gx.drewN ?_) | (with_reducible refine Gx.setRow ?_ (by simp)) | (with_reducible refine Gx.setCell ?_ (by simp))))⟩
end Go.Proofs.YthkccbeffonaaaaGreatDoor

/-
  What every law's lifting needs: the table of sync words, and a world that holds it.
-/
namespace Go.Proofs.YthkccbeffonaaaaGreatDoor
open Go.ChangeShapes Go.WideShapes Go.ChangeAt Go.RowKit

theorem own : ownKnob Tryz.prog.godebug = none := by kernel_rfl
theorem gTab : Tryz.prog.globalNamed "orangebox/frame.syncs" = some 0 := by kernel_rfl
theorem gTabType : (Tryz.prog.globals[0]?).map (·.type) = some 207 := by kernel_rfl
theorem cellsTab : Tryz.prog.cellsOf 207 = 4 := by kernel_rfl
theorem cells16 : Tryz.prog.cellsOf 55 = 1 := by kernel_rfl

/-- What the rows list: the table's cells hold the four sync words. -/
theorem tab_of {W : World} (h : laidMetH Tryz.prog [("orangebox/frame.syncs", Rows.laid_orangebox_frame_syncs)] W) : Tab W := by
  have t : Lib.TabIs Tryz.prog W "orangebox/frame.syncs" .u16 [583, 1464, 2631, 3512] :=
    Lib.tabIs_of_head (rest := []) gTab gTabType Tryz.underlying207 Tryz.underlying55 cells16 cellsTab h
  have c0 : W.cell? ⟨0, 0, none⟩ = some (.int .u16 583) := t.cell gTab 0 (by decide)
  have c1 : W.cell? ⟨0, 1, none⟩ = some (.int .u16 1464) := t.cell gTab 1 (by decide)
  have c2 : W.cell? ⟨0, 2, none⟩ = some (.int .u16 2631) := t.cell gTab 2 (by decide)
  have c3 : W.cell? ⟨0, 3, none⟩ = some (.int .u16 3512) := t.cell gTab 3 (by decide)
  refine ⟨World.block_lt_of_cell? W _ c0, fun k hk => ?_⟩
  have : k = 0 ∨ k = 1 ∨ k = 2 ∨ k = 3 := by omega
  rcases this with rfl | rfl | rfl | rfl
  · exact c0
  · exact c1
  · exact c2
  · exact c3

/-- A world for the witness: the settled one, the table holding what its initialiser lays. -/
noncomputable def laidWorld (os : Os) : World :=
  { World.holding Tryz.prog os ⟨#[], #[], []⟩ with heap := (World.holding Tryz.prog os ⟨#[], #[], []⟩).heap.modify 0 fun
      | .cells _ t frozen => .cells #[.int .u16 583, .int .u16 1464, .int .u16 2631, .int .u16 3512] t frozen
      | o => o }
theorem laidOut : laidOutB Tryz.prog = true := by kernel_rfl

theorem below_trodAll {H : Type} {enc : TypeId × Value → H} {W W' : World} (hb : Below W.heap.size W W') :
    ∀ {ts : List TypeId} {vs : List Value} {ds : List (DataW H)} {ps : List MemPlace}, (∀ t ∈ ts, Tryz.prog.readableRec t = true ∧ t < Tryz.prog.types.size) → (∀ x ∈ ps, x.block < W.heap.size) →
      DataW.TrodAll enc Tryz.prog W 0 (fun _ => true) true ts vs ds ps → DataW.TrodAll enc Tryz.prog W' 0 (fun b => decide (b < W.heap.size)) true ts vs ds ps
  | [], [], [], _, _, _, h => h
  | [], [], _ :: _, _, _, _, h => h.elim
  | [], _ :: _, _, _, _, _, h => h.elim
  | _ :: _, [], _, _, _, _, h => h.elim
  | _ :: _, _ :: _, [], _, _, _, h => h.elim
  | t :: ts, v :: vs, d :: ds, ps, hT, hlt, ⟨p, q, h1, h2, e⟩ => by
    have ht := hT t (by simp)
    refine ⟨p, q, Below.trod laidOut ht.1 ht.2 h1 hb (fun x hx => hlt x (by rw [e]; exact List.mem_append_left _ hx)), ?_, e⟩
    exact below_trodAll hb (fun u hu => hT u (by simp [hu])) (fun x hx => hlt x (by rw [e]; exact List.mem_append_right _ hx)) h2

/-- A law's end: it has returned true, and of what was there nothing has turned. -/
theorem law_post {H : Type} {enc : TypeId × Value → H} {f : Func} {s : ChangeSpec} {W W' : World} {args : Array Value} {ds gs : List (DataW H)} {before : List MemPlace}
    (hrt : f.resultTypes = #[4]) (hvars : s.vars = []) (hT : ∀ t ∈ f.params.toList, Tryz.prog.readableRec t = true ∧ t < Tryz.prog.types.size)
    (hW : DataW.Whole enc Tryz.prog f.params.toList s.vars false W args.toList ds gs before) (hb : Below W.heap.size W W')
    (hfn : s.fn H (ds ++ gs) = { results := [.lit (.bool true)], args := ds }) : s.post enc Tryz.prog f false true false false W args (.bool true) W' := by
  have hW' := hW
  have hlt : ∀ x ∈ before, x.block < W.heap.size := fun x hx => by simpa using hW.lt x hx
  obtain ⟨p, q, hA, hV, rfl, _, _⟩ := hW
  rw [hvars] at hV
  obtain ⟨rfl, rfl⟩ := trodVars_none hV
  refine ⟨ds, [], p ++ [], [], p, [], hW', ?_, ?_, ?_, hb.frame _, fun h => by cases h⟩
  · rw [hfn, hrt]
    exact trodAll_cons_mk (shut_bool Tryz.underlying4 _) trodAll_mk0
  · rw [hfn]
    exact below_trodAll hb hT (fun x hx => hlt x (by simp [hx])) hA
  · rw [hfn, hvars]
    rfl

theorem underFrame : Tryz.prog.underlying 57 = some (.array 64 55) := Tryz.underlying57
theorem cellsFrame : Tryz.prog.cellsOf 57 = 64 := by kernel_rfl
set_option maxRecDepth 100000 in
/-- A frame that is handed in: 64 numbers of 16 bits. -/
theorem open_frame {H : Type} {enc : TypeId × Value → H} {W W0 : World} {r : Reach} {b0 base : Nat} {spare : Nat → Bool} {held : Bool} {v : Value} {d : DataW H} {ps : List MemPlace}
    (hval : Value.okWide Tryz.prog W0 r b0 57 v) (hd : DataW.Trod enc Tryz.prog W base spare held 57 v d ps) : ∃ F, v = .agg (fc F) ∧ Fr F := by
  simp only [Value.okWide, underFrame] at hval
  obtain ⟨cs, rfl, hs, _⟩ := hval
  rw [cellsFrame] at hs
  obtain ⟨fuel, hf⟩ := hd
  obtain ⟨xs, m, _, _, _, hx, he⟩ := DataW.trod_array underFrame hf
  have each : ∀ i, i < 64 → ∃ n, cs.toList[i]? = some (.int .u16 n) ∧ (Lit.int .u16 n).wf = true := by
    intro i hi
    have h := he i hi
    rw [cells16, Nat.mul_one, List.getElem?_eq_getElem (by omega)] at h
    obtain ⟨n, h1, _, h3⟩ := DataW.trod_int Tryz.underlying55 h
    refine ⟨n, ?_, h3⟩
    have : ((((Value.agg cs).cells).toList.drop i).take 1)[0]? = some (.int .u16 n) := by rw [h1]; rfl
    rw [List.getElem?_take_of_lt (by omega), List.getElem?_drop] at this
    simpa [Value.cells] using this
  let F : List Int := cs.toList.map intOf
  have hF : ∀ k, k < 64 → cs.toList[k]? = some (.int .u16 (gw F k)) ∧ (Lit.int .u16 (gw F k)).wf = true := by
    intro k hk
    obtain ⟨n, h1, h2⟩ := each k hk
    have : gw F k = n := by unfold gw; simp [F, List.getD, h1, intOf]
    rw [this]; exact ⟨h1, h2⟩
  have hl : F.length = 64 := by simp [F, hs]
  refine ⟨F, ?_, hl, fun k => ?_⟩
  · congr 1
    apply Array.ext_getElem?
    intro k
    rcases Nat.lt_or_ge k 64 with hk | hk
    · rw [fc_get F k (by omega), ← (hF k hk).1]; simp
    · rw [Array.getElem?_eq_none (by omega), Array.getElem?_eq_none (by rw [fc_size]; omega)]
  · rcases Nat.lt_or_ge k 64 with hk | hk
    · exact bounds_u16 (hF k hk).2
    · have : gw F k = 0 := by unfold gw; simp [List.getD, List.getElem?_eq_none (show F.length ≤ k by omega)]
      rw [this]; decide

/-- A frame of zeros, for the witnesses; what it reads as. -/
def zfr : Value := .agg (List.replicate 64 (Value.int .u16 0)).toArray
def zrd {H : Type} : DataW H := .agg (List.replicate 64 (.lit (.int .u16 0)))
end Go.Proofs.YthkccbeffonaaaaGreatDoor
