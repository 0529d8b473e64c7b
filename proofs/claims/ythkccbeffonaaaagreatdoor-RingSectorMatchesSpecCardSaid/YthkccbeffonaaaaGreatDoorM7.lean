/-
  Texts that this claim leans on, merged: GGuard, GPutB, GLawB, Lift, Open, Sized.
-/
import Derived.Laws.BitsAllLaws
import Derived.Test.YthkccbeffonaaaaGreatDoorCards
import Derived.Test.YthkccbeffonaaaaGreatDoorTie
import Derived.ProofKit
import Derived.OpenShut
import Derived.Deep.DeepHandedRow
import Derived.Lib.LaidTab
import Derived.SizedLaws
import Derived.Test.YthkccbeffonaaaaGreatDoorM6
import Derived.Test.YthkccbeffonaaaaGreatDoorM4
import Derived.Test.YthkccbeffonaaaaGreatDoorM5
import Derived.Test.YthkccbeffonaaaaGreatDoorM2

/-
  kept() of the laws of package ring: it holds.
-/
namespace Go.Proofs.YthkccbeffonaaaaGreatDoor
open Go.RowKit
-- AT2

def keptF : List Int := newF zeroF 4 (zerosI 58)
theorem keptE : newE 4 (zerosI 58) = 0 := by decide +kernel
theorem kept_made : Made 4 (zerosI 58) keptF := (made_of keptE).1
theorem kept_wide : wideB keptF = false := by decide +kernel
theorem kept_read : rdF ((doneB (16 + 97 * 1) (packF keptF)).drop 16) = keptF := by decide +kernel
theorem keptF_eq : newF zeroF 4 (zerosI 58) = keptF := rfl
attribute [irreducible] keptF
def mA : PM := blankM 2 1 3
def mB : PM := { mA with wear := mA.wear.set 0 (gw mA.wear 0 + 1), sec := mA.sec.set 0 (doneB (16 + 97 * mA.slots) (packF keptF)) }
theorem mA_s (k : Nat) (hk : k < 2) : mA.s k = onesB 113 := by
  unfold PM.s mA blankM
  match k, hk with
  | 0, _ => rfl
  | 1, _ => rfl
theorem mA_out (k : Nat) (hk : 2 ≤ k) : mA.s k = [] := by
  unfold PM.s mA blankM
  simp only [List.getD]
  rw [List.getElem?_eq_none (by simp; omega)]
  rfl
theorem mA_wear (k : Nat) : gw mA.wear k = 0 := by unfold mA blankM; exact zerosI_get 2 k
theorem mA_good : Good mA := by
  have hl : mA.sec.length = 2 := rfl
  refine ⟨by rw [hl]; unfold sizesOk mA blankM; decide, by unfold mA blankM; simp [zerosI_len], by unfold mA blankM; simp, fun i hi => by rw [mA_s i (by omega), onesB_len]; rfl, fun i hi => by rw [mA_wear]; unfold mA blankM; decide, fun i => ?_⟩
  rcases Nat.lt_or_ge i 2 with h | h
  · rw [mA_s i h]; exact onesB_bs _
  · rw [mA_out i h]; exact nil_bs
theorem mA_wl : mA.wear.length = 2 := zerosI_len 2
theorem ones_no : NoHead (onesB 113) := by
  refine .inr ?_
  decide +kernel
theorem mA_no : ∀ k, k < mA.sec.length → NoHead (mA.s k) := fun k hk => by
  rw [mA_s k (by have : mA.sec.length = 2 := rfl; omega)]
  exact ones_no
theorem mB_s0 : mB.s 0 = doneB (16 + 97 * mB.slots) (packF keptF) := by unfold PM.s mB mA blankM; rfl
theorem mB_s (k : Nat) (hk : 0 < k) : mB.s k = mA.s k := by
  unfold PM.s mB
  simp only [List.getD]
  rw [List.getElem?_set_ne (by omega)]
theorem mB_wear (k : Nat) : 0 ≤ gw mB.wear k ∧ gw mB.wear k ≤ 1 := by
  have e : mB.wear = (zerosI 2).set 0 (gw (zerosI 2) 0 + 1) := rfl
  rw [e, gw_set _ _ _ _ (by rw [zerosI_len]; decide), zerosI_get, zerosI_get]
  split <;> decide
theorem mB_good : Good mB := by
  have hl : mB.sec.length = 2 := rfl
  have hP : Bs (packF keptF) := FrBs kept_made.fr kept_made.narrow
  refine ⟨by rw [hl]; show sizesOk ((2 : Nat) : Int) ((1 : Nat) : Int) 3; unfold sizesOk; decide, by show ((zerosI 2).set 0 (gw (zerosI 2) 0 + 1)).length = 2; rw [List.length_set, zerosI_len], rfl, fun i hi => ?_, fun i hi => ?_, fun i => ?_⟩
  · rcases Nat.eq_zero_or_pos i with rfl | h
    · rw [mB_s0]
      show (doneB (16 + 97 * 1) (packF keptF)).length = 16 + 97 * 1
      unfold doneB slotB
      rw [wrB_len, wrB_len, headed_len (by omega)]
    · rw [mB_s i h]; exact mA_good.len i hi
  · have := mB_wear i
    exact ⟨this.1, by have e : mB.limit = 3 := rfl; rw [e]; omega⟩
  · rcases Nat.eq_zero_or_pos i with rfl | h
    · rw [mB_s0]; exact done_bs (by show 113 ≤ 16 + 97 * 1; omega) hP
    · rw [mB_s i h]; exact mA_good.bs i
theorem mB_no : ∀ k, 0 < k → k < mB.sec.length → NoHead (mB.s k) := fun k h0 hk => by
  rw [mB_s k h0]
  exact mA_no k hk
theorem Own.addr {b : Nat} {W : World} {e : TypeId} {size n c : Nat} {A : Option Addr} {xs : List Value} (h : Own b W e size (.slice A n c) n xs) (h0 : 0 < n) : ∃ g, A = some ⟨g, 0, none⟩ := by
  rcases h.out.2 with ⟨e, rfl⟩ | ⟨g, cap, cur, e, _⟩
  · omega
  · simp only [Value.slice.injEq] at e
    exact ⟨g, e.1⟩
theorem quiet_frm {ops : Array Oper} {C : World → Prop} {Q : Act → Prop} {a : Act} {o : Oper} {rest : List Oper} (hw : Region.wanted o (yielded ops a.tmps) = true) (x : Operand) (ho : o.op = .load 57 x)
    (g q : Nat) (hx : a.eval x = .pointer (some ⟨g, q, none⟩)) (F : List Int) (hl : F.length = 64) (hC : ∀ w, C w → w.rangeAt g q (F.map (Value.int .u16)))
    (h : wpQuiet Tryz.prog ops C Q rest (a.put o.dst (.agg (fc F)))) : wpQuiet Tryz.prog ops C Q (o :: rest) a := by
  refine BigFrame.wpQuiet_want hw fun K hK => ⟨.agg (fc F), fun w hw' => ?_, hK _ h⟩
  unfold Oper.quietAt execOp
  simp only [ho, hx, Instr.loadAt, Instr.sureAddr, Sem.run_bind, Sem.run_pure, Result.andThen_ok, run_loadVar_mid w g _ _ _ _ (hC w hw') Tryz.underlying57 rfl (by rw [List.length_map, hl]; kernel_rfl)]
  exact ⟨rfl, rfl⟩
/-- NewMemory(2, 1, 3). -/
theorem NewMemory_A (w : World) : Calls Tryz.prog 15 #[.int .i64 2, .int .i64 1, .int .i64 3] w fun e w' => ∃ gS A1 A2 c1 c2 x, e = .returned (.tuple #[.agg #[.int .i64 1, .int .i64 3, .slice (some ⟨gS, 0, none⟩) 2 2, .slice A1 2 c1, .slice A2 2 c2], .int .i64 0]) ∧ w' = gx w x ∧ RM (gx w x) mA (some ⟨gS, 0, none⟩) A1 A2 := by
  refine (NewMemory_ok 2 1 3 (by unfold sizesOk; decide) w).mono ?_
  rintro e w' ⟨gS, vW, vB, Z, x, rfl, rfl, hO⟩
  obtain ⟨A1, c1, rfl, -⟩ := hO.wear.is
  obtain ⟨A2, c2, rfl, -⟩ := hO.bad.is
  refine ⟨gS, A1, A2, c1, c2, x, ?_, rfl, OMem.rm mA_good hO⟩
  have e1 : (blankM 2 1 3).wear.length = 2 := by unfold blankM; exact zerosI_len 2
  have e2 : (blankM 2 1 3).bad.length = 2 := rfl
  have e3 : (blankM 2 1 3).sec.length = 2 := rfl
  unfold oV
  rw [e1, e2, e3]
  rfl
theorem five_at {W : World} {g : Nat} {m : PM} {A B C : Option Addr} {a b c : Nat} {cs : Array Value} (hA : At W g (.cells cs 26 (0, 0))) (h : cs = #[.int .i64 m.slots, .int .i64 m.limit, .slice A m.sec.length a, .slice B m.wear.length b, .slice C m.bad.length c]) : Five W g 0 m A B C a b c := by
  subst h
  exact ⟨by rw [cell_of_row _ _ _ _ _ _ hA]; rfl, by rw [cell_of_row _ _ _ _ _ _ hA]; rfl, by rw [cell_of_row _ _ _ _ _ _ hA]; rfl, by rw [cell_of_row _ _ _ _ _ _ hA]; rfl, by rw [cell_of_row _ _ _ _ _ _ hA]; rfl⟩
set_option maxHeartbeats 2000000 in
set_option maxRecDepth 100000 in
theorem keptGuard (w : World) (hT : Tab w) : Calls Tryz.prog 18 #[] w fun e w' => e = .returned (.bool true) ∧ ∃ x, w' = gx w x := by
  have hM := kept_made
  have hl : keptF.length = 64 := hM.fr.len
  have he := eqF_self keptF
  have hz := zeroF_len
  have HN : Hid (∀ (b : Nat) (W : World), Tab W → (∀ j, j < 58 → W.cell? ⟨b, 0 + j, none⟩ = some (.int .i64 (gw (zerosI 58) j))) → Calls Tryz.prog 80 #[.int .i64 4, .slice (some ⟨b, 0, none⟩) 58 58] W fun e w' => e = .returned (.tuple #[.agg (fc keptF), .int .i64 0]) ∧ ∃ x, w' = gx W x) := Lib.hid (fun b W hT hc => by
    have h := RNew_any 4 (zerosI 58) (some ⟨b, 0, none⟩) 58 W hT (fun _ => ⟨b, 0, rfl, hc⟩)
    rw [zerosI_len, keptF_eq, keptE] at h
    exact h)
  have hn0 : 0 ≤ numI keptF := by rw [hM.num]; decide
  have hn1 : numI keptF < 4194304 := by rw [hM.num]; decide
  have HRec : Hid (∀ {wk : World} {b : Nat} {W : World} {gr gm gS gs : Nat} {A1 A2 : Option Addr} {c1 c2 c3 : Nat} {Z : List (Nat × List Int)} {last : Int}, (∃ x, wk = gx w x) → (∃ x, W = gx wk x) → wk.heap.size ≤ b → RecSt b W mA gr gm gS A1 A2 (some ⟨gs, 0, none⟩) c1 c2 c3 Z (-1) 0 false false last → Calls Tryz.prog 54 #[.pointer (some ⟨gr, 0, none⟩), .agg (fc keptF), .int .i64 109] W fun e w' => e = .returned (.tuple #[.int .i64 1, .bool true, .int .i64 0]) ∧ (∃ x, w' = gx wk x) ∧ ∃ Z' l', RecSt b w' mB gr gm gS A1 A2 (some ⟨gs, 0, none⟩) c1 c2 c3 Z' 0 1 false false l') := Lib.hid (fun hk hG hb h => (Record_new _ (Tab.of_gx' hT hk) hG hb h mA_good (by unfold gq; rfl) (by rw [mA_wear]; decide) mA_no keptF hM.fr hM.narrow hM.sound kept_wide (hM.odd 1 (by omega) (by omega)) (hM.odd 2 (by omega) (by omega)) hn0 hn1 109 (by omega) (by omega)).mono (by
    rintro e w' ⟨rfl, h1, Z', h2⟩
    exact ⟨rfl, h1, Z', _, h2⟩))
  have HFr : Hid (∀ {A B C : Option Addr} {a b c gn : Nat} {W : World}, (∃ x, W = gx w x) → Five W gn 0 mB A B C a b c → RM W mB A B C → Calls Tryz.prog 43 #[.slice (some ⟨gn, 0, none⟩) 1 1] W fun e w' => ∃ g q c' x, e = .returned (.tuple #[.slice (some ⟨g, q, none⟩) 1 c', .int .i64 0]) ∧ w' = gx W x ∧ (gx W x).rangeAt g q (keptF.map (Value.int .u16))) := Lib.hid (fun hG hF hR => Frames_one mB mB_good _ _ _ _ _ _ _ 0 1 _ (Tab.of_gx' hT hG) hF hR (packF keptF) (FrBs hM.fr hM.narrow) mB_s0 (by unfold gq; rfl) mB_no keptF kept_read hM.fr hM.narrow hM.sound kept_wide (hM.odd 1 (by omega) (by omega)) (hM.odd 2 (by omega) (by omega)) hn0 hn1)
  clear hM hn0 hn1
  go_enter Tryz.func18, Tryz.ntmps18
  go_wp2_with (first | (go_at_call 80; go_loud (refine (HN.out _ _ (Tab.of_gx' hT ?_) ?_).mono ?_; (focus (exact (by repeat (first | (with_reducible exact Gx.refl _) | (with_reducible assumption) | (with_reducible refine Gx.gx ?_) | (with_reducible refine Gx.alloc ?_) | (with_reducible refine Gx.drew ?_) | (with_reducible refine Gx.drewN ?_) | (with_reducible refine Gx.setRow ?_ (by simp)) | (with_reducible refine Gx.setCell ?_ (by simp)))))); (focus (exact icells_of_at (At.new _ _) 58 (by rw [zerosI_len]; exact Nat.le_refl _))); rintro e W1 ⟨rfl, z1, hW1⟩; have hG1 : ∃ x, W1 = gx w x := (hW1 ▸ (by repeat (first | (with_reducible exact Gx.refl _) | (with_reducible assumption) | (with_reducible refine Gx.gx ?_) | (with_reducible refine Gx.alloc ?_) | (with_reducible refine Gx.drew ?_) | (with_reducible refine Gx.drewN ?_) | (with_reducible refine Gx.setRow ?_ (by simp)) | (with_reducible refine Gx.setCell ?_ (by simp))))); clear hW1)) | (refine store_fr rfl _ _ rfl _ rfl _ rfl ?_ ?_ ?_ ?_ ?_; rotate_left; (focus (repeat (first | (with_reducible assumption) | (with_reducible exact At.new _ _) | (with_reducible refine At.row ?_) | (with_reducible refine At.app ?_) | (with_reducible refine At.tick ?_) | (with_reducible refine At.gx ?_) | ((with_reducible refine At.new' ?_); focus (simp; done)) | (with_reducible refine At.alloc ?_) | (with_reducible refine At.drew ?_) | (with_reducible exact Is.new _ _ _) | (with_reducible refine Is.row ?_) | (with_reducible refine Is.gx ?_) | ((with_reducible refine Is.new' ?_); focus (simp; done)) | (with_reducible refine Is.alloc ?_) | (with_reducible refine Is.drew ?_)))); (focus (with_reducible (first | exact hl | exact hl1 | exact hl2 | exact hl3 | exact hl4 | exact zeroF_len))); (focus (with_reducible (first | exact hl | exact hl1 | exact hl2 | exact hl3 | exact hl4 | exact zeroF_len)))) | (go_at_call 15; go_loud (refine (NewMemory_A _).mono ?_; rintro e W2 ⟨gS, A1, A2, c1, c2, z2, rfl, hW2, hR2⟩; rw [← hW2] at hR2; have hG2 : ∃ x, W2 = gx w x := (hW2 ▸ (by repeat (first | (with_reducible exact Gx.refl _) | (with_reducible assumption) | (with_reducible refine Gx.gx ?_) | (with_reducible refine Gx.alloc ?_) | (with_reducible refine Gx.drew ?_) | (with_reducible refine Gx.drewN ?_) | (with_reducible refine Gx.setRow ?_ (by simp)) | (with_reducible refine Gx.setCell ?_ (by simp))))); have hF2 : At W2 W1.heap.size (.cells (fc keptF) 57 (0, 0)) := (by rw [hW2]; exact At.gx (At.new _ _)); have lF2 := hF2.lt; have hz2 := size_of_gx hG2; clear hW2)) | (go_at_call 50; go_loud (refine (Mount_one mA mA_good (some ⟨gS, 0, none⟩) A1 A2 2 c1 c2 (W2.heap.size + 1) 0 1 _ ?_ (RM.of_gx hR2 ?_) mA_no).mono ?_; (focus (refine five_at (At.new' (by simp)) ?_; rw [mA_wl]; rfl)); (focus (exact (by repeat (first | (with_reducible exact Gx.refl _) | (with_reducible assumption) | (with_reducible refine Gx.gx ?_) | (with_reducible refine Gx.alloc ?_) | (with_reducible refine Gx.drew ?_) | (with_reducible refine Gx.drewN ?_) | (with_reducible refine Gx.setRow ?_ (by simp)) | (with_reducible refine Gx.setCell ?_ (by simp)))))); rintro e W3 ⟨gr, gm, gT, B1, B2, B3, d1, d2, d3, Z, z3, rfl, hW3, hSt⟩; rw [← hW3] at hSt; obtain ⟨gs, rfl⟩ := hSt.std.addr (by omega); obtain ⟨Wm, hm1, hm2, hm3, hm4⟩ : ∃ Wm, W3 = gx Wm z3 ∧ Wm.heap.size = W2.heap.size + 1 + 1 ∧ At Wm W1.heap.size (.cells (fc keptF) 57 (0, 0)) ∧ (∃ x, Wm = gx w x) := ⟨_, hW3, by simp, At.alloc (At.alloc hF2), (by repeat (first | (with_reducible exact Gx.refl _) | (with_reducible assumption) | (with_reducible refine Gx.gx ?_) | (with_reducible refine Gx.alloc ?_) | (with_reducible refine Gx.drew ?_) | (with_reducible refine Gx.drewN ?_) | (with_reducible refine Gx.setRow ?_ (by simp)) | (with_reducible refine Gx.setCell ?_ (by simp))))⟩; have hG3 : ∃ x, W3 = gx Wm x := ⟨z3, hm1⟩; have hF3 : At W3 W1.heap.size (.cells (fc keptF) 57 (0, 0)) := (by rw [hm1]; exact At.gx hm3); have HSt := Lib.hid hSt; clear hSt hW3 hm1 hR2 hF2)) | (refine load_fr rfl _ rfl _ rfl ?_ ?_ ?_ ?_; rotate_left; (focus (repeat (first | (with_reducible assumption) | (with_reducible exact At.new _ _) | (with_reducible refine At.row ?_) | (with_reducible refine At.app ?_) | (with_reducible refine At.tick ?_) | (with_reducible refine At.gx ?_) | ((with_reducible refine At.new' ?_); focus (simp; done)) | (with_reducible refine At.alloc ?_) | (with_reducible refine At.drew ?_) | (with_reducible exact Is.new _ _ _) | (with_reducible refine Is.row ?_) | (with_reducible refine Is.gx ?_) | ((with_reducible refine Is.new' ?_); focus (simp; done)) | (with_reducible refine Is.alloc ?_) | (with_reducible refine Is.drew ?_)))); (focus (with_reducible (first | exact hl | exact hl1 | exact hl2 | exact hl3 | exact hl4 | exact zeroF_len)))) | (go_at_call 54; go_loud (refine (HRec.out hm4 hG3 (by rw [hm2]; simp) HSt.out).mono ?_; rintro e W4 ⟨rfl, hG4, Z4, l4, hS4⟩; have HS4 := Lib.hid hS4; have hF4 : At W4 W1.heap.size (.cells (fc keptF) 57 (0, 0)) := (by obtain ⟨x, rfl⟩ := hG4; exact At.gx hm3); clear hS4 hF3 hG3)) | (go_at_call 58; go_loud (refine (Memories_one HS4.out mB_good).mono ?_; rintro e W5 ⟨gn, gU, vW, vB, Y, x5, rfl, hW5, hgn, hAn, hO⟩; rw [← hW5] at hAn hO; obtain ⟨C1, k1, rfl, -⟩ := hO.wear.is; obtain ⟨C2, k2, rfl, -⟩ := hO.bad.is; have hG5 : ∃ x, W5 = gx w x := (hW5 ▸ Gx.gx (Gx.trans hG4 hm4)); have HR5 := Lib.hid (OMem.rm mB_good hO); have HF5 := Lib.hid (five_at hAn (by unfold oC; rfl) : Five W5 gn 0 mB (some ⟨gU, 0, none⟩) C1 C2 mB.sec.length k1 k2); have hF5 : At W5 W1.heap.size (.cells (fc keptF) 57 (0, 0)) := (by rw [hW5]; exact At.gx hF4); clear hO hAn hW5 hF4)) | (go_at_call 43; go_loud (refine (HFr.out hG5 HF5.out HR5.out).mono ?_; rintro e W6 ⟨g6, q6, c6, x6, rfl, hW6, hrg⟩; rw [← hW6] at hrg; have hG6 : ∃ x, W6 = gx w x := (hW6 ▸ Gx.gx hG5); have hF6 : At W6 W1.heap.size (.cells (fc keptF) 57 (0, 0)) := (by rw [hW6]; exact At.gx hF5); clear hW6 hF5)))
  first | (with_reducible refine region_gxx (by kernel_rfl) (by kernel_rfl) ?_) | (with_reducible refine region_gx (by kernel_rfl) (by kernel_rfl) ?_)
  repeat (any_goals (first | (refine quiet_fr rfl _ rfl _ rfl ?_ ?_ ?_ ?_; rotate_left; (focus (rintro _ ⟨x, rfl⟩; (focus (repeat (first | (with_reducible assumption) | (with_reducible exact At.new _ _) | (with_reducible refine At.row ?_) | (with_reducible refine At.app ?_) | (with_reducible refine At.tick ?_) | (with_reducible refine At.gx ?_) | ((with_reducible refine At.new' ?_); focus (simp; done)) | (with_reducible refine At.alloc ?_) | (with_reducible refine At.drew ?_) | (with_reducible exact Is.new _ _ _) | (with_reducible refine Is.row ?_) | (with_reducible refine Is.gx ?_) | ((with_reducible refine Is.new' ?_); focus (simp; done)) | (with_reducible refine Is.alloc ?_) | (with_reducible refine Is.drew ?_)))))); (focus (with_reducible (first | exact hl | exact hl1 | exact hl2 | exact hl3 | exact hl4 | exact zeroF_len)))) | (refine quiet_frm rfl _ rfl _ _ rfl keptF hl ?_ ?_; (focus (rintro _ ⟨x, rfl⟩; exact rangeAt_gx hrg))) | go_big_quiet_step (fail) | quiet_step (fail)))
  refine wpQuiet_nil ?_
  rintro _ ⟨x, rfl⟩
  go_wp2
  go_ret
  exact ⟨rfl, (by repeat (first | (with_reducible exact Gx.refl _) | (with_reducible assumption) | (with_reducible refine Gx.gx ?_) | (with_reducible refine Gx.alloc ?_) | (with_reducible refine Gx.drew ?_) | (with_reducible refine Gx.drewN ?_) | (with_reducible refine Gx.setRow ?_ (by simp)) | (with_reducible refine Gx.setCell ?_ (by simp))))⟩
end Go.Proofs.YthkccbeffonaaaaGreatDoor

/-
  PutBytes: contracts; and what bits it leaves.
-/
namespace Go.Proofs.YthkccbeffonaaaaGreatDoor
open Go.RowKit
-- AT2

set_option maxHeartbeats 600000 in
set_option maxRecDepth 100000 in
theorem CloneB_wide (M : List Int) (hM : Bs M) (ad : Addr) (c : Nat) (w : World) (hH : HeldB M (some ad) M.length w) (hm : M.length ≤ 140737488355328) :
    Calls Tryz.prog 85 #[.slice (some ad) M.length c] w fun e w' => ∃ g C x, e = .returned (.slice (some ⟨g, 0, none⟩) M.length C.length) ∧ w' = gx w x ∧ w.heap.size ≤ g ∧ At (gx w x) g (.cells (bc C) 5 (0, 0)) ∧ M.length ≤ C.length ∧ C.length ≤ maxLen ∧ Bs C ∧ ∀ j, j < M.length → gw C j = gw M j := by
  have he : ∀ w : World, (binOp .eql 39 (.slice (some ad) M.length c) (.slice none 0 0)).run Tryz.prog w = .ok (.bool false) w := fun _ => rfl
  go_enter Tryz.func85, Tryz.ntmps85
  go_wp2_with (first | (at_builtin; go_loud (refine append_own w [] M _ 0 (some ad) c rfl _ _ rfl rfl rfl rfl ?_ ?_ ?_ (by decide) (by decide) nil_bs hM ?_ (by omega) ?_; (focus (exact At.new w (.cells #[] 5))); exact (by repeat (first | (with_reducible exact Gx.refl _) | (with_reducible assumption) | (with_reducible refine Gx.gx ?_) | (with_reducible refine Gx.alloc ?_) | (with_reducible refine Gx.drew ?_) | (with_reducible refine Gx.drewN ?_) | (with_reducible refine Gx.setRow ?_ (by simp)) | (with_reducible refine Gx.setCell ?_ (by simp)))); (focus (simp)); (focus (repeat (first | (with_reducible assumption) | (with_reducible refine HeldB.gx ?_) | (with_reducible refine HeldB.alloc ?_) | (with_reducible refine HeldB.drew ?_)))); rintro g1 C1 W1 ⟨x1, rfl⟩ hg1 hA1 hl1 hm1 hb1 hp1 hq1)))
  go_ret
  exact ⟨g1, C1, x1, rfl, rfl, hg1, hA1, by omega, hm1, hb1, fun j hj => by have := hq1 j hj; rwa [Nat.zero_add] at this⟩
set_option maxHeartbeats 600000 in
set_option maxRecDepth 100000 in
theorem CloneS_wide (M : List Int) (hM : Bs M) (ad : Addr) (c : Nat) (w : World) (hH : HeldB M (some ad) M.length w) (hm : M.length ≤ 140737488355328) :
    Calls Tryz.prog 33 #[.slice (some ad) M.length c] w fun e w' => ∃ g C x, e = .returned (.slice (some ⟨g, 0, none⟩) M.length C.length) ∧ w' = gx w x ∧ w.heap.size ≤ g ∧ At (gx w x) g (.cells (bc C) 5 (0, 0)) ∧ M.length ≤ C.length ∧ C.length ≤ maxLen ∧ Bs C ∧ ∀ j, j < M.length → gw C j = gw M j := by
  have he : ∀ w : World, (binOp .eql 39 (.slice (some ad) M.length c) (.slice none 0 0)).run Tryz.prog w = .ok (.bool false) w := fun _ => rfl
  go_enter Tryz.func33, Tryz.ntmps33
  go_wp2_with (first | (at_builtin; go_loud (refine append_own w [] M _ 0 (some ad) c rfl _ _ rfl rfl rfl rfl ?_ ?_ ?_ (by decide) (by decide) nil_bs hM ?_ (by omega) ?_; (focus (exact At.new w (.cells #[] 5))); exact (by repeat (first | (with_reducible exact Gx.refl _) | (with_reducible assumption) | (with_reducible refine Gx.gx ?_) | (with_reducible refine Gx.alloc ?_) | (with_reducible refine Gx.drew ?_) | (with_reducible refine Gx.drewN ?_) | (with_reducible refine Gx.setRow ?_ (by simp)) | (with_reducible refine Gx.setCell ?_ (by simp)))); (focus (simp)); (focus (repeat (first | (with_reducible assumption) | (with_reducible refine HeldB.gx ?_) | (with_reducible refine HeldB.alloc ?_) | (with_reducible refine HeldB.drew ?_)))); rintro g1 C1 W1 ⟨x1, rfl⟩ hg1 hA1 hl1 hm1 hb1 hp1 hq1)))
  go_ret
  exact ⟨g1, C1, x1, rfl, rfl, hg1, hA1, by omega, hm1, hb1, fun j hj => by have := hq1 j hj; rwa [Nat.zero_add] at this⟩
set_option maxHeartbeats 400000 in
set_option maxRecDepth 100000 in
theorem CloneB_nil (w : World) : Calls Tryz.prog 85 #[.slice none 0 0] w fun e w' => e = .returned (.slice none 0 0) ∧ ∃ x, w' = gx w x := by
  have he : ∀ w : World, (binOp .eql 39 (.slice none 0 0) (.slice none 0 0)).run Tryz.prog w = .ok (.bool true) w := fun _ => rfl
  go_enter Tryz.func85, Tryz.ntmps85
  go_wp2
  go_ret
  exact ⟨rfl, (by repeat (first | (with_reducible exact Gx.refl _) | (with_reducible assumption) | (with_reducible refine Gx.gx ?_) | (with_reducible refine Gx.alloc ?_) | (with_reducible refine Gx.drew ?_) | (with_reducible refine Gx.drewN ?_) | (with_reducible refine Gx.setRow ?_ (by simp)) | (with_reducible refine Gx.setCell ?_ (by simp))))⟩
set_option maxHeartbeats 400000 in
set_option maxRecDepth 100000 in
theorem CloneS_nil (w : World) : Calls Tryz.prog 33 #[.slice none 0 0] w fun e w' => e = .returned (.slice none 0 0) ∧ ∃ x, w' = gx w x := by
  have he : ∀ w : World, (binOp .eql 39 (.slice none 0 0) (.slice none 0 0)).run Tryz.prog w = .ok (.bool true) w := fun _ => rfl
  go_enter Tryz.func33, Tryz.ntmps33
  go_wp2
  go_ret
  exact ⟨rfl, (by repeat (first | (with_reducible exact Gx.refl _) | (with_reducible assumption) | (with_reducible refine Gx.gx ?_) | (with_reducible refine Gx.alloc ?_) | (with_reducible refine Gx.drew ?_) | (with_reducible refine Gx.drewN ?_) | (with_reducible refine Gx.setRow ?_ (by simp)) | (with_reducible refine Gx.setCell ?_ (by simp))))⟩
set_option maxHeartbeats 400000 in
set_option maxRecDepth 100000 in
theorem write_none (A A2 : Option Addr) (n c c2 : Nat) (p : Int) (hp : 0 ≤ p) (hp' : p ≤ 1000000000) (w : World) :
    Calls Tryz.prog 86 #[.slice A n c, .slice A2 0 c2, .int .i64 p] w fun e w' => e = .returned (.tuple #[.int .i64 p, .bool true]) ∧ ∃ x, w' = gx w x := by
  have h0 : IntKind.i64.wrap p = p := IntWalk.i64_in _ (by omega)
  go_enter Tryz.func86, Tryz.ntmps86
  go_wp2
  refine wp_loop_rounds 1 ?_
  rw [rounds_succ]
  go_wp2
  go_ret2
  exact ⟨by simp, (by repeat (first | (with_reducible exact Gx.refl _) | (with_reducible assumption) | (with_reducible refine Gx.gx ?_) | (with_reducible refine Gx.alloc ?_) | (with_reducible refine Gx.drew ?_) | (with_reducible refine Gx.drewN ?_) | (with_reducible refine Gx.setRow ?_ (by simp)) | (with_reducible refine Gx.setCell ?_ (by simp))))⟩
/-- s[l:] -/
theorem slice_from (g o n c l : Nat) (hl : l ≤ n) (hc : n ≤ c) : ∃ A, (∀ W, (Instr.slice 39 (.slice (some ⟨g, o, none⟩) n c) (some (.int .i64 (l : Int))) none none).run Tryz.prog W = .ok (.slice A (n - l) (c - l)) W) ∧ (l < n → A = some ⟨g, o + l, none⟩) := by
  by_cases hlt : l < c
  · exact ⟨_, fun W => slice_tail g o n c l hl hlt W, fun _ => rfl⟩
  · obtain rfl : c = l := by omega
    obtain rfl : n = c := by omega
    refine ⟨some ⟨g, o, none⟩, fun W => ?_, fun h => absurd h (by omega)⟩
    have ht' : Tryz.prog.underlying 39 = some (.slice (Tryz.prog.elem 39)) := by simp [Program.elem, Tryz.underlying39]
    have he : Tryz.prog.elem 39 = 5 := by simp [Program.elem, Tryz.underlying39]
    rw [run_slice_l W 39 _ _ _ ht' .i64 _ (by omega) (by omega), he, sizeByte]
    simp [Result.andThen, sliced]
theorem slice_nil0 (W : World) : (Instr.slice 39 (.slice none 0 0) (some (.int .i64 0)) none none).run Tryz.prog W = .ok (.slice none 0 0) W := by
  have ht' : Tryz.prog.underlying 39 = some (.slice (Tryz.prog.elem 39)) := by simp [Program.elem, Tryz.underlying39]
  have he : Tryz.prog.elem 39 = 5 := by simp [Program.elem, Tryz.underlying39]
  rw [run_slice_l W 39 _ _ _ ht' .i64 _ (by omega) (by omega), he, sizeByte]
  simp [Result.andThen, sliced]
/-- The error. -/
def pbE (at_ p : Int) (n l : Nat) : Int := if at_ < 0 then 9 else if p < 0 ∨ 1000000000 < p then 9 else if (n : Int) - at_ < l then 3 else 0
theorem pbE_ok {at_ p : Int} {n l : Nat} (h : pbE at_ p n l = 0) : 0 ≤ at_ ∧ 0 ≤ p ∧ p ≤ 1000000000 ∧ (l : Int) ≤ n - at_ := by
  unfold pbE at h
  by_cases h1 : at_ < 0
  · rw [if_pos h1] at h; omega
  · rw [if_neg h1] at h
    by_cases h2 : p < 0 ∨ 1000000000 < p
    · rw [if_pos h2] at h; omega
    · rw [if_neg h2] at h
      by_cases h3 : (n : Int) - at_ < l
      · rw [if_pos h3] at h; omega
      · omega
set_option maxHeartbeats 400000 in
theorem checkPower_bad (p : Int) (h : p < 0 ∨ 1000000000 < p) (w : World) : Calls Tryz.prog 84 #[.int .i64 p] w fun e w' => e = .returned (.int .i64 9) ∧ w = w' := by
  go_enter Tryz.func84, Tryz.ntmps84
  go_wp2
  all_goals first | (exfalso; omega) | (go_ret; exact ⟨rfl, rfl⟩)
set_option maxHeartbeats 400000 in
theorem checkPower_good (p : Int) (h0 : 0 ≤ p) (h1 : p ≤ 1000000000) (w : World) : Calls Tryz.prog 84 #[.int .i64 p] w fun e w' => e = .returned (.int .i64 0) ∧ w = w' := by
  have g1 : decide (p < 0) = false := decide_eq_false (by omega)
  have g2 : decide (1000000000 < p) = false := decide_eq_false (by omega)
  go_enter Tryz.func84, Tryz.ntmps84
  go_wp2
  go_ret
  exact ⟨rfl, rfl⟩
set_option maxHeartbeats 600000 in
set_option maxRecDepth 100000 in
theorem PutBytes_err (at_ p : Int) (A A2 : Option Addr) (n c l c2 : Nat) (hn : n ≤ 140737488355328) (hl : l ≤ 140737488355328) (hat : at_ ≤ 9223372036854775807) (h : pbE at_ p n l ≠ 0) (w : World) :
    Calls Tryz.prog 27 #[.slice A n c, .int .i64 at_, .slice A2 l c2, .int .i64 p] w fun e w' => e = .returned (.tuple #[.int .i64 0, .bool false, .int .i64 (pbE at_ p n l)]) ∧ ∃ x, w' = gx w x := by
  unfold pbE at *
  by_cases h1 : at_ < 0
  · rw [if_pos h1]
    clear h
    go_enter Tryz.func27, Tryz.ntmps27
    go_wp2
    go_ret3
    exact ⟨rfl, (by repeat (first | (with_reducible exact Gx.refl _) | (with_reducible assumption) | (with_reducible refine Gx.gx ?_) | (with_reducible refine Gx.alloc ?_) | (with_reducible refine Gx.drew ?_) | (with_reducible refine Gx.drewN ?_) | (with_reducible refine Gx.setRow ?_ (by simp)) | (with_reducible refine Gx.setCell ?_ (by simp))))⟩
  · rw [if_neg h1] at h ⊢
    by_cases h2 : p < 0 ∨ 1000000000 < p
    · rw [if_pos h2]
      have H2 := Lib.hid h2
      clear h h2
      go_enter Tryz.func27, Tryz.ntmps27
      go_wp2_with (go_at_call 84; refine (checkPower_bad _ H2.out _).mono ?_; rintro e w' ⟨rfl, rfl⟩)
      go_ret3
      exact ⟨rfl, (by repeat (first | (with_reducible exact Gx.refl _) | (with_reducible assumption) | (with_reducible refine Gx.gx ?_) | (with_reducible refine Gx.alloc ?_) | (with_reducible refine Gx.drew ?_) | (with_reducible refine Gx.drewN ?_) | (with_reducible refine Gx.setRow ?_ (by simp)) | (with_reducible refine Gx.setCell ?_ (by simp))))⟩
    · rw [if_neg h2] at h ⊢
      have h3 : (n : Int) - at_ < l := by
        by_cases h3 : (n : Int) - at_ < l
        · exact h3
        · rw [if_neg h3] at h; exact absurd rfl h
      rw [if_pos h3]
      have p0 : 0 ≤ p := by omega
      have p1 : p ≤ 1000000000 := by omega
      have hw : IntKind.i64.wrap ((n : Int) - at_) = (n : Int) - at_ := IntWalk.i64_in _ (by omega)
      clear h h2
      go_enter Tryz.func27, Tryz.ntmps27
      go_wp2_with (go_at_call 84; refine (checkPower_good _ p0 p1 _).mono ?_; rintro e w' ⟨rfl, rfl⟩)
      go_ret3
      exact ⟨rfl, (by repeat (first | (with_reducible exact Gx.refl _) | (with_reducible assumption) | (with_reducible refine Gx.gx ?_) | (with_reducible refine Gx.alloc ?_) | (with_reducible refine Gx.drew ?_) | (with_reducible refine Gx.drewN ?_) | (with_reducible refine Gx.setRow ?_ (by simp)) | (with_reducible refine Gx.setCell ?_ (by simp))))⟩
/-- What lies there behind it. -/
def pbC (C D : List Int) (q : Nat) (p : Int) : List Int := if (D.length : Int) ≤ p then wrB C D q D.length else wrT C D q p.toNat
def pbV (D : List Int) (p : Int) : Int := if (D.length : Int) ≤ p then p - D.length else 0
theorem pbC_len (C D : List Int) (q : Nat) (p : Int) : (pbC C D q p).length = C.length := by
  unfold pbC
  split
  · exact wrB_len _ _ _ _
  · exact wrT_len _ _ _ _
set_option maxHeartbeats 1000000 in
set_option maxRecDepth 100000 in
theorem PutBytes_ok (C D : List Int) (hD : Bs D) (g o n c : Nat) (A2 : Option Addr) (c2 : Nat) (at_ p : Int) (hE : pbE at_ p n D.length = 0) (hC : o + n ≤ C.length) (hnc : n ≤ c) (hn : n ≤ 140737488355328) (w : World) (hA : At w g (.cells (bc C) 5 (0, 0))) (hH : HeldB D A2 D.length w) (hN : A2 = none → c2 = 0) :
    Calls Tryz.prog 27 #[.slice (some ⟨g, o, none⟩) n c, .int .i64 at_, .slice A2 D.length c2, .int .i64 p] w fun e w' => e = .returned (.tuple #[.int .i64 (pbV D p), .bool (decide ((D.length : Int) ≤ p)), .int .i64 0]) ∧ ∃ x, w' = gx (w.setRow g (bc (pbC C D (o + at_.toNat) p))) x := by
  obtain ⟨a0, p0, p1, hl⟩ := pbE_ok hE
  obtain ⟨q, rfl⟩ : ∃ q : Nat, at_ = q := ⟨at_.toNat, by omega⟩
  have hw : IntKind.i64.wrap ((n : Int) - (q : Int)) = (n : Int) - q := IntWalk.i64_in _ (by omega)
  have hge : decide ((n : Int) - q < D.length) = false := decide_eq_false (by omega)
  have hlt0 : decide ((q : Int) < 0) = false := decide_eq_false (by omega)
  obtain ⟨T, hT1, hT2⟩ := slice_from g o n c q (by omega) hnc
  have hg := hA.lt
  rw [Int.toNat_natCast]
  rcases Nat.eq_zero_or_pos D.length with h0 | h0
  · have e1 : D = [] := List.eq_nil_of_length_eq_zero h0
    subst e1
    have hself : w.setRow g (bc (pbC C [] (o + q) p)) = w := by
      unfold pbC
      rw [if_pos (by simpa using p0)]
      show w.setRow g (bc (wrB C [] (o + q) 0)) = w
      rw [wrB_0]
      exact hA.self
    rw [hself]
    have hV : pbV [] p = p := by unfold pbV; rw [if_pos (by simpa using p0)]; simp
    have hd : decide ((([] : List Int).length : Int) ≤ p) = true := decide_eq_true (by simpa using p0)
    rw [hV, hd]
    show Calls Tryz.prog 27 #[.slice (some ⟨g, o, none⟩) n c, .int .i64 (q : Int), .slice A2 0 c2, .int .i64 p] w _
    have hge' : decide ((n : Int) - q < 0) = false := decide_eq_false (by simp at hl; omega)
    clear hself hV hd hge hE hA hT2 hl
    cases A2 with
    | none =>
      obtain rfl := hN rfl
      clear hH hN
      go_enter Tryz.func27, Tryz.ntmps27
      go_wp2_with (first | (go_at_call 84; refine (checkPower_good _ p0 p1 _).mono ?_; rintro e w' ⟨rfl, rfl⟩) | (go_at_call 85; go_loud (refine (CloneB_nil _).mono ?_; rintro e w' ⟨rfl, z, rfl⟩)) | (go_at_call 86; go_loud (refine (write_none _ _ _ _ _ p p0 p1 _).mono ?_; rintro e w' ⟨rfl, z, rfl⟩)))
      go_ret3
      exact ⟨rfl, (by repeat (first | (with_reducible exact Gx.refl _) | (with_reducible assumption) | (with_reducible refine Gx.gx ?_) | (with_reducible refine Gx.alloc ?_) | (with_reducible refine Gx.drew ?_) | (with_reducible refine Gx.drewN ?_) | (with_reducible refine Gx.setRow ?_ (by simp)) | (with_reducible refine Gx.setCell ?_ (by simp))))⟩
    | some ad =>
      clear hN
      go_enter Tryz.func27, Tryz.ntmps27
      go_wp2_with (first | (go_at_call 84; refine (checkPower_good _ p0 p1 _).mono ?_; rintro e w' ⟨rfl, rfl⟩) | (go_at_call 85; go_loud (refine (CloneB_wide [] nil_bs ad c2 _ hH (by simp)).mono ?_; rintro e w' ⟨g1, C1, z, rfl, rfl, -⟩)) | (go_at_call 86; go_loud (refine (write_none _ _ _ _ _ p p0 p1 _).mono ?_; rintro e w' ⟨rfl, z, rfl⟩)))
      go_ret3
      exact ⟨rfl, (by repeat (first | (with_reducible exact Gx.refl _) | (with_reducible assumption) | (with_reducible refine Gx.gx ?_) | (with_reducible refine Gx.alloc ?_) | (with_reducible refine Gx.drew ?_) | (with_reducible refine Gx.drewN ?_) | (with_reducible refine Gx.setRow ?_ (by simp)) | (with_reducible refine Gx.setCell ?_ (by simp))))⟩
  · have hTq := hT2 (by omega)
    subst hTq
    cases A2 with
    | none =>
      unfold HeldB at hH
      obtain ⟨b, o', e, -⟩ := hH h0
      cases e
    | some ad =>
      have HH := Lib.hid hH
      have hDm : D.length ≤ 140737488355328 := by omega
      have key : ∀ W B, (∃ z, W = gx (w.setRow g (bc B)) z) → ∃ x, W = gx (w.setRow g (bc B)) x := fun _ _ h => h
      have hq1 : o + q + D.length ≤ C.length := by omega
      have hnq : n - q ≤ 9223372036854775807 := by omega
      have hDn : D.length ≤ n - q := by omega
      by_cases hp : (D.length : Int) ≤ p
      · have hb : pbC C D (o + q) p = wrB C D (o + q) D.length := by unfold pbC; rw [if_pos hp]
        have hv : pbV D p = p - D.length := by unfold pbV; rw [if_pos hp]
        have hd : decide ((D.length : Int) ≤ p) = true := decide_eq_true hp
        rw [hb, hv, hd]
        clear hb hv hd hE hH hN hT2 key hl
        go_enter Tryz.func27, Tryz.ntmps27
        go_wp2_with (first | (go_at_call 84; refine (checkPower_good _ p0 p1 _).mono ?_; rintro e w' ⟨rfl, rfl⟩) | (go_at_call 85; go_loud (refine (CloneB_wide D hD ad c2 _ HH.out hDm).mono ?_; rintro e w' ⟨g1, C1, z, rfl, rfl, hg1, hA1, hl1, hm1, -, hv1⟩)) | (go_at_call 86; go_loud (refine (write_full C D g (o + q) (n - q) (c - q) g1 0 C1.length p hDn hq1 hnq (by omega) hp (by omega) _ (At.gx hA) ?_).mono ?_; (focus (intro j hj; rw [Nat.zero_add, cell_of_row _ _ _ _ _ _ hA1, bc_get _ _ (by omega), hv1 j hj])); rintro e w' ⟨rfl, z2, rfl⟩)))
        go_ret3
        exact ⟨rfl, _, rfl⟩
      · obtain ⟨k, rfl⟩ : ∃ k : Nat, p = k := ⟨p.toNat, by omega⟩
        have hb : pbC C D (o + q) (k : Int) = wrT C D (o + q) k := by unfold pbC; rw [if_neg hp, Int.toNat_natCast]
        have hv : pbV D (k : Int) = 0 := by unfold pbV; rw [if_neg hp]
        have hd : decide ((D.length : Int) ≤ (k : Int)) = false := decide_eq_false hp
        rw [hb, hv, hd]
        clear hb hv hd hE hH hN hT2 key hl
        go_enter Tryz.func27, Tryz.ntmps27
        go_wp2_with (first | (go_at_call 84; refine (checkPower_good _ p0 p1 _).mono ?_; rintro e w' ⟨rfl, rfl⟩) | (go_at_call 85; go_loud (refine (CloneB_wide D hD ad c2 _ HH.out hDm).mono ?_; rintro e w' ⟨g1, C1, z, rfl, rfl, hg1, hA1, hl1, hm1, -, hv1⟩)) | (go_at_call 86; go_loud (refine (write_torn C D g (o + q) (n - q) (c - q) g1 0 C1.length k hDn hq1 hnq (by omega) (by omega) _ (At.gx hA) ?_).mono ?_; (focus (intro j hj; rw [Nat.zero_add, cell_of_row _ _ _ _ _ _ hA1, bc_get _ _ (by omega), hv1 j hj])); rintro e w' ⟨rfl, z2, rfl⟩)))
        go_ret3
        exact ⟨rfl, _, rfl⟩
end Go.Proofs.YthkccbeffonaaaaGreatDoor

/-
  RingBitsGoOneWay: the walk.
-/
namespace Go.Proofs.YthkccbeffonaaaaGreatDoor
open Go.RowKit
-- AT2

theorem land_not (x : Nat) (h : x < 256) : x &&& (255 - x) = 0 := by
  have : ∀ x : Fin 256, x.val &&& (255 - x.val) = 0 := by decide +kernel
  exact this ⟨x, h⟩
theorem andNot_self (s : Int) (h0 : 0 ≤ s) (h1 : s ≤ 255) : bits .andNot .u8 s s = 0 := by
  rw [u8_andNot s s h0 (by omega) h0 (by omega), land_not _ (by omega)]
  rfl
theorem andNot_and (s e : Int) (h0 : 0 ≤ s) (h1 : s ≤ 255) (h2 : 0 ≤ e) (h3 : e ≤ 255) : bits .andNot .u8 (bits .and .u8 s e) s = 0 := by
  rw [u8_and s e h0 (by omega) h2 (by omega)]
  have hlt : s.toNat &&& e.toNat < 256 := Nat.and_lt_two_pow (n := 8) _ (by omega)
  rw [u8_andNot _ s (by omega) (by omega) h0 (by omega), Int.toNat_natCast, Nat.and_comm s.toNat, Nat.and_assoc, land_not _ (by omega), Nat.and_zero]
  rfl
theorem or_bd (b : Int) (h0 : 0 ≤ b) (h1 : b ≤ 255) : 0 ≤ bits .or .u8 b 15 ∧ bits .or .u8 b 15 ≤ 255 := by
  rw [u8_or b 15 h0 (by omega) (by omega) (by omega)]
  have : b.toNat ||| (15 : Int).toNat < 256 := Nat.or_lt_two_pow (n := 8) (by omega) (by decide)
  omega
theorem andNot_andB (s e : Int) (h0 : 0 ≤ s) (h1 : s ≤ 255) (h2 : 0 ≤ e) (h3 : e ≤ 255) : bits .andNot .u8 (andB s e) s = 0 := by
  rw [← andB_eq]; exact andNot_and s e h0 h1 h2 h3
theorem andNot_tornB (s e : Int) (h0 : 0 ≤ s) (h1 : s ≤ 255) (h2 : 0 ≤ e) (h3 : e ≤ 255) : bits .andNot .u8 (tornB s e) s = 0 := by
  rw [← tornB_eq]
  have := or_bd e h2 h3
  exact andNot_and s _ h0 h1 this.1 this.2
/-- How many of the first k bytes differ. -/
def cntD (C D : List Int) : Nat → Nat
  | 0 => 0
  | k + 1 => cntD C D k + if gw C k = gw D k then 0 else 1
theorem cntD_eq {C D : List Int} {k : Nat} (h : gw C k = gw D k) : cntD C D (k + 1) = cntD C D k := by show cntD C D k + _ = _; rw [if_pos h]; rfl
theorem cntD_ne {C D : List Int} {k : Nat} (h : ¬ gw C k = gw D k) : cntD C D (k + 1) = cntD C D k + 1 := by show cntD C D k + _ = _; rw [if_neg h]
theorem cntD_0 (C D : List Int) : cntD C D 0 = 0 := rfl
theorem cntD_le (C D : List Int) (a m n : Nat) (h : ∀ j, j < n → gw C j ≠ gw D j → a ≤ j ∧ j < a + m) : ∀ k, k ≤ n → cntD C D k ≤ min k (a + m) - a
  | 0, _ => by rw [cntD_0]; omega
  | k + 1, hk => by
    have ih := cntD_le C D a m n h k (by omega)
    by_cases e : gw C k = gw D k
    · rw [cntD_eq e]; omega
    · rw [cntD_ne e]
      have := h k (by omega) e
      omega
theorem cntD_bd (C D : List Int) : ∀ k, cntD C D k ≤ k
  | 0 => by rw [cntD_0]; omega
  | k + 1 => by
    have ih := cntD_bd C D k
    by_cases e : gw C k = gw D k
    · rw [cntD_eq e]; omega
    · rw [cntD_ne e]; omega
attribute [irreducible] cntD
theorem gw_wrT (C D : List Int) (q k : Nat) (h : q + k < C.length) (x : Nat) : gw (wrT C D q k) x = if x = q + k then tornB (gw C (q + k)) (gw D k) else gw (wrB C D q k) x := by
  rw [← wrT_is, gw_set _ _ _ _ (by rw [wrB_len]; exact h)]
/-- What was written goes one way. -/
theorem pbC_andNot {C D : List Int} (hC : Bs C) (hD : Bs D) (q : Nat) (p : Int) (hp : 0 ≤ p) (h : q + D.length ≤ C.length) (j : Nat) : bits .andNot .u8 (gw (pbC C D q p) j) (gw C j) = 0 := by
  have c0 := (hC j).1
  have c1 := (hC j).2
  unfold pbC
  by_cases hl : (D.length : Int) ≤ p
  · rw [if_pos hl, gw_wrB _ _ _ _ h]
    split
    · exact andNot_andB _ _ c0 c1 (hD _).1 (hD _).2
    · exact andNot_self _ c0 c1
  · rw [if_neg hl, gw_wrT _ _ _ _ (by omega)]
    split
    · rename_i e
      subst e
      exact andNot_tornB _ _ c0 c1 (hD _).1 (hD _).2
    · rw [gw_wrB _ _ _ _ (by omega)]
      split
      · exact andNot_andB _ _ c0 c1 (hD _).1 (hD _).2
      · exact andNot_self _ c0 c1
theorem pbC_win {C D : List Int} (q : Nat) (p : Int) (hp : 0 ≤ p) (h : q + D.length ≤ C.length) (j : Nat) (hne : gw (pbC C D q p) j ≠ gw C j) : q ≤ j ∧ j < q + (p + 1).toNat := by
  unfold pbC at hne
  by_cases hl : (D.length : Int) ≤ p
  · rw [if_pos hl, gw_wrB _ _ _ _ h] at hne
    split at hne
    · omega
    · exact absurd rfl hne
  · rw [if_neg hl, gw_wrT _ _ _ _ (by omega)] at hne
    split at hne
    · omega
    · rw [gw_wrB _ _ _ _ (by omega)] at hne
      split at hne
      · omega
      · exact absurd rfl hne
theorem pbC_cnt {C D S : List Int} {n : Nat} (hS : ∀ j, j < n → gw C j = gw S j) (q : Nat) (p : Int) (hp : 0 ≤ p) (h : q + D.length ≤ C.length) (k : Nat) (hk : k ≤ n) : (cntD (pbC C D q p) S k : Int) ≤ p + 1 := by
  have := cntD_le (pbC C D q p) S q (p + 1).toNat n (fun j hj hne => pbC_win q p hp h j (by rw [hS j hj]; exact hne)) k hk
  omega
theorem cnt_same {C S : List Int} {n : Nat} (hS : ∀ j, j < n → gw C j = gw S j) (k : Nat) (hk : k ≤ n) : cntD C S k = 0 := by
  have := cntD_le C S 0 0 n (fun j hj hne => absurd (hS j hj) hne) k hk
  omega
set_option maxHeartbeats 600000 in
set_option maxRecDepth 100000 in
theorem PutBytes_nil (A2 : Option Addr) (c2 : Nat) (p : Int) (p0 : 0 ≤ p) (p1 : p ≤ 1000000000) (w : World) (hH : HeldB [] A2 0 w) (hN : A2 = none → c2 = 0) :
    Calls Tryz.prog 27 #[.slice none 0 0, .int .i64 0, .slice A2 0 c2, .int .i64 p] w fun e w' => e = .returned (.tuple #[.int .i64 p, .bool true, .int .i64 0]) ∧ ∃ x, w' = gx w x := by
  have hT1 := slice_nil0
  cases A2 with
  | none =>
    obtain rfl := hN rfl
    clear hH hN
    go_enter Tryz.func27, Tryz.ntmps27
    go_wp2_with (first | (go_at_call 84; refine (checkPower_good _ p0 p1 _).mono ?_; rintro e w' ⟨rfl, rfl⟩) | (go_at_call 85; go_loud (refine (CloneB_nil _).mono ?_; rintro e w' ⟨rfl, z, rfl⟩)) | (go_at_call 86; go_loud (refine (write_none _ _ _ _ _ p p0 p1 _).mono ?_; rintro e w' ⟨rfl, z, rfl⟩)))
    go_ret3
    exact ⟨rfl, (by repeat (first | (with_reducible exact Gx.refl _) | (with_reducible assumption) | (with_reducible refine Gx.gx ?_) | (with_reducible refine Gx.alloc ?_) | (with_reducible refine Gx.drew ?_) | (with_reducible refine Gx.drewN ?_) | (with_reducible refine Gx.setRow ?_ (by simp)) | (with_reducible refine Gx.setCell ?_ (by simp))))⟩
  | some ad =>
    clear hN
    go_enter Tryz.func27, Tryz.ntmps27
    go_wp2_with (first | (go_at_call 84; refine (checkPower_good _ p0 p1 _).mono ?_; rintro e w' ⟨rfl, rfl⟩) | (go_at_call 85; go_loud (refine (CloneB_wide [] nil_bs ad c2 _ hH (by simp)).mono ?_; rintro e w' ⟨g1, C1, z, rfl, rfl, -⟩)) | (go_at_call 86; go_loud (refine (write_none _ _ _ _ _ p p0 p1 _).mono ?_; rintro e w' ⟨rfl, z, rfl⟩)))
    go_ret3
    exact ⟨rfl, (by repeat (first | (with_reducible exact Gx.refl _) | (with_reducible assumption) | (with_reducible refine Gx.gx ?_) | (with_reducible refine Gx.alloc ?_) | (with_reducible refine Gx.drew ?_) | (with_reducible refine Gx.drewN ?_) | (with_reducible refine Gx.setRow ?_ (by simp)) | (with_reducible refine Gx.setCell ?_ (by simp))))⟩
/-- The bytes of a slice. -/
theorem bits_held {D0 : List Int} {A0 : Option Addr} {W : World} (h : HeldB D0 A0 D0.length W) : 0 < D0.length → ∃ b o, A0 = some ⟨b, o, none⟩ ∧ ∀ j, j < D0.length → W.cell? ⟨b, o + j, none⟩ = some (.int .u8 (gw D0 j)) := by
  unfold HeldB at h
  exact h
set_option maxHeartbeats 2000000 in
set_option maxRecDepth 100000 in
theorem bitsLaw (D0 D2 : List Int) (hb0 : Bs D0) (hb2 : Bs D2) (A0 A2 : Option Addr) (c0 c2 : Nat) (at_ p : Int) (hat : at_ ≤ 9223372036854775807) (w : World) (hT : Tab w) (hH0 : HeldB D0 A0 D0.length w) (hN0 : A0 = none → c0 = 0) (hm0 : D0.length ≤ 140737488355328) (hH2 : HeldB D2 A2 D2.length w) (hN2 : A2 = none → c2 = 0) (hm2 : D2.length ≤ 140737488355328) :
    Calls Tryz.prog 6 #[.slice A0 D0.length c0, .int .i64 at_, .slice A2 D2.length c2, .int .i64 p] w fun e w' => e = .returned (.bool true) ∧ ∃ x, w' = gx w x := by
  have HH0 := Lib.hid hH0
  have HH2 := Lib.hid hH2
  cases A0 with
  | none =>
    obtain rfl := hN0 rfl
    have e0 : D0 = [] := by
      rcases Nat.eq_zero_or_pos D0.length with h | h
      · exact List.eq_nil_of_length_eq_zero h
      · obtain ⟨b, o, e, -⟩ := bits_held hH0 h
        cases e
    subst e0
    clear hH0 hH2 hN0 HH0
    show Calls Tryz.prog 6 #[.slice none 0 0, .int .i64 at_, .slice A2 D2.length c2, .int .i64 p] w _
    by_cases hE : pbE at_ p 0 D2.length = 0
    · obtain ⟨a0, p0, p1, hl⟩ := pbE_ok hE
      have h2 : D2 = [] := List.eq_nil_of_length_eq_zero (by omega)
      subst h2
      obtain rfl : at_ = 0 := by simp at hl; omega
      show Calls Tryz.prog 6 #[.slice none 0 0, .int .i64 0, .slice A2 0 c2, .int .i64 p] w _
      have hw1 : IntKind.i64.wrap (p + 1) = p + 1 := IntWalk.i64_in _ (by omega)
      have hd : decide ((0 : Int) ≤ p + 1) = true := decide_eq_true (by omega)
      clear hE hl a0
      go_enter Tryz.func6, Tryz.ntmps6
      go_wp2_with (first | (go_at_call 33; go_loud (refine (CloneS_nil _).mono ?_; rintro e w' ⟨rfl, z, rfl⟩)) | (go_at_call 27; go_loud (refine (PutBytes_nil A2 c2 p p0 p1 _ (HeldB.gx HH2.out) hN2).mono ?_; rintro e w' ⟨rfl, z2, rfl⟩)))
      refine wp_loop_rounds 1 ?_
      rw [rounds_succ]
      go_wp2_with (go_at_call 18; go_loud (refine (keptGuard _ ?_).mono ?_; (focus (refine Tab.of_gx' hT ?_; exact (by repeat (first | (with_reducible exact Gx.refl _) | (with_reducible assumption) | (with_reducible refine Gx.gx ?_) | (with_reducible refine Gx.alloc ?_) | (with_reducible refine Gx.drew ?_) | (with_reducible refine Gx.drewN ?_) | (with_reducible refine Gx.setRow ?_ (by simp)) | (with_reducible refine Gx.setCell ?_ (by simp)))))); rintro e w' ⟨rfl, z4, rfl⟩))
      go_ret
      exact ⟨rfl, (by repeat (first | (with_reducible exact Gx.refl _) | (with_reducible assumption) | (with_reducible refine Gx.gx ?_) | (with_reducible refine Gx.alloc ?_) | (with_reducible refine Gx.drew ?_) | (with_reducible refine Gx.drewN ?_) | (with_reducible refine Gx.setRow ?_ (by simp)) | (with_reducible refine Gx.setCell ?_ (by simp))))⟩
    · have HE := Lib.hid hE
      have hE2 : (pbE at_ p 0 D2.length == 0) = false := by simpa using hE
      generalize hEE : pbE at_ p 0 D2.length = E at *
      have HP : Hid (∀ W, Calls Tryz.prog 27 #[.slice none 0 0, .int .i64 at_, .slice A2 D2.length c2, .int .i64 p] W fun e w' => e = .returned (.tuple #[.int .i64 0, .bool false, .int .i64 E]) ∧ ∃ x, w' = gx W x) := Lib.hid (fun W => by
        have h := PutBytes_err at_ p none A2 0 0 D2.length c2 (by omega) hm2 hat (by rw [hEE]; exact HE.out) W
        rw [hEE] at h
        exact h)
      clear hEE
      go_enter Tryz.func6, Tryz.ntmps6
      go_wp2_with (first | (go_at_call 33; go_loud (refine (CloneS_nil _).mono ?_; rintro e w' ⟨rfl, z, rfl⟩)) | (go_at_call 27; go_loud (refine (HP.out _).mono ?_; rintro e w' ⟨rfl, z2, rfl⟩)))
      refine wp_loop_rounds 1 ?_
      rw [rounds_succ]
      go_wp2_with (go_at_call 18; go_loud (refine (keptGuard _ ?_).mono ?_; (focus (refine Tab.of_gx' hT ?_; exact (by repeat (first | (with_reducible exact Gx.refl _) | (with_reducible assumption) | (with_reducible refine Gx.gx ?_) | (with_reducible refine Gx.alloc ?_) | (with_reducible refine Gx.drew ?_) | (with_reducible refine Gx.drewN ?_) | (with_reducible refine Gx.setRow ?_ (by simp)) | (with_reducible refine Gx.setCell ?_ (by simp)))))); rintro e w' ⟨rfl, z4, rfl⟩))
      go_ret
      exact ⟨rfl, (by repeat (first | (with_reducible exact Gx.refl _) | (with_reducible assumption) | (with_reducible refine Gx.gx ?_) | (with_reducible refine Gx.alloc ?_) | (with_reducible refine Gx.drew ?_) | (with_reducible refine Gx.drewN ?_) | (with_reducible refine Gx.setRow ?_ (by simp)) | (with_reducible refine Gx.setCell ?_ (by simp))))⟩
  | some ad =>
    by_cases hE : pbE at_ p D0.length D2.length = 0
    · obtain ⟨a0, p0, p1, hl⟩ := pbE_ok hE
      have HP : Hid (∀ (C : List Int) (g : Nat) (W : World), (∃ x, W = gx w x) → At W g (.cells (bc C) 5 (0, 0)) → D0.length ≤ C.length → Calls Tryz.prog 27 #[.slice (some ⟨g, 0, none⟩) D0.length C.length, .int .i64 at_, .slice A2 D2.length c2, .int .i64 p] W fun e w' => e = .returned (.tuple #[.int .i64 (pbV D2 p), .bool (decide ((D2.length : Int) ≤ p)), .int .i64 0]) ∧ ∃ x, w' = gx (W.setRow g (bc (pbC C D2 at_.toNat p))) x) := Lib.hid (fun C g W hW hA h1 => by
        have h := PutBytes_ok C D2 hb2 g 0 D0.length C.length A2 c2 at_ p hE (by omega) h1 hm0 W hA (HeldB.of_gx HH2.out hW) hN2
        rw [Nat.zero_add] at h
        exact h)
      have hw1 : IntKind.i64.wrap (p + 1) = p + 1 := IntWalk.i64_in _ (by omega)
      clear hH0 hH2 hE
      go_enter Tryz.func6, Tryz.ntmps6
      go_wp2_with (first | (go_at_call 33; go_loud (refine (CloneS_wide D0 hb0 ad c0 _ HH0.out hm0).mono ?_; rintro e W1 ⟨g1, C1, z, rfl, hW1, hg1, hA1, hl1, hm1, hbC, hv1⟩; rw [← hW1] at hA1; have hG1 : ∃ x, W1 = gx w x := (hW1 ▸ (by repeat (first | (with_reducible exact Gx.refl _) | (with_reducible assumption) | (with_reducible refine Gx.gx ?_) | (with_reducible refine Gx.alloc ?_) | (with_reducible refine Gx.drew ?_) | (with_reducible refine Gx.drewN ?_) | (with_reducible refine Gx.setRow ?_ (by simp)) | (with_reducible refine Gx.setCell ?_ (by simp))))); clear hW1)) | (go_at_call 27; go_loud (refine (HP.out C1 g1 _ hG1 hA1 hl1).mono ?_; rintro e W2 ⟨rfl, z2, hW2⟩; have hG2 : ∃ x, W2 = gx w x := (by rw [hW2]; exact Gx.gx (Gx.setRow hG1 hg1)); have hA2 : At W2 g1 (.cells (bc (pbC C1 D2 at_.toNat p)) 5 (0, 0)) := (by rw [hW2]; exact At.gx (At.row ⟨_, hA1⟩)); clear hW2)))
      have HS2 := Lib.hid (bits_held (HeldB.of_gx HH0.out hG2))
      have hql : at_.toNat + D2.length ≤ C1.length := by omega
      have HAN : Hid (∀ j, j < D0.length → bits .andNot .u8 (gw (pbC C1 D2 at_.toNat p) j) (gw D0 j) = 0) := Lib.hid (fun j hj => by rw [← hv1 j hj]; exact pbC_andNot hbC hb2 _ p p0 hql j)
      have HCN : Hid (∀ k, k ≤ D0.length → (cntD (pbC C1 D2 at_.toNat p) D0 k : Int) ≤ p + 1) := Lib.hid (fun k hk => pbC_cnt hv1 _ p p0 hql k hk)
      have hcl : (pbC C1 D2 at_.toNat p).length = C1.length := pbC_len _ _ _ _
      clear hv1 HP
      generalize pbC C1 D2 at_.toNat p = C' at *
      go_loopw [28, 13] (fun i u wr => ∃ k : Nat, k ≤ D0.length ∧ i = .int .i64 k ∧ u = .int .i64 (cntD C' D0 k) ∧ ∃ x, wr = gx W2 x) (fun i _ _ => D0.length - (intOf i).toNat)
      case atStart => exact ⟨0, by omega, rfl, by rw [cntD_0]; rfl, Gx.refl _⟩
      case round =>
        obtain ⟨k, hk, rfl, rfl, y, rfl⟩ := hrel
        have hcb := cntD_bd C' D0 k
        by_cases hlt : k < D0.length
        · obtain ⟨b, o, e, hcs⟩ := HS2.out (by omega)
          obtain rfl := Option.some.inj e
          have q1 : W2.cell? ⟨b, o + k, none⟩ = some (.int .u8 (gw D0 k)) := hcs k hlt
          have l1 : b < W2.heap.size := World.block_lt_of_cell? _ _ q1
          have q2 : W2.cell? ⟨g1, k, none⟩ = some (.int .u8 (gw C' k)) := by rw [cell_of_row _ _ _ _ _ _ hA2, bc_get _ _ (by omega)]
          have l2 : g1 < W2.heap.size := hA2.lt
          have q3 := HAN.out k hlt
          have hwr : IntKind.i64.wrap ((cntD C' D0 k : Int) + 1) = (cntD C' D0 k : Int) + 1 := IntWalk.i64_in _ (by omega)
          clear hcs
          by_cases heq : gw C' k = gw D0 k
          · have hc1 := cntD_eq heq
            have Heq := Lib.hid heq
            have hd1 : (gw C' k == gw D0 k) = true := by rw [heq]; simp
            clear heq
            go_wp2
            first | (with_reducible refine region_gxx (by kernel_rfl) (by kernel_rfl) ?_) | (with_reducible refine region_gx (by kernel_rfl) (by kernel_rfl) ?_)
            repeat (any_goals (first | (refine quiet_fr rfl _ rfl _ rfl ?_ ?_ ?_ ?_; rotate_left; (focus (rintro _ ⟨x, rfl⟩; (focus (repeat (first | (with_reducible assumption) | (with_reducible exact At.new _ _) | (with_reducible refine At.row ?_) | (with_reducible refine At.app ?_) | (with_reducible refine At.tick ?_) | (with_reducible refine At.gx ?_) | ((with_reducible refine At.new' ?_); focus (simp; done)) | (with_reducible refine At.alloc ?_) | (with_reducible refine At.drew ?_) | (with_reducible exact Is.new _ _ _) | (with_reducible refine Is.row ?_) | (with_reducible refine Is.gx ?_) | ((with_reducible refine Is.new' ?_); focus (simp; done)) | (with_reducible refine Is.alloc ?_) | (with_reducible refine Is.drew ?_)))))); (focus (with_reducible (first | exact hl | exact hl1 | exact hl2 | exact hl3 | exact hl4 | exact zeroF_len)))) | go_big_quiet_step ((first | (fail))) | quiet_step ((first | (fail)))))
            refine wpQuiet_nil ?_
            rintro _ ⟨x, rfl⟩
            go_wp2
            first | (with_reducible refine region_gxx (by kernel_rfl) (by kernel_rfl) ?_) | (with_reducible refine region_gx (by kernel_rfl) (by kernel_rfl) ?_)
            repeat (any_goals (first | (refine quiet_fr rfl _ rfl _ rfl ?_ ?_ ?_ ?_; rotate_left; (focus (rintro _ ⟨x, rfl⟩; (focus (repeat (first | (with_reducible assumption) | (with_reducible exact At.new _ _) | (with_reducible refine At.row ?_) | (with_reducible refine At.app ?_) | (with_reducible refine At.tick ?_) | (with_reducible refine At.gx ?_) | ((with_reducible refine At.new' ?_); focus (simp; done)) | (with_reducible refine At.alloc ?_) | (with_reducible refine At.drew ?_) | (with_reducible exact Is.new _ _ _) | (with_reducible refine Is.row ?_) | (with_reducible refine Is.gx ?_) | ((with_reducible refine Is.new' ?_); focus (simp; done)) | (with_reducible refine Is.alloc ?_) | (with_reducible refine Is.drew ?_)))))); (focus (with_reducible (first | exact hl | exact hl1 | exact hl2 | exact hl3 | exact hl4 | exact zeroF_len)))) | go_big_quiet_step ((first | (fail))) | quiet_step ((first | (fail)))))
            refine wpQuiet_nil ?_
            rintro _ ⟨x, rfl⟩
            go_wp2
            go_roundw
            case rel => exact ⟨k + 1, by omega, by go_num, by rw [hc1], (by repeat (first | (with_reducible exact Gx.refl _) | (with_reducible assumption) | (with_reducible refine Gx.gx ?_) | (with_reducible refine Gx.alloc ?_) | (with_reducible refine Gx.drew ?_) | (with_reducible refine Gx.drewN ?_) | (with_reducible refine Gx.setRow ?_ (by simp)) | (with_reducible refine Gx.setCell ?_ (by simp))))⟩
            case measure => simp [intOf]; omega
          · have hc1 := cntD_ne heq
            have hd1 : (gw C' k == gw D0 k) = false := by simpa using heq
            go_wp2
            first | (with_reducible refine region_gxx (by kernel_rfl) (by kernel_rfl) ?_) | (with_reducible refine region_gx (by kernel_rfl) (by kernel_rfl) ?_)
            repeat (any_goals (first | (refine quiet_fr rfl _ rfl _ rfl ?_ ?_ ?_ ?_; rotate_left; (focus (rintro _ ⟨x, rfl⟩; (focus (repeat (first | (with_reducible assumption) | (with_reducible exact At.new _ _) | (with_reducible refine At.row ?_) | (with_reducible refine At.app ?_) | (with_reducible refine At.tick ?_) | (with_reducible refine At.gx ?_) | ((with_reducible refine At.new' ?_); focus (simp; done)) | (with_reducible refine At.alloc ?_) | (with_reducible refine At.drew ?_) | (with_reducible exact Is.new _ _ _) | (with_reducible refine Is.row ?_) | (with_reducible refine Is.gx ?_) | ((with_reducible refine Is.new' ?_); focus (simp; done)) | (with_reducible refine Is.alloc ?_) | (with_reducible refine Is.drew ?_)))))); (focus (with_reducible (first | exact hl | exact hl1 | exact hl2 | exact hl3 | exact hl4 | exact zeroF_len)))) | go_big_quiet_step ((first | (fail))) | quiet_step ((first | (fail)))))
            refine wpQuiet_nil ?_
            rintro _ ⟨x, rfl⟩
            go_wp2
            first | (with_reducible refine region_gxx (by kernel_rfl) (by kernel_rfl) ?_) | (with_reducible refine region_gx (by kernel_rfl) (by kernel_rfl) ?_)
            repeat (any_goals (first | (refine quiet_fr rfl _ rfl _ rfl ?_ ?_ ?_ ?_; rotate_left; (focus (rintro _ ⟨x, rfl⟩; (focus (repeat (first | (with_reducible assumption) | (with_reducible exact At.new _ _) | (with_reducible refine At.row ?_) | (with_reducible refine At.app ?_) | (with_reducible refine At.tick ?_) | (with_reducible refine At.gx ?_) | ((with_reducible refine At.new' ?_); focus (simp; done)) | (with_reducible refine At.alloc ?_) | (with_reducible refine At.drew ?_) | (with_reducible exact Is.new _ _ _) | (with_reducible refine Is.row ?_) | (with_reducible refine Is.gx ?_) | ((with_reducible refine Is.new' ?_); focus (simp; done)) | (with_reducible refine Is.alloc ?_) | (with_reducible refine Is.drew ?_)))))); (focus (with_reducible (first | exact hl | exact hl1 | exact hl2 | exact hl3 | exact hl4 | exact zeroF_len)))) | go_big_quiet_step ((first | (fail))) | quiet_step ((first | (fail)))))
            refine wpQuiet_nil ?_
            rintro _ ⟨x, rfl⟩
            go_wp2
            go_roundw
            case rel => exact ⟨k + 1, by omega, by go_num, by rw [hc1]; simp, (by repeat (first | (with_reducible exact Gx.refl _) | (with_reducible assumption) | (with_reducible refine Gx.gx ?_) | (with_reducible refine Gx.alloc ?_) | (with_reducible refine Gx.drew ?_) | (with_reducible refine Gx.drewN ?_) | (with_reducible refine Gx.setRow ?_ (by simp)) | (with_reducible refine Gx.setCell ?_ (by simp))))⟩
            case measure => simp [intOf]; omega
        · obtain rfl : k = D0.length := by omega
          have hd : decide ((cntD C' D0 D0.length : Int) ≤ p + 1) = true := decide_eq_true (HCN.out _ (Nat.le_refl _))
          go_wp2_with (go_at_call 18; go_loud (refine (keptGuard _ ?_).mono ?_; (focus (refine Tab.of_gx' hT ?_; exact (by repeat (first | (with_reducible exact Gx.refl _) | (with_reducible assumption) | (with_reducible refine Gx.gx ?_) | (with_reducible refine Gx.alloc ?_) | (with_reducible refine Gx.drew ?_) | (with_reducible refine Gx.drewN ?_) | (with_reducible refine Gx.setRow ?_ (by simp)) | (with_reducible refine Gx.setCell ?_ (by simp)))))); rintro e w' ⟨rfl, z4, rfl⟩))
          go_ret
          exact ⟨rfl, (by repeat (first | (with_reducible exact Gx.refl _) | (with_reducible assumption) | (with_reducible refine Gx.gx ?_) | (with_reducible refine Gx.alloc ?_) | (with_reducible refine Gx.drew ?_) | (with_reducible refine Gx.drewN ?_) | (with_reducible refine Gx.setRow ?_ (by simp)) | (with_reducible refine Gx.setCell ?_ (by simp))))⟩
    · have HE := Lib.hid hE
      have hE2 : (pbE at_ p D0.length D2.length == 0) = false := by simpa using hE
      generalize hEE : pbE at_ p D0.length D2.length = E at *
      have HP : Hid (∀ (g c : Nat) (W : World), Calls Tryz.prog 27 #[.slice (some ⟨g, 0, none⟩) D0.length c, .int .i64 at_, .slice A2 D2.length c2, .int .i64 p] W fun e w' => e = .returned (.tuple #[.int .i64 0, .bool false, .int .i64 E]) ∧ ∃ x, w' = gx W x) := Lib.hid (fun g c W => by
        have h := PutBytes_err at_ p (some ⟨g, 0, none⟩) A2 D0.length c D2.length c2 hm0 hm2 hat (by rw [hEE]; exact HE.out) W
        rw [hEE] at h
        exact h)
      clear hEE hH0 hH2
      go_enter Tryz.func6, Tryz.ntmps6
      go_wp2_with (first | (go_at_call 33; go_loud (refine (CloneS_wide D0 hb0 ad c0 _ HH0.out hm0).mono ?_; rintro e W1 ⟨g1, C1, z, rfl, hW1, hg1, hA1, hl1, hm1, hbC, hv1⟩; rw [← hW1] at hA1; have hG1 : ∃ x, W1 = gx w x := (hW1 ▸ (by repeat (first | (with_reducible exact Gx.refl _) | (with_reducible assumption) | (with_reducible refine Gx.gx ?_) | (with_reducible refine Gx.alloc ?_) | (with_reducible refine Gx.drew ?_) | (with_reducible refine Gx.drewN ?_) | (with_reducible refine Gx.setRow ?_ (by simp)) | (with_reducible refine Gx.setCell ?_ (by simp))))); clear hW1)) | (go_at_call 27; go_loud (refine (HP.out g1 C1.length _).mono ?_; rintro e W2 ⟨rfl, z2, hW2⟩; have hG2 : ∃ x, W2 = gx w x := (by rw [hW2]; exact Gx.gx hG1); have hA2 : At W2 g1 (.cells (bc C1) 5 (0, 0)) := (by rw [hW2]; exact At.gx hA1); clear hW2)))
      have HS2 := Lib.hid (bits_held (HeldB.of_gx HH0.out hG2))
      have HAN : Hid (∀ j, j < D0.length → bits .andNot .u8 (gw C1 j) (gw D0 j) = 0) := Lib.hid (fun j hj => by rw [hv1 j hj]; exact andNot_self _ (hb0 j).1 (hb0 j).2)
      have HCN : Hid (cntD C1 D0 D0.length = 0) := Lib.hid (cnt_same hv1 _ (Nat.le_refl _))
      clear hv1 HP
      generalize C1 = C' at *
      go_loopw [28, 13] (fun i u wr => ∃ k : Nat, k ≤ D0.length ∧ i = .int .i64 k ∧ u = .int .i64 (cntD C' D0 k) ∧ ∃ x, wr = gx W2 x) (fun i _ _ => D0.length - (intOf i).toNat)
      case atStart => exact ⟨0, by omega, rfl, by rw [cntD_0]; rfl, Gx.refl _⟩
      case round =>
        obtain ⟨k, hk, rfl, rfl, y, rfl⟩ := hrel
        have hcb := cntD_bd C' D0 k
        by_cases hlt : k < D0.length
        · obtain ⟨b, o, e, hcs⟩ := HS2.out (by omega)
          obtain rfl := Option.some.inj e
          have q1 : W2.cell? ⟨b, o + k, none⟩ = some (.int .u8 (gw D0 k)) := hcs k hlt
          have l1 : b < W2.heap.size := World.block_lt_of_cell? _ _ q1
          have q2 : W2.cell? ⟨g1, k, none⟩ = some (.int .u8 (gw C' k)) := by rw [cell_of_row _ _ _ _ _ _ hA2, bc_get _ _ (by omega)]
          have l2 : g1 < W2.heap.size := hA2.lt
          have q3 := HAN.out k hlt
          have hwr : IntKind.i64.wrap ((cntD C' D0 k : Int) + 1) = (cntD C' D0 k : Int) + 1 := IntWalk.i64_in _ (by omega)
          clear hcs
          by_cases heq : gw C' k = gw D0 k
          · have hc1 := cntD_eq heq
            have Heq := Lib.hid heq
            have hd1 : (gw C' k == gw D0 k) = true := by rw [heq]; simp
            clear heq
            go_wp2
            first | (with_reducible refine region_gxx (by kernel_rfl) (by kernel_rfl) ?_) | (with_reducible refine region_gx (by kernel_rfl) (by kernel_rfl) ?_)
            repeat (any_goals (first | (refine quiet_fr rfl _ rfl _ rfl ?_ ?_ ?_ ?_; rotate_left; (focus (rintro _ ⟨x, rfl⟩; (focus (repeat (first | (with_reducible assumption) | (with_reducible exact At.new _ _) | (with_reducible refine At.row ?_) | (with_reducible refine At.app ?_) | (with_reducible refine At.tick ?_) | (with_reducible refine At.gx ?_) | ((with_reducible refine At.new' ?_); focus (simp; done)) | (with_reducible refine At.alloc ?_) | (with_reducible refine At.drew ?_) | (with_reducible exact Is.new _ _ _) | (with_reducible refine Is.row ?_) | (with_reducible refine Is.gx ?_) | ((with_reducible refine Is.new' ?_); focus (simp; done)) | (with_reducible refine Is.alloc ?_) | (with_reducible refine Is.drew ?_)))))); (focus (with_reducible (first | exact hl | exact hl1 | exact hl2 | exact hl3 | exact hl4 | exact zeroF_len)))) | go_big_quiet_step ((first | (fail))) | quiet_step ((first | (fail)))))
            refine wpQuiet_nil ?_
            rintro _ ⟨x, rfl⟩
            go_wp2
            first | (with_reducible refine region_gxx (by kernel_rfl) (by kernel_rfl) ?_) | (with_reducible refine region_gx (by kernel_rfl) (by kernel_rfl) ?_)
            repeat (any_goals (first | (refine quiet_fr rfl _ rfl _ rfl ?_ ?_ ?_ ?_; rotate_left; (focus (rintro _ ⟨x, rfl⟩; (focus (repeat (first | (with_reducible assumption) | (with_reducible exact At.new _ _) | (with_reducible refine At.row ?_) | (with_reducible refine At.app ?_) | (with_reducible refine At.tick ?_) | (with_reducible refine At.gx ?_) | ((with_reducible refine At.new' ?_); focus (simp; done)) | (with_reducible refine At.alloc ?_) | (with_reducible refine At.drew ?_) | (with_reducible exact Is.new _ _ _) | (with_reducible refine Is.row ?_) | (with_reducible refine Is.gx ?_) | ((with_reducible refine Is.new' ?_); focus (simp; done)) | (with_reducible refine Is.alloc ?_) | (with_reducible refine Is.drew ?_)))))); (focus (with_reducible (first | exact hl | exact hl1 | exact hl2 | exact hl3 | exact hl4 | exact zeroF_len)))) | go_big_quiet_step ((first | (fail))) | quiet_step ((first | (fail)))))
            refine wpQuiet_nil ?_
            rintro _ ⟨x, rfl⟩
            go_wp2
            go_roundw
            case rel => exact ⟨k + 1, by omega, by go_num, by rw [hc1], (by repeat (first | (with_reducible exact Gx.refl _) | (with_reducible assumption) | (with_reducible refine Gx.gx ?_) | (with_reducible refine Gx.alloc ?_) | (with_reducible refine Gx.drew ?_) | (with_reducible refine Gx.drewN ?_) | (with_reducible refine Gx.setRow ?_ (by simp)) | (with_reducible refine Gx.setCell ?_ (by simp))))⟩
            case measure => simp [intOf]; omega
          · have hc1 := cntD_ne heq
            have hd1 : (gw C' k == gw D0 k) = false := by simpa using heq
            go_wp2
            first | (with_reducible refine region_gxx (by kernel_rfl) (by kernel_rfl) ?_) | (with_reducible refine region_gx (by kernel_rfl) (by kernel_rfl) ?_)
            repeat (any_goals (first | (refine quiet_fr rfl _ rfl _ rfl ?_ ?_ ?_ ?_; rotate_left; (focus (rintro _ ⟨x, rfl⟩; (focus (repeat (first | (with_reducible assumption) | (with_reducible exact At.new _ _) | (with_reducible refine At.row ?_) | (with_reducible refine At.app ?_) | (with_reducible refine At.tick ?_) | (with_reducible refine At.gx ?_) | ((with_reducible refine At.new' ?_); focus (simp; done)) | (with_reducible refine At.alloc ?_) | (with_reducible refine At.drew ?_) | (with_reducible exact Is.new _ _ _) | (with_reducible refine Is.row ?_) | (with_reducible refine Is.gx ?_) | ((with_reducible refine Is.new' ?_); focus (simp; done)) | (with_reducible refine Is.alloc ?_) | (with_reducible refine Is.drew ?_)))))); (focus (with_reducible (first | exact hl | exact hl1 | exact hl2 | exact hl3 | exact hl4 | exact zeroF_len)))) | go_big_quiet_step ((first | (fail))) | quiet_step ((first | (fail)))))
            refine wpQuiet_nil ?_
            rintro _ ⟨x, rfl⟩
            go_wp2
            first | (with_reducible refine region_gxx (by kernel_rfl) (by kernel_rfl) ?_) | (with_reducible refine region_gx (by kernel_rfl) (by kernel_rfl) ?_)
            repeat (any_goals (first | (refine quiet_fr rfl _ rfl _ rfl ?_ ?_ ?_ ?_; rotate_left; (focus (rintro _ ⟨x, rfl⟩; (focus (repeat (first | (with_reducible assumption) | (with_reducible exact At.new _ _) | (with_reducible refine At.row ?_) | (with_reducible refine At.app ?_) | (with_reducible refine At.tick ?_) | (with_reducible refine At.gx ?_) | ((with_reducible refine At.new' ?_); focus (simp; done)) | (with_reducible refine At.alloc ?_) | (with_reducible refine At.drew ?_) | (with_reducible exact Is.new _ _ _) | (with_reducible refine Is.row ?_) | (with_reducible refine Is.gx ?_) | ((with_reducible refine Is.new' ?_); focus (simp; done)) | (with_reducible refine Is.alloc ?_) | (with_reducible refine Is.drew ?_)))))); (focus (with_reducible (first | exact hl | exact hl1 | exact hl2 | exact hl3 | exact hl4 | exact zeroF_len)))) | go_big_quiet_step ((first | (fail))) | quiet_step ((first | (fail)))))
            refine wpQuiet_nil ?_
            rintro _ ⟨x, rfl⟩
            go_wp2
            go_roundw
            case rel => exact ⟨k + 1, by omega, by go_num, by rw [hc1]; simp, (by repeat (first | (with_reducible exact Gx.refl _) | (with_reducible assumption) | (with_reducible refine Gx.gx ?_) | (with_reducible refine Gx.alloc ?_) | (with_reducible refine Gx.drew ?_) | (with_reducible refine Gx.drewN ?_) | (with_reducible refine Gx.setRow ?_ (by simp)) | (with_reducible refine Gx.setCell ?_ (by simp))))⟩
            case measure => simp [intOf]; omega
        · obtain rfl : k = D0.length := by omega
          have hd := HCN.out
          go_wp2_with (go_at_call 18; go_loud (refine (keptGuard _ ?_).mono ?_; (focus (refine Tab.of_gx' hT ?_; exact (by repeat (first | (with_reducible exact Gx.refl _) | (with_reducible assumption) | (with_reducible refine Gx.gx ?_) | (with_reducible refine Gx.alloc ?_) | (with_reducible refine Gx.drew ?_) | (with_reducible refine Gx.drewN ?_) | (with_reducible refine Gx.setRow ?_ (by simp)) | (with_reducible refine Gx.setCell ?_ (by simp)))))); rintro e w' ⟨rfl, z4, rfl⟩))
          go_ret
          exact ⟨rfl, (by repeat (first | (with_reducible exact Gx.refl _) | (with_reducible assumption) | (with_reducible refine Gx.gx ?_) | (with_reducible refine Gx.alloc ?_) | (with_reducible refine Gx.drew ?_) | (with_reducible refine Gx.drewN ?_) | (with_reducible refine Gx.setRow ?_ (by simp)) | (with_reducible refine Gx.setCell ?_ (by simp))))⟩
end Go.Proofs.YthkccbeffonaaaaGreatDoor

/-
  What every law's lifting needs: the table of sync words, and a world that holds it.
-/
namespace Go.Proofs.YthkccbeffonaaaaGreatDoor
open Go.ChangeShapes Go.WideShapes Go.ChangeAt Go.RowKit

theorem own : ownKnob Tryz.prog.godebug = none := by kernel_rfl
theorem gTab : Tryz.prog.globalNamed "orangebox/frame.syncs" = some 0 := by kernel_rfl
theorem gTabType : (Tryz.prog.globals[0]?).map (·.type) = some 207 := by kernel_rfl
theorem cellsTab : Tryz.prog.cellsOf 207 = 4 := by kernel_rfl
theorem cells16 : Tryz.prog.cellsOf 55 = 1 := by kernel_rfl

/-- What the rows list: the table's cells hold the four sync words. -/
theorem tab_of {W : World} (h : laidMetH Tryz.prog [("orangebox/frame.syncs", Rows.laid_orangebox_frame_syncs)] W) : Tab W := by
  have t : Lib.TabIs Tryz.prog W "orangebox/frame.syncs" .u16 [583, 1464, 2631, 3512] :=
    Lib.tabIs_of_head (rest := []) gTab gTabType Tryz.underlying207 Tryz.underlying55 cells16 cellsTab h
  have c0 : W.cell? ⟨0, 0, none⟩ = some (.int .u16 583) := t.cell gTab 0 (by decide)
  have c1 : W.cell? ⟨0, 1, none⟩ = some (.int .u16 1464) := t.cell gTab 1 (by decide)
  have c2 : W.cell? ⟨0, 2, none⟩ = some (.int .u16 2631) := t.cell gTab 2 (by decide)
  have c3 : W.cell? ⟨0, 3, none⟩ = some (.int .u16 3512) := t.cell gTab 3 (by decide)
  refine ⟨World.block_lt_of_cell? W _ c0, fun k hk => ?_⟩
  have : k = 0 ∨ k = 1 ∨ k = 2 ∨ k = 3 := by omega
  rcases this with rfl | rfl | rfl | rfl
  · exact c0
  · exact c1
  · exact c2
  · exact c3

/-- A world for the witness: the settled one, the table holding what its initialiser lays. -/
noncomputable def laidWorld (os : Os) : World :=
  { World.holding Tryz.prog os ⟨#[], #[], []⟩ with heap := (World.holding Tryz.prog os ⟨#[], #[], []⟩).heap.modify 0 fun
      | .cells _ t frozen => .cells #[.int .u16 583, .int .u16 1464, .int .u16 2631, .int .u16 3512] t frozen
      | o => o }
theorem laidOut : laidOutB Tryz.prog = true := by kernel_rfl

theorem below_trodAll {H : Type} {enc : TypeId × Value → H} {W W' : World} (hb : Below W.heap.size W W') :
    ∀ {ts : List TypeId} {vs : List Value} {ds : List (DataW H)} {ps : List MemPlace}, (∀ t ∈ ts, Tryz.prog.readableRec t = true ∧ t < Tryz.prog.types.size) → (∀ x ∈ ps, x.block < W.heap.size) →
      DataW.TrodAll enc Tryz.prog W 0 (fun _ => true) true ts vs ds ps → DataW.TrodAll enc Tryz.prog W' 0 (fun b => decide (b < W.heap.size)) true ts vs ds ps
  | [], [], [], _, _, _, h => h
  | [], [], _ :: _, _, _, _, h => h.elim
  | [], _ :: _, _, _, _, _, h => h.elim
  | _ :: _, [], _, _, _, _, h => h.elim
  | _ :: _, _ :: _, [], _, _, _, h => h.elim
  | t :: ts, v :: vs, d :: ds, ps, hT, hlt, ⟨p, q, h1, h2, e⟩ => by
    have ht := hT t (by simp)
    refine ⟨p, q, Below.trod laidOut ht.1 ht.2 h1 hb (fun x hx => hlt x (by rw [e]; exact List.mem_append_left _ hx)), ?_, e⟩
    exact below_trodAll hb (fun u hu => hT u (by simp [hu])) (fun x hx => hlt x (by rw [e]; exact List.mem_append_right _ hx)) h2

/-- A law's end: it has returned true, and of what was there nothing has turned. -/
theorem law_post {H : Type} {enc : TypeId × Value → H} {f : Func} {s : ChangeSpec} {W W' : World} {args : Array Value} {ds gs : List (DataW H)} {before : List MemPlace}
    (hrt : f.resultTypes = #[4]) (hvars : s.vars = []) (hT : ∀ t ∈ f.params.toList, Tryz.prog.readableRec t = true ∧ t < Tryz.prog.types.size)
    (hW : DataW.Whole enc Tryz.prog f.params.toList s.vars false W args.toList ds gs before) (hb : Below W.heap.size W W')
    (hfn : s.fn H (ds ++ gs) = { results := [.lit (.bool true)], args := ds }) : s.post enc Tryz.prog f false true false false W args (.bool true) W' := by
  have hW' := hW
  have hlt : ∀ x ∈ before, x.block < W.heap.size := fun x hx => by simpa using hW.lt x hx
  obtain ⟨p, q, hA, hV, rfl, _, _⟩ := hW
  rw [hvars] at hV
  obtain ⟨rfl, rfl⟩ := trodVars_none hV
  refine ⟨ds, [], p ++ [], [], p, [], hW', ?_, ?_, ?_, hb.frame _, fun h => by cases h⟩
  · rw [hfn, hrt]
    exact trodAll_cons_mk (shut_bool Tryz.underlying4 _) trodAll_mk0
  · rw [hfn]
    exact below_trodAll hb hT (fun x hx => hlt x (by simp [hx])) hA
  · rw [hfn, hvars]
    rfl

theorem underFrame : Tryz.prog.underlying 57 = some (.array 64 55) := Tryz.underlying57
theorem cellsFrame : Tryz.prog.cellsOf 57 = 64 := by kernel_rfl
set_option maxRecDepth 100000 in
/-- A frame that is handed in: 64 numbers of 16 bits. -/
theorem open_frame {H : Type} {enc : TypeId × Value → H} {W W0 : World} {r : Reach} {b0 base : Nat} {spare : Nat → Bool} {held : Bool} {v : Value} {d : DataW H} {ps : List MemPlace}
    (hval : Value.okWide Tryz.prog W0 r b0 57 v) (hd : DataW.Trod enc Tryz.prog W base spare held 57 v d ps) : ∃ F, v = .agg (fc F) ∧ Fr F := by
  simp only [Value.okWide, underFrame] at hval
  obtain ⟨cs, rfl, hs, _⟩ := hval
  rw [cellsFrame] at hs
  obtain ⟨fuel, hf⟩ := hd
  obtain ⟨xs, m, _, _, _, hx, he⟩ := DataW.trod_array underFrame hf
  have each : ∀ i, i < 64 → ∃ n, cs.toList[i]? = some (.int .u16 n) ∧ (Lit.int .u16 n).wf = true := by
    intro i hi
    have h := he i hi
    rw [cells16, Nat.mul_one, List.getElem?_eq_getElem (by omega)] at h
    obtain ⟨n, h1, _, h3⟩ := DataW.trod_int Tryz.underlying55 h
    refine ⟨n, ?_, h3⟩
    have : ((((Value.agg cs).cells).toList.drop i).take 1)[0]? = some (.int .u16 n) := by rw [h1]; rfl
    rw [List.getElem?_take_of_lt (by omega), List.getElem?_drop] at this
    simpa [Value.cells] using this
  let F : List Int := cs.toList.map intOf
  have hF : ∀ k, k < 64 → cs.toList[k]? = some (.int .u16 (gw F k)) ∧ (Lit.int .u16 (gw F k)).wf = true := by
    intro k hk
    obtain ⟨n, h1, h2⟩ := each k hk
    have : gw F k = n := by unfold gw; simp [F, List.getD, h1, intOf]
    rw [this]; exact ⟨h1, h2⟩
  have hl : F.length = 64 := by simp [F, hs]
  refine ⟨F, ?_, hl, fun k => ?_⟩
  · congr 1
    apply Array.ext_getElem?
    intro k
    rcases Nat.lt_or_ge k 64 with hk | hk
    · rw [fc_get F k (by omega), ← (hF k hk).1]; simp
    · rw [Array.getElem?_eq_none (by omega), Array.getElem?_eq_none (by rw [fc_size]; omega)]
  · rcases Nat.lt_or_ge k 64 with hk | hk
    · exact bounds_u16 (hF k hk).2
    · have : gw F k = 0 := by unfold gw; simp [List.getD, List.getElem?_eq_none (show F.length ≤ k by omega)]
      rw [this]; decide

/-- A frame of zeros, for the witnesses; what it reads as. -/
def zfr : Value := .agg (List.replicate 64 (Value.int .u16 0)).toArray
def zrd {H : Type} : DataW H := .agg (List.replicate 64 (.lit (.int .u16 0)))
end Go.Proofs.YthkccbeffonaaaaGreatDoor

/-
  A slice of numbers that is handed in.
-/
namespace Go.Proofs.YthkccbeffonaaaaGreatDoor
open Go.ChangeShapes Go.WideShapes Go.ChangeAt Go.RowKit

theorem cellsInt : Tryz.prog.cellsOf 3 = 1 := by kernel_rfl
theorem cellsByte : Tryz.prog.cellsOf 5 = 1 := by kernel_rfl
set_option maxRecDepth 100000 in
theorem open_nums {H : Type} {enc : TypeId × Value → H} {W W0 : World} {r : Reach} {b0 base : Nat} {held : Bool} {v : Value} {d : DataW H} {ps : List MemPlace} {t e : TypeId} {k : IntKind}
    (ht : Tryz.prog.underlying t = some (.slice e)) (he : Tryz.prog.underlying e = some (.int k)) (hc : Tryz.prog.cellsOf e = 1)
    (hval : Value.okWide Tryz.prog W0 r b0 t v) (hd : DataW.Trod enc Tryz.prog W base (fun _ => true) held t v d ps) :
    ∃ (A : Option Addr) (len cap : Nat) (D : List Int), v = .slice A len cap ∧ D.length = len ∧ len ≤ cap ∧ cap ≤ maxLen ∧ (∀ n ∈ D, (Lit.int k n).wf = true) ∧
      (0 < len → ∃ b o, A = some ⟨b, o, none⟩ ∧ ∀ j, j < len → W.cell? ⟨b, o + j, none⟩ = some (.int k (gw D j))) ∧ (A = none → cap = 0) := by
  obtain ⟨A, len, cap, rfl⟩ := okWide_slice ht hval
  obtain ⟨fuel, hf⟩ := hd
  rcases open_ints ht he hc hf with ⟨h, _⟩ | ⟨a, l, c, zs, h, _, hl, hm, hz, _, hcell, hwf⟩
  · simp [Value.cells] at h
    obtain ⟨rfl, rfl, rfl⟩ := h
    exact ⟨none, 0, 0, [], rfl, rfl, Nat.le_refl _, Nat.zero_le _, (fun n hn => by cases hn), (fun h => by omega), fun _ => rfl⟩
  · simp [Value.cells] at h
    obtain ⟨rfl, rfl, rfl⟩ := h
    rw [if_pos rfl] at hz
    refine ⟨some a, len, cap, zs.take len, rfl, by rw [List.length_take]; omega, hl, hm, fun n hn => hwf n (List.mem_of_mem_take hn), fun h0 => ?_, fun h => by cases h⟩
    obtain ⟨b, o, rfl, hcc⟩ := ints_at hcell (by omega)
    refine ⟨b, o, rfl, fun j hj => ?_⟩
    rw [hcc j (by omega)]
    unfold gw
    simp [List.getD, List.getElem?_take_of_lt hj]
end Go.Proofs.YthkccbeffonaaaaGreatDoor

/-
  How much a slice that is handed in can hold.
-/
namespace Go.Proofs.YthkccbeffonaaaaGreatDoor
open Go.ChangeShapes Go.WideShapes Go.ChangeAt Go.RowKit

theorem bytesByte : Tryz.prog.bytesOf 5 = 1 := by kernel_rfl
set_option maxRecDepth 100000 in
theorem cap_of {H : Type} {enc : TypeId × Value → H} {W : World} {base : Nat} {held : Bool} {A : Option Addr} {len cap : Nat} {d : DataW H} {ps : List MemPlace} {t e : TypeId} {k : IntKind}
    (ht : Tryz.prog.underlying t = some (.slice e)) (he : Tryz.prog.underlying e = some (.int k)) (hc : Tryz.prog.cellsOf e = 1)
    (hd : DataW.Trod enc Tryz.prog W base (fun _ => true) held t (.slice A len cap) d ps) : cap = 0 ∨ ∃ elems spare, d = .slice elems spare ∧ elems.length + spare.length = cap := by
  obtain ⟨fuel, hf⟩ := hd
  rcases open_ints ht he hc hf with ⟨h, _⟩ | ⟨a, l, c, zs, h, _, hl, hm, hz, hx, _, _⟩
  · simp [Value.cells] at h
    exact .inl h.2.2
  · simp [Value.cells] at h
    obtain ⟨rfl, rfl, rfl⟩ := h
    rw [if_pos rfl] at hz
    simp only [Prod.mk.injEq] at hx
    refine .inr ⟨_, _, hx.1, ?_⟩
    simp [lits]
    omega
theorem byte_cap {H : Type} {enc : TypeId × Value → H} {W : World} {base : Nat} {held : Bool} {A : Option Addr} {len cap : Nat} {d : DataW H} {ps : List MemPlace} {ts : List TypeId} {ds : List (DataW H)} (j : Nat)
    (hd : DataW.Trod enc Tryz.prog W base (fun _ => true) held 39 (.slice A len cap) d ps) (hwt : (DataW.weightsEach Tryz.prog ts ds).all (· ≤ reachBytes) = true)
    (hts : ts[j]? = some 39) (hds : ds[j]? = some d) : cap ≤ 140737488351232 := by
  rcases cap_of Tryz.underlying39 Tryz.underlying5 cellsByte hd with h | ⟨es, sp, rfl, h⟩
  · omega
  · have := sized_slice hwt hts hds Tryz.underlying39
    rw [bytesByte] at this
    simp only [reachBytes] at this
    omega
end Go.Proofs.YthkccbeffonaaaaGreatDoor
