/-
  candidates, the reference's: contract.
-/
import Derived.Test.YtkfolbhdjppgaaaSNear3
namespace Go.Proofs.Ytkfolbhdjppgaaa
open Go.RowKit
-- AT2

/-- Numbers as cells. -/
@[irreducible] def iC (l : List Int) : List Value := l.map (Value.int .i64)
theorem iC_len (l : List Int) : (iC l).length = l.length := by unfold iC; simp
theorem iC_nil : iC [] = [] := by unfold iC; rfl
theorem iC_one (n : Int) : iC [n] = [.int .i64 n] := by unfold iC; rfl
theorem iC_two (n m : Int) : iC [n, m] = [.int .i64 n, .int .i64 m] := by unfold iC; rfl
theorem iC_app (l m : List Int) : iC (l ++ m) = iC l ++ iC m := by unfold iC; simp
theorem iC_get {l : List Int} {j : Nat} (h : j < l.length) : (iC l)[j]? = some (.int .i64 (gw l j)) := by unfold iC gw; simp [List.getD, List.getElem?_eq_getElem h]
theorem el_int : Elem 46 3 1 8 := elem_of Try.underlying46 (by decide) (z := .int .i64 0) (by kernel_rfl) rfl
/-- A slice that was just built is the call's own. -/
theorem Own.built {b : Nat} {W : World} {e : TypeId} {xs : List Value} {g n : Nat} (hA : At W g (.cells xs.toArray e (0, 0))) (hb : b ≤ g) (hn : xs.length = n) (hm : n ≤ maxLen) : Own b W e 1 (.slice (some ⟨g, 0, none⟩) n n) n xs := by
  refine Own.mk' ⟨by omega, .inr ⟨g, n, xs.toArray, rfl, hb, hA, Nat.le_refl _, hm, by simp; omega, ?_⟩⟩
  have e : n * 1 = xs.length := by omega
  rw [e, List.take_of_length_le (by simp)]

def ysC (lo hi x : Int) (k : Nat) : Int := if k = 0 then x else if k = 1 then lo else hi
def bkC (l : Ln) (lo hi x : Int) : Nat → List Int
  | 0 => [l.f, l.t]
  | k + 1 => bkC l lo hi x k ++ candsY l (ysC lo hi x k)
theorem candsY_len (l : Ln) (y : Int) : (candsY l y).length = 4 := rfl
theorem bkC_len (l : Ln) (lo hi x : Int) : ∀ k, (bkC l lo hi x k).length = 2 + 4 * k
  | 0 => rfl
  | k + 1 => by rw [bkC, List.length_append, bkC_len l lo hi x k, candsY_len]; omega
theorem bkC_3 {l : Ln} {lo hi x : Int} (h : l.a ≠ 0) : bkC l lo hi x 3 = cands l lo hi x := by
  unfold cands; rw [if_neg h]; simp [bkC, ysC]
theorem candsY_take (l : Ln) (y : Int) (j : Nat) (h : j < 4) : (candsY l y).take (j + 1) = (candsY l y).take j ++ [clamp (fl (y - l.b) l.a + ((j : Int) - 1)) l.f l.t] := by
  rcases (by omega : j = 0 ∨ j = 1 ∨ j = 2 ∨ j = 3) with rfl | rfl | rfl | rfl <;> rfl
theorem bk_step {l : Ln} {B : List Int} {y q : Int} {j : Nat} (h : j < 4) (hq : fl (y - l.b) l.a = q) : iC (B ++ (candsY l y).take (j + 1)) = iC (B ++ (candsY l y).take j) ++ [.int .i64 (clamp (q + ((j : Int) - 1)) l.f l.t)] := by
  rw [candsY_take l y j h, ← List.append_assoc, iC_app, iC_one, hq]
theorem bk_len {l : Ln} {B : List Int} {y : Int} {n j : Nat} (h : j ≤ 4) (hB : B.length = n) : (B ++ (candsY l y).take j).length = n + j := by
  rw [List.length_append, List.length_take, candsY_len, hB]; omega
theorem clamp_w {p f t : Int} : (if t < (if p < f then f else p) then t else (if p < f then f else p)) = clamp p f t := by unfold clamp; split <;> split <;> omega
theorem bkC_0 (l : Ln) (lo hi x : Int) : bkC l lo hi x 0 = [l.f, l.t] := rfl
theorem bkC_s0 (l : Ln) (lo hi x : Int) : bkC l lo hi x (0 + 1) = bkC l lo hi x 0 ++ candsY l x := rfl
theorem bkC_s1 (l : Ln) (lo hi x : Int) : bkC l lo hi x (1 + 1) = bkC l lo hi x 1 ++ candsY l lo := rfl
theorem bkC_s2 (l : Ln) (lo hi x : Int) : bkC l lo hi x (2 + 1) = bkC l lo hi x 2 ++ candsY l hi := rfl
theorem idx3 (a b c : Int) (W : World) : Sem.run Try.prog (Instr.index 93 (Value.agg #[.int .i64 a, .int .i64 b, .int .i64 c]) (.int .i64 0)) W = .ok (.int .i64 a) W ∧
    Sem.run Try.prog (Instr.index 93 (Value.agg #[.int .i64 a, .int .i64 b, .int .i64 c]) (.int .i64 1)) W = .ok (.int .i64 b) W ∧
    Sem.run Try.prog (Instr.index 93 (Value.agg #[.int .i64 a, .int .i64 b, .int .i64 c]) (.int .i64 2)) W = .ok (.int .i64 c) W := by
  refine ⟨by kernel_rfl, by kernel_rfl, by kernel_rfl⟩
@[go_sem high] theorem idx3_0 (a b c : Int) (W : World) : Sem.run Try.prog (Instr.index 93 (Value.agg #[.int .i64 a, .int .i64 b, .int .i64 c]) (.int .i64 0)) W = .ok (.int .i64 a) W := (idx3 a b c W).1
@[go_sem high] theorem idx3_1 (a b c : Int) (W : World) : Sem.run Try.prog (Instr.index 93 (Value.agg #[.int .i64 a, .int .i64 b, .int .i64 c]) (.int .i64 1)) W = .ok (.int .i64 b) W := (idx3 a b c W).2.1
@[go_sem high] theorem idx3_2 (a b c : Int) (W : World) : Sem.run Try.prog (Instr.index 93 (Value.agg #[.int .i64 a, .int .i64 b, .int .i64 c]) (.int .i64 2)) W = .ok (.int .i64 c) W := (idx3 a b c W).2.2
theorem cand_end {w W : World} {v : Value} {N b : Nat} {xs : List Value} (hW : ∃ x, W = gx w x) (hN : N ≤ 14) (hb : w.heap.size ≤ b) (hO : Own b W 3 1 v N xs) :
    ∃ v' z N', Ending.returned v = .returned v' ∧ W = gx w z ∧ N' ≤ 14 ∧ Own w.heap.size (gx w z) 3 1 v' N' xs := by
  obtain ⟨z, rfl⟩ := hW
  exact ⟨v, z, N, rfl, rfl, hN, hO.base hb⟩
attribute [irreducible] bkC ysC
attribute [local irreducible] candsY
set_option maxHeartbeats 4000000 in
set_option maxRecDepth 100000 in
theorem cand_any (den : Int) (A : Option Addr) (n c : Nat) (lo hi x : Int) (l : Ln) (w : World) (hok : lnOk l) (hlo : isN lo) (hhi : isN hi) (hx : isN x) :
    Calls Try.prog 34 #[calV den A n c lo hi, lnV l.f l.t l.a l.b, .int .i64 x] w (fun e w' => ∃ v z N, e = .returned v ∧ w' = gx w z ∧ N ≤ 14 ∧ Own w.heap.size (gx w z) 3 1 v N (iC (cands l lo hi x))) := by
  unfold lnOk at hok
  unfold isN at hlo hhi hx
  obtain ⟨o1, o2, o3, o4, o5, o6, o7, o8, o9⟩ := hok
  by_cases ha : l.a = 0
  · have E : cands l lo hi x = [l.f, l.t] := by unfold cands; rw [if_pos ha]
    have HE := Lib.hid E
    have a0 : (l.a == 0) = true := by simpa using ha
    clear E
    go_enter Try.func34, Try.ntmps34
    go_wp2
    go_ret
    refine cand_end (N := 2) (by repeat (first | (with_reducible exact Gx.refl _) | (with_reducible assumption) | (with_reducible refine Gx.gx ?_) | (with_reducible refine Gx.alloc ?_) | (with_reducible refine Gx.drew ?_) | (with_reducible refine Gx.drewN ?_) | (with_reducible refine Gx.setRow ?_ (by simp)) | (with_reducible refine Gx.setCell ?_ (by simp)))) (by omega) (b := w.heap.size + 2) (by omega) ?_
    rw [HE.out, iC_two]
    exact Own.built (At.new' (by simp)) (by simp) rfl (by simp only [maxLen]; omega)
  · have a0 : (l.a == 0) = false := by simpa using ha
    go_enter Try.func34, Try.ntmps34
    go_wp2
    go_loopw [7, 27] (fun u i wr => ∃ k : Nat, k ≤ 3 ∧ i = .int .i64 k ∧ (∃ x, wr = gx ((w.alloc (.cells #[.int .i64 den, .slice A n c, .int .i64 lo, .int .i64 hi] 24)).alloc (.cells #[.int .i64 l.f, .int .i64 l.t, .int .i64 l.a, .int .i64 l.b] 57)) x) ∧ Own (w.heap.size + 2) wr 3 1 u (2 + 4 * k) (iC (bkC l lo hi x k))) (fun _ i _ => 3 - (intOf i).toNat)
    case atStart => exact ⟨0, by omega, rfl, (by repeat (first | (with_reducible exact Gx.refl _) | (with_reducible assumption) | (with_reducible refine Gx.gx ?_) | (with_reducible refine Gx.alloc ?_) | (with_reducible refine Gx.drew ?_) | (with_reducible refine Gx.drewN ?_) | (with_reducible refine Gx.setRow ?_ (by simp)) | (with_reducible refine Gx.setCell ?_ (by simp)))), by rw [bkC_0, iC_two]; exact Own.built (At.new' (by simp)) (by simp) rfl (by simp only [maxLen]; omega)⟩
    case round =>
      obtain ⟨k, hk, rfl, ⟨y, rfl⟩, hO⟩ := hrel
      rcases (by omega : k = 0 ∨ k = 1 ∨ k = 2 ∨ k = 3) with rfl | rfl | rfl | rfl
      · have HF := fun W => Rfloor_any (x - l.b) l.a W (by omega) (by omega) ha o6 o7
        have wy : IntKind.i64.wrap (x - l.b) = x - l.b := IntWalk.i64_in _ (by omega)
        have qb := fl_bound (a := x - l.b) (b := l.a) (M := 2251799813685248) ha (by omega) (by omega) (by omega)
        have HB := Lib.hid (bkC_s0 l lo hi x)
        have hBl := Lib.hid (bkC_len l lo hi x 0)
        obtain ⟨q, hq⟩ : ∃ q, fl (x - l.b) l.a = q := ⟨_, rfl⟩
        rw [hq] at HF qb
        have HQ := Lib.hid hq
        clear hq
        go_wp2_with (go_at_call 57; refine (HF _).mono ?_; rintro e w' ⟨rfl, rfl⟩)
        go_loopw [7, 11] (fun u i wr => ∃ j : Nat, j ≤ 4 ∧ i = .int .i64 ((j : Int) - 1) ∧ (∃ x, wr = gx ((w.alloc (.cells #[.int .i64 den, .slice A n c, .int .i64 lo, .int .i64 hi] 24)).alloc (.cells #[.int .i64 l.f, .int .i64 l.t, .int .i64 l.a, .int .i64 l.b] 57)) x) ∧ Own (w.heap.size + 2) wr 3 1 u (2 + j) (iC (bkC l lo hi x 0 ++ (candsY l x).take j))) (fun _ i _ => (3 - intOf i).toNat)
        case atStart => exact ⟨0, by omega, rfl, (by repeat (first | (with_reducible exact Gx.refl _) | (with_reducible assumption) | (with_reducible refine Gx.gx ?_) | (with_reducible refine Gx.alloc ?_) | (with_reducible refine Gx.drew ?_) | (with_reducible refine Gx.drewN ?_) | (with_reducible refine Gx.setRow ?_ (by simp)) | (with_reducible refine Gx.setCell ?_ (by simp)))), by rw [List.take_zero, List.append_nil]; exact hO⟩
        case round =>
          obtain ⟨j, hj, rfl, ⟨z, rfl⟩, hO2⟩ := hrel
          by_cases hlt : j < 4
          · have HS := Lib.hid (bk_step (l := l) (B := bkC l lo hi x 0) hlt HQ.out)
            have dj : decide ((j : Int) - 1 ≤ 2) = true := decide_eq_true (by omega)
            have wj : IntKind.i64.wrap (q + ((j : Int) - 1)) = q + ((j : Int) - 1) := IntWalk.i64_in _ (by omega)
            obtain ⟨p, hp⟩ : ∃ p, q + ((j : Int) - 1) = p := ⟨_, rfl⟩
            obtain ⟨m, hm⟩ : ∃ m, (if p < l.f then l.f else p) = m := ⟨_, rfl⟩
            obtain ⟨cc, hc⟩ : ∃ cc, (if l.t < m then l.t else m) = cc := ⟨_, rfl⟩
            have HC : Hid (clamp (q + ((j : Int) - 1)) l.f l.t = cc) := by rw [hp, ← clamp_w, hm, hc]; rfl
            rw [HC.out] at HS
            rw [hp] at wj
            have hlen := bk_len (l := l) (y := x) (j := j) (by omega) hBl.out
            generalize hL : bkC l lo hi x 0 ++ (candsY l x).take j = L at *
            have hll := Lib.hid hlen
            clear hL hlen
            go_wp2_with (first | (at_builtin; (with_reducible apply append_new (o := ⟨some 52, _, _, _, _, _⟩) el_int (((w.alloc (.cells #[.int .i64 den, .slice A n c, .int .i64 lo, .int .i64 hi] 24)).alloc (.cells #[.int .i64 l.f, .int .i64 l.t, .int .i64 l.a, .int .i64 l.b] 57))) (w.heap.size + 2) (v := u7) (n := 2 + j) (xs := iC L) (m := 1) (news := [.int .i64 cc])); exact rfl; exact rfl; exact rfl; exact rfl; (focus (simp; done)); (focus (repeat (first | (with_reducible assumption) | (with_reducible exact Own.nil _ _ _ _) | (with_reducible refine Own.app ?_) | (with_reducible refine Own.tick ?_) | (with_reducible refine Own.gx ?_) | (with_reducible refine Own.alloc ?_) | (with_reducible refine Own.drew ?_) | (with_reducible refine Own.row ?_ (by omega))))); exact (by repeat (first | (with_reducible exact Gx.refl _) | (with_reducible assumption) | (with_reducible refine Gx.gx ?_) | (with_reducible refine Gx.alloc ?_) | (with_reducible refine Gx.drew ?_) | (with_reducible refine Gx.drewN ?_) | (with_reducible refine Gx.setRow ?_ (by simp)) | (with_reducible refine Gx.setCell ?_ (by simp)))); (focus (simp <;> omega)); exact rfl; (focus (repeat (first | (with_reducible assumption) | ((with_reducible apply Shows.whole); focus ((focus (repeat (first | (with_reducible assumption) | (with_reducible exact At.new _ _) | (with_reducible refine At.row ?_) | (with_reducible refine At.app ?_) | (with_reducible refine At.tick ?_) | (with_reducible refine At.gx ?_) | ((with_reducible refine At.new' ?_); focus (simp; done)) | (with_reducible refine At.alloc ?_) | (with_reducible refine At.drew ?_) | (with_reducible exact Is.new _ _ _) | (with_reducible refine Is.row ?_) | (with_reducible refine Is.gx ?_) | ((with_reducible refine Is.new' ?_); focus (simp; done)) | (with_reducible refine Is.alloc ?_) | (with_reducible refine Is.drew ?_)))); done)) | (with_reducible refine Shows.app ?_) | (with_reducible refine Shows.tick ?_) | (with_reducible refine Shows.gx ?_) | (with_reducible refine Shows.alloc ?_) | (with_reducible refine Shows.drew ?_)))); (focus (simp [Value.oneCell']; done)); (focus (simp only [maxLen]; omega)); (focus omega); (rintro v' _ ⟨y', rfl⟩ hO' _); have hO3 := Lib.hid hO'; clear hO'))
            go_roundw
            case rel => exact ⟨j + 1, by omega, by go_num, (by repeat (first | (with_reducible exact Gx.refl _) | (with_reducible assumption) | (with_reducible refine Gx.gx ?_) | (with_reducible refine Gx.alloc ?_) | (with_reducible refine Gx.drew ?_) | (with_reducible refine Gx.drewN ?_) | (with_reducible refine Gx.setRow ?_ (by simp)) | (with_reducible refine Gx.setCell ?_ (by simp)))), by rw [HS.out]; exact hO3.out⟩
            case measure => simp [intOf]; omega
          · obtain rfl : j = 4 := by omega
            go_wp2
            go_roundw
            case rel => exact ⟨0 + 1, by omega, by go_num, (by repeat (first | (with_reducible exact Gx.refl _) | (with_reducible assumption) | (with_reducible refine Gx.gx ?_) | (with_reducible refine Gx.alloc ?_) | (with_reducible refine Gx.drew ?_) | (with_reducible refine Gx.drewN ?_) | (with_reducible refine Gx.setRow ?_ (by simp)) | (with_reducible refine Gx.setCell ?_ (by simp)))), by rw [HB.out]; rw [List.take_of_length_le (by rw [candsY_len]; omega)] at hO2; exact hO2⟩
            case measure => simp [intOf]
      · have HF := fun W => Rfloor_any (lo - l.b) l.a W (by omega) (by omega) ha o6 o7
        have wy : IntKind.i64.wrap (lo - l.b) = lo - l.b := IntWalk.i64_in _ (by omega)
        have qb := fl_bound (a := lo - l.b) (b := l.a) (M := 2251799813685248) ha (by omega) (by omega) (by omega)
        have HB := Lib.hid (bkC_s1 l lo hi x)
        have hBl := Lib.hid (bkC_len l lo hi x 1)
        obtain ⟨q, hq⟩ : ∃ q, fl (lo - l.b) l.a = q := ⟨_, rfl⟩
        rw [hq] at HF qb
        have HQ := Lib.hid hq
        clear hq
        go_wp2_with (go_at_call 57; refine (HF _).mono ?_; rintro e w' ⟨rfl, rfl⟩)
        go_loopw [7, 11] (fun u i wr => ∃ j : Nat, j ≤ 4 ∧ i = .int .i64 ((j : Int) - 1) ∧ (∃ x, wr = gx ((w.alloc (.cells #[.int .i64 den, .slice A n c, .int .i64 lo, .int .i64 hi] 24)).alloc (.cells #[.int .i64 l.f, .int .i64 l.t, .int .i64 l.a, .int .i64 l.b] 57)) x) ∧ Own (w.heap.size + 2) wr 3 1 u (6 + j) (iC (bkC l lo hi x 1 ++ (candsY l lo).take j))) (fun _ i _ => (3 - intOf i).toNat)
        case atStart => exact ⟨0, by omega, rfl, (by repeat (first | (with_reducible exact Gx.refl _) | (with_reducible assumption) | (with_reducible refine Gx.gx ?_) | (with_reducible refine Gx.alloc ?_) | (with_reducible refine Gx.drew ?_) | (with_reducible refine Gx.drewN ?_) | (with_reducible refine Gx.setRow ?_ (by simp)) | (with_reducible refine Gx.setCell ?_ (by simp)))), by rw [List.take_zero, List.append_nil]; exact hO⟩
        case round =>
          obtain ⟨j, hj, rfl, ⟨z, rfl⟩, hO2⟩ := hrel
          by_cases hlt : j < 4
          · have HS := Lib.hid (bk_step (l := l) (B := bkC l lo hi x 1) hlt HQ.out)
            have dj : decide ((j : Int) - 1 ≤ 2) = true := decide_eq_true (by omega)
            have wj : IntKind.i64.wrap (q + ((j : Int) - 1)) = q + ((j : Int) - 1) := IntWalk.i64_in _ (by omega)
            obtain ⟨p, hp⟩ : ∃ p, q + ((j : Int) - 1) = p := ⟨_, rfl⟩
            obtain ⟨m, hm⟩ : ∃ m, (if p < l.f then l.f else p) = m := ⟨_, rfl⟩
            obtain ⟨cc, hc⟩ : ∃ cc, (if l.t < m then l.t else m) = cc := ⟨_, rfl⟩
            have HC : Hid (clamp (q + ((j : Int) - 1)) l.f l.t = cc) := by rw [hp, ← clamp_w, hm, hc]; rfl
            rw [HC.out] at HS
            rw [hp] at wj
            have hlen := bk_len (l := l) (y := lo) (j := j) (by omega) hBl.out
            generalize hL : bkC l lo hi x 1 ++ (candsY l lo).take j = L at *
            have hll := Lib.hid hlen
            clear hL hlen
            go_wp2_with (first | (at_builtin; (with_reducible apply append_new (o := ⟨some 52, _, _, _, _, _⟩) el_int (((w.alloc (.cells #[.int .i64 den, .slice A n c, .int .i64 lo, .int .i64 hi] 24)).alloc (.cells #[.int .i64 l.f, .int .i64 l.t, .int .i64 l.a, .int .i64 l.b] 57))) (w.heap.size + 2) (v := u7) (n := 6 + j) (xs := iC L) (m := 1) (news := [.int .i64 cc])); exact rfl; exact rfl; exact rfl; exact rfl; (focus (simp; done)); (focus (repeat (first | (with_reducible assumption) | (with_reducible exact Own.nil _ _ _ _) | (with_reducible refine Own.app ?_) | (with_reducible refine Own.tick ?_) | (with_reducible refine Own.gx ?_) | (with_reducible refine Own.alloc ?_) | (with_reducible refine Own.drew ?_) | (with_reducible refine Own.row ?_ (by omega))))); exact (by repeat (first | (with_reducible exact Gx.refl _) | (with_reducible assumption) | (with_reducible refine Gx.gx ?_) | (with_reducible refine Gx.alloc ?_) | (with_reducible refine Gx.drew ?_) | (with_reducible refine Gx.drewN ?_) | (with_reducible refine Gx.setRow ?_ (by simp)) | (with_reducible refine Gx.setCell ?_ (by simp)))); (focus (simp <;> omega)); exact rfl; (focus (repeat (first | (with_reducible assumption) | ((with_reducible apply Shows.whole); focus ((focus (repeat (first | (with_reducible assumption) | (with_reducible exact At.new _ _) | (with_reducible refine At.row ?_) | (with_reducible refine At.app ?_) | (with_reducible refine At.tick ?_) | (with_reducible refine At.gx ?_) | ((with_reducible refine At.new' ?_); focus (simp; done)) | (with_reducible refine At.alloc ?_) | (with_reducible refine At.drew ?_) | (with_reducible exact Is.new _ _ _) | (with_reducible refine Is.row ?_) | (with_reducible refine Is.gx ?_) | ((with_reducible refine Is.new' ?_); focus (simp; done)) | (with_reducible refine Is.alloc ?_) | (with_reducible refine Is.drew ?_)))); done)) | (with_reducible refine Shows.app ?_) | (with_reducible refine Shows.tick ?_) | (with_reducible refine Shows.gx ?_) | (with_reducible refine Shows.alloc ?_) | (with_reducible refine Shows.drew ?_)))); (focus (simp [Value.oneCell']; done)); (focus (simp only [maxLen]; omega)); (focus omega); (rintro v' _ ⟨y', rfl⟩ hO' _); have hO3 := Lib.hid hO'; clear hO'))
            go_roundw
            case rel => exact ⟨j + 1, by omega, by go_num, (by repeat (first | (with_reducible exact Gx.refl _) | (with_reducible assumption) | (with_reducible refine Gx.gx ?_) | (with_reducible refine Gx.alloc ?_) | (with_reducible refine Gx.drew ?_) | (with_reducible refine Gx.drewN ?_) | (with_reducible refine Gx.setRow ?_ (by simp)) | (with_reducible refine Gx.setCell ?_ (by simp)))), by rw [HS.out]; exact hO3.out⟩
            case measure => simp [intOf]; omega
          · obtain rfl : j = 4 := by omega
            go_wp2
            go_roundw
            case rel => exact ⟨1 + 1, by omega, by go_num, (by repeat (first | (with_reducible exact Gx.refl _) | (with_reducible assumption) | (with_reducible refine Gx.gx ?_) | (with_reducible refine Gx.alloc ?_) | (with_reducible refine Gx.drew ?_) | (with_reducible refine Gx.drewN ?_) | (with_reducible refine Gx.setRow ?_ (by simp)) | (with_reducible refine Gx.setCell ?_ (by simp)))), by rw [HB.out]; rw [List.take_of_length_le (by rw [candsY_len]; omega)] at hO2; exact hO2⟩
            case measure => simp [intOf]
      · have HF := fun W => Rfloor_any (hi - l.b) l.a W (by omega) (by omega) ha o6 o7
        have wy : IntKind.i64.wrap (hi - l.b) = hi - l.b := IntWalk.i64_in _ (by omega)
        have qb := fl_bound (a := hi - l.b) (b := l.a) (M := 2251799813685248) ha (by omega) (by omega) (by omega)
        have HB := Lib.hid (bkC_s2 l lo hi x)
        have hBl := Lib.hid (bkC_len l lo hi x 2)
        obtain ⟨q, hq⟩ : ∃ q, fl (hi - l.b) l.a = q := ⟨_, rfl⟩
        rw [hq] at HF qb
        have HQ := Lib.hid hq
        clear hq
        go_wp2_with (go_at_call 57; refine (HF _).mono ?_; rintro e w' ⟨rfl, rfl⟩)
        go_loopw [7, 11] (fun u i wr => ∃ j : Nat, j ≤ 4 ∧ i = .int .i64 ((j : Int) - 1) ∧ (∃ x, wr = gx ((w.alloc (.cells #[.int .i64 den, .slice A n c, .int .i64 lo, .int .i64 hi] 24)).alloc (.cells #[.int .i64 l.f, .int .i64 l.t, .int .i64 l.a, .int .i64 l.b] 57)) x) ∧ Own (w.heap.size + 2) wr 3 1 u (10 + j) (iC (bkC l lo hi x 2 ++ (candsY l hi).take j))) (fun _ i _ => (3 - intOf i).toNat)
        case atStart => exact ⟨0, by omega, rfl, (by repeat (first | (with_reducible exact Gx.refl _) | (with_reducible assumption) | (with_reducible refine Gx.gx ?_) | (with_reducible refine Gx.alloc ?_) | (with_reducible refine Gx.drew ?_) | (with_reducible refine Gx.drewN ?_) | (with_reducible refine Gx.setRow ?_ (by simp)) | (with_reducible refine Gx.setCell ?_ (by simp)))), by rw [List.take_zero, List.append_nil]; exact hO⟩
        case round =>
          obtain ⟨j, hj, rfl, ⟨z, rfl⟩, hO2⟩ := hrel
          by_cases hlt : j < 4
          · have HS := Lib.hid (bk_step (l := l) (B := bkC l lo hi x 2) hlt HQ.out)
            have dj : decide ((j : Int) - 1 ≤ 2) = true := decide_eq_true (by omega)
            have wj : IntKind.i64.wrap (q + ((j : Int) - 1)) = q + ((j : Int) - 1) := IntWalk.i64_in _ (by omega)
            obtain ⟨p, hp⟩ : ∃ p, q + ((j : Int) - 1) = p := ⟨_, rfl⟩
            obtain ⟨m, hm⟩ : ∃ m, (if p < l.f then l.f else p) = m := ⟨_, rfl⟩
            obtain ⟨cc, hc⟩ : ∃ cc, (if l.t < m then l.t else m) = cc := ⟨_, rfl⟩
            have HC : Hid (clamp (q + ((j : Int) - 1)) l.f l.t = cc) := by rw [hp, ← clamp_w, hm, hc]; rfl
            rw [HC.out] at HS
            rw [hp] at wj
            have hlen := bk_len (l := l) (y := hi) (j := j) (by omega) hBl.out
            generalize hL : bkC l lo hi x 2 ++ (candsY l hi).take j = L at *
            have hll := Lib.hid hlen
            clear hL hlen
            go_wp2_with (first | (at_builtin; (with_reducible apply append_new (o := ⟨some 52, _, _, _, _, _⟩) el_int (((w.alloc (.cells #[.int .i64 den, .slice A n c, .int .i64 lo, .int .i64 hi] 24)).alloc (.cells #[.int .i64 l.f, .int .i64 l.t, .int .i64 l.a, .int .i64 l.b] 57))) (w.heap.size + 2) (v := u7) (n := 10 + j) (xs := iC L) (m := 1) (news := [.int .i64 cc])); exact rfl; exact rfl; exact rfl; exact rfl; (focus (simp; done)); (focus (repeat (first | (with_reducible assumption) | (with_reducible exact Own.nil _ _ _ _) | (with_reducible refine Own.app ?_) | (with_reducible refine Own.tick ?_) | (with_reducible refine Own.gx ?_) | (with_reducible refine Own.alloc ?_) | (with_reducible refine Own.drew ?_) | (with_reducible refine Own.row ?_ (by omega))))); exact (by repeat (first | (with_reducible exact Gx.refl _) | (with_reducible assumption) | (with_reducible refine Gx.gx ?_) | (with_reducible refine Gx.alloc ?_) | (with_reducible refine Gx.drew ?_) | (with_reducible refine Gx.drewN ?_) | (with_reducible refine Gx.setRow ?_ (by simp)) | (with_reducible refine Gx.setCell ?_ (by simp)))); (focus (simp <;> omega)); exact rfl; (focus (repeat (first | (with_reducible assumption) | ((with_reducible apply Shows.whole); focus ((focus (repeat (first | (with_reducible assumption) | (with_reducible exact At.new _ _) | (with_reducible refine At.row ?_) | (with_reducible refine At.app ?_) | (with_reducible refine At.tick ?_) | (with_reducible refine At.gx ?_) | ((with_reducible refine At.new' ?_); focus (simp; done)) | (with_reducible refine At.alloc ?_) | (with_reducible refine At.drew ?_) | (with_reducible exact Is.new _ _ _) | (with_reducible refine Is.row ?_) | (with_reducible refine Is.gx ?_) | ((with_reducible refine Is.new' ?_); focus (simp; done)) | (with_reducible refine Is.alloc ?_) | (with_reducible refine Is.drew ?_)))); done)) | (with_reducible refine Shows.app ?_) | (with_reducible refine Shows.tick ?_) | (with_reducible refine Shows.gx ?_) | (with_reducible refine Shows.alloc ?_) | (with_reducible refine Shows.drew ?_)))); (focus (simp [Value.oneCell']; done)); (focus (simp only [maxLen]; omega)); (focus omega); (rintro v' _ ⟨y', rfl⟩ hO' _); have hO3 := Lib.hid hO'; clear hO'))
            go_roundw
            case rel => exact ⟨j + 1, by omega, by go_num, (by repeat (first | (with_reducible exact Gx.refl _) | (with_reducible assumption) | (with_reducible refine Gx.gx ?_) | (with_reducible refine Gx.alloc ?_) | (with_reducible refine Gx.drew ?_) | (with_reducible refine Gx.drewN ?_) | (with_reducible refine Gx.setRow ?_ (by simp)) | (with_reducible refine Gx.setCell ?_ (by simp)))), by rw [HS.out]; exact hO3.out⟩
            case measure => simp [intOf]; omega
          · obtain rfl : j = 4 := by omega
            go_wp2
            go_roundw
            case rel => exact ⟨2 + 1, by omega, by go_num, (by repeat (first | (with_reducible exact Gx.refl _) | (with_reducible assumption) | (with_reducible refine Gx.gx ?_) | (with_reducible refine Gx.alloc ?_) | (with_reducible refine Gx.drew ?_) | (with_reducible refine Gx.drewN ?_) | (with_reducible refine Gx.setRow ?_ (by simp)) | (with_reducible refine Gx.setCell ?_ (by simp)))), by rw [HB.out]; rw [List.take_of_length_le (by rw [candsY_len]; omega)] at hO2; exact hO2⟩
            case measure => simp [intOf]
      · have HE := Lib.hid (bkC_3 (lo := lo) (hi := hi) (x := x) ha)
        go_wp2
        go_ret
        exact cand_end (N := 14) (by repeat (first | (with_reducible exact Gx.refl _) | (with_reducible assumption) | (with_reducible refine Gx.gx ?_) | (with_reducible refine Gx.alloc ?_) | (with_reducible refine Gx.drew ?_) | (with_reducible refine Gx.drewN ?_) | (with_reducible refine Gx.setRow ?_ (by simp)) | (with_reducible refine Gx.setCell ?_ (by simp)))) (by omega) (b := w.heap.size + 2) (by omega) (by rw [← HE.out]; exact hO)
end Go.Proofs.Ytkfolbhdjppgaaa
