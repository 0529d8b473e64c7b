/-
  What is wrong with a frame, in general: the list of flaws, the program's and the reference's.
-/
import Derived.Test.YtemgjiajpgepiaaDoorRow
import Derived.Test.YtemgjiajpgepiaaDoorSpoil
namespace Go.Proofs.YtemgjiajpgepiaaDoor
open Go.RowKit
-- AT2

def wideL (F : List Int) : Nat → List (Int × Int)
  | 0 => []
  | k + 1 => if 4096 ≤ gw F k then wideL F k ++ [((k : Int), 5)] else wideL F k
def evenL (F : List Int) : Nat → List (Int × Int)
  | 0 => []
  | k + 1 => if oddI (gw F (k + 1)) then evenL F k else evenL F k ++ [(((k + 1 : Nat) : Int), 2)]
def flC (l : List (Int × Int)) : List Value := l.flatMap fun p => [.int .i64 p.1, .int .i64 p.2]
theorem flC_len (l : List (Int × Int)) : (flC l).length = l.length * 2 := by
  unfold flC; induction l with
  | nil => rfl
  | cons a r ih => rw [List.flatMap_cons, List.length_append, ih]; simp; omega
theorem flC_app (l m : List (Int × Int)) : flC (l ++ m) = flC l ++ flC m := by unfold flC; simp
theorem flC_one (a b : Int) : flC [(a, b)] = [.int .i64 a, .int .i64 b] := rfl
theorem flC_flat (l : List (Int × Int)) : ∀ u ∈ flC l, u.oneCell' = true := by
  unfold flC
  intro u hu
  obtain ⟨p, _, hp⟩ := List.mem_flatMap.1 hu
  simp at hp
  rcases hp with rfl | rfl <;> rfl
theorem wideL_len (F : List Int) : ∀ k, (wideL F k).length ≤ k
  | 0 => Nat.le_refl _
  | k + 1 => by have := wideL_len F k; unfold wideL; split <;> simp <;> omega
theorem evenL_len (F : List Int) : ∀ k, (evenL F k).length ≤ k
  | 0 => Nat.le_refl _
  | k + 1 => by have := evenL_len F k; unfold evenL; split <;> simp <;> omega
theorem wideL_nil (F : List Int) : ∀ k, wideTo F k = false → wideL F k = []
  | 0, _ => rfl
  | k + 1, h => by
    simp only [wideTo, Bool.or_eq_false_iff, decide_eq_false_iff_not] at h
    unfold wideL
    rw [if_neg h.2, wideL_nil F k h.1]
theorem wideL_pos (F : List Int) : ∀ k, wideTo F k = true → 0 < (wideL F k).length
  | k + 1, h => by
    simp only [wideTo, Bool.or_eq_true, decide_eq_true_eq] at h
    unfold wideL
    split
    · simp
    · rename_i c
      rcases h with h | h
      · exact wideL_pos F k h
      · exact absurd h c
theorem evenL_nil (F : List Int) : ∀ k, parOk F k = true → evenL F k = []
  | 0, _ => rfl
  | k + 1, h => by
    simp only [parOk, Bool.and_eq_true] at h
    unfold evenL
    rw [if_pos h.2, evenL_nil F k h.1]
theorem evenL_pos (F : List Int) : ∀ k, parOk F k = false → 0 < (evenL F k).length
  | 0, h => by simp [parOk] at h
  | k + 1, h => by
    simp only [parOk, Bool.and_eq_false_iff] at h
    unfold evenL
    split
    · rename_i c
      rcases h with h | h
      · exact evenL_pos F k h
      · rw [c] at h; cases h
    · simp
/-- The flaws of a frame. -/
def flawsL (F : List Int) : List (Int × Int) :=
  if wideB F then wideL F 64 else
  (((if syncOk F then [] else [(0, 1)]) ++ evenL F 63) ++ (if sumOk F then [] else [(61, 3)])) ++ (if chkOk F then [] else [(62, 4)])
theorem flawsL_len (F : List Int) : (flawsL F).length ≤ 66 := by
  have := wideL_len F 64
  have := evenL_len F 63
  unfold flawsL
  split
  · omega
  · simp only [List.length_append]
    split <;> split <;> split <;> simp <;> omega
theorem flawsL_none {F : List Int} (hn : wideB F = false) : flawsL F = [] ↔ soundB F = true := by
  unfold flawsL
  rw [hn, soundB_true]
  constructor
  · intro h
    simp only [Bool.false_eq_true, if_false, List.append_eq_nil_iff] at h
    obtain ⟨⟨⟨h1, h2⟩, h3⟩, h4⟩ := h
    refine ⟨by split at h1 <;> simp_all, ?_, by split at h3 <;> simp_all, by split at h4 <;> simp_all⟩
    cases hp : parOk F 63 with
    | true => rfl
    | false => have := evenL_pos F 63 hp; rw [h2] at this; simp at this
  · rintro ⟨h1, h2, h3, h4⟩
    rw [h1, h3, h4, evenL_nil F 63 h2]
    rfl
theorem flawsL_wide {F : List Int} (hn : wideB F = true) : flawsL F ≠ [] := by
  unfold flawsL
  rw [if_pos hn]
  have := wideL_pos F 64 hn
  intro h
  rw [h] at this
  simp at this
theorem el_flaw : Elem 43 49 2 16 := elem_of Tryd.underlying43 (by decide) (z := .agg #[.int .i64 0, .int .i64 0]) (by kernel_rfl) rfl
attribute [irreducible] flC

set_option maxHeartbeats 1000000 in
set_option maxRecDepth 100000 in
theorem wordsThat_wideL (F : List Int) (hF : Fr F) (w : World) :
    Calls Tryd.prog 86 #[.agg (fc F), .int .i64 0, .int .i64 5, .func (.func 87) #[] #[]] w fun e w' => ∃ v x, e = .returned v ∧ w' = gx w x ∧ Own w.heap.size (gx w x) 49 2 v (wideL F 64).length (flC (wideL F 64)) := by
  have hl := hF.len
  have key : ∀ v W, (∃ x, W = gx w x) → Own (w.heap.size + 1) W 49 2 v (wideL F 64).length (flC (wideL F 64)) → ∃ v' x, Ending.returned v = .returned v' ∧ W = gx w x ∧ Own w.heap.size (gx w x) 49 2 v' (wideL F 64).length (flC (wideL F 64)) := fun v W ⟨x, hx⟩ h => ⟨v, x, rfl, hx, hx ▸ h.base (Nat.le_succ _)⟩
  have Key := Lib.hid key
  clear key
  go_enter Tryd.func86, Tryd.ntmps86
  go_wp2
  go_loopw [9, 10] (fun fl i wr => ∃ (k : Nat) (x : Ext), k ≤ 64 ∧ i = .int .i64 k ∧ wr = gx (w.alloc (.cells (fc F) 32)) x ∧ Own (w.heap.size + 1) wr 49 2 fl (wideL F k).length (flC (wideL F k))) (fun _ i _ => 64 - (intOf i).toNat)
  case atStart => exact ⟨0, _, Nat.zero_le _, rfl, (gx_none _).symm, by unfold flC; exact Own.nil _ _ _ _⟩
  case round =>
    obtain ⟨k, y, hk, rfl, rfl, hO⟩ := hrel
    by_cases hlt : k < 64
    · have hle := wideL_len F k
      by_cases hwd : 4096 ≤ gw F k
      · have hd : decide (4096 ≤ gw F k) = true := decide_eq_true hwd
        have hs : ∀ v W, Own (w.heap.size + 1) W 49 2 v ((wideL F k).length + 1) (flC (wideL F k) ++ [.int .i64 k, .int .i64 5]) → Own (w.heap.size + 1) W 49 2 v (wideL F (k + 1)).length (flC (wideL F (k + 1))) := fun v W h => by
          have e : wideL F (k + 1) = wideL F k ++ [((k : Int), 5)] := by rw [wideL, if_pos hwd]
          rw [e, flC_app, flC_one, List.length_append]; exact h
        have Hs := Lib.hid hs
        clear hs
        go_wp2_with (first | (go_at_call 87; refine (isTooWide_any _ _).mono ?_; rintro e w' ⟨rfl, rfl⟩) | (at_builtin; (with_reducible apply append_new (o := ⟨some 26, _, _, _, _, _⟩) el_flaw (w.alloc (.cells (fc F) 32)) (w.heap.size + 1) (v := u9) (n := (wideL F k).length) (xs := flC (wideL F k)) (m := 1) (news := [.int .i64 k, .int .i64 5])); exact rfl; exact rfl; exact rfl; exact rfl; (focus (simp; done)); (focus (repeat (first | (with_reducible assumption) | (with_reducible exact Own.nil _ _ _ _) | (with_reducible refine Own.app ?_) | (with_reducible refine Own.tick ?_) | (with_reducible refine Own.gx ?_) | (with_reducible refine Own.alloc ?_) | (with_reducible refine Own.drew ?_)))); exact (by repeat (first | (with_reducible exact Gx.refl _) | (with_reducible assumption) | (with_reducible refine Gx.gx ?_) | (with_reducible refine Gx.alloc ?_) | (with_reducible refine Gx.drew ?_) | (with_reducible refine Gx.drewN ?_) | (with_reducible refine Gx.setRow ?_ (by simp)) | (with_reducible refine Gx.setCell ?_ (by simp)))); (focus (simp <;> omega)); exact rfl; (focus (repeat (first | (with_reducible assumption) | ((with_reducible apply Shows.whole); focus ((focus (repeat (first | (with_reducible assumption) | (with_reducible exact At.new _ _) | (with_reducible refine At.row ?_) | (with_reducible refine At.app ?_) | (with_reducible refine At.tick ?_) | (with_reducible refine At.gx ?_) | ((with_reducible refine At.new' ?_); focus (simp; done)) | (with_reducible refine At.alloc ?_) | (with_reducible refine At.drew ?_) | (with_reducible exact Is.new _ _ _) | (with_reducible refine Is.row ?_) | (with_reducible refine Is.gx ?_) | ((with_reducible refine Is.new' ?_); focus (simp; done)) | (with_reducible refine Is.alloc ?_) | (with_reducible refine Is.drew ?_)))); done)) | (with_reducible refine Shows.app ?_) | (with_reducible refine Shows.tick ?_) | (with_reducible refine Shows.gx ?_) | (with_reducible refine Shows.alloc ?_) | (with_reducible refine Shows.drew ?_)))); (focus (simp [Value.oneCell']; done)); (focus (simp only [maxLen]; omega)); (focus omega); (rintro v' _ ⟨y', rfl⟩ hO' _); have hO2 := Hs.out _ _ hO'; clear hO'))
        go_roundw
        case rel => exact ⟨k + 1, _, by omega, by go_num, rfl, hO2⟩
        case measure => simp [intOf]; omega
      · have hd : decide (4096 ≤ gw F k) = false := decide_eq_false hwd
        have e : wideL F (k + 1) = wideL F k := by rw [wideL, if_neg hwd]
        rw [← e] at hO
        clear e
        go_wp2_with (go_at_call 87; refine (isTooWide_any _ _).mono ?_; rintro e w' ⟨rfl, rfl⟩)
        go_roundw
        case rel => exact ⟨k + 1, _, by omega, by go_num, rfl, hO⟩
        case measure => simp [intOf]; omega
    · obtain rfl : k = 64 := by omega
      go_wp2
      go_ret
      exact Key.out _ _ (by repeat (first | (with_reducible exact Gx.refl _) | (with_reducible assumption) | (with_reducible refine Gx.gx ?_) | (with_reducible refine Gx.alloc ?_) | (with_reducible refine Gx.drew ?_) | (with_reducible refine Gx.drewN ?_) | (with_reducible refine Gx.setRow ?_ (by simp)) | (with_reducible refine Gx.setCell ?_ (by simp)))) hO

set_option maxHeartbeats 1000000 in
set_option maxRecDepth 100000 in
theorem wordsThat_evenL (F : List Int) (hF : Fr F) (w : World) :
    Calls Tryd.prog 86 #[.agg (fc F), .int .i64 1, .int .i64 2, .func (.func 89) #[] #[]] w fun e w' => ∃ v x, e = .returned v ∧ w' = gx w x ∧ Own w.heap.size (gx w x) 49 2 v (evenL F 63).length (flC (evenL F 63)) := by
  have hl := hF.len
  have key : ∀ v W, (∃ x, W = gx w x) → Own (w.heap.size + 1) W 49 2 v (evenL F 63).length (flC (evenL F 63)) → ∃ v' x, Ending.returned v = .returned v' ∧ W = gx w x ∧ Own w.heap.size (gx w x) 49 2 v' (evenL F 63).length (flC (evenL F 63)) := fun v W ⟨x, hx⟩ h => ⟨v, x, rfl, hx, hx ▸ h.base (Nat.le_succ _)⟩
  have Key := Lib.hid key
  clear key
  go_enter Tryd.func86, Tryd.ntmps86
  go_wp2
  go_loopw [9, 10] (fun fl i wr => ∃ (k : Nat) (x : Ext), k ≤ 63 ∧ i = .int .i64 (k + 1 : Nat) ∧ wr = gx (w.alloc (.cells (fc F) 32)) x ∧ Own (w.heap.size + 1) wr 49 2 fl (evenL F k).length (flC (evenL F k))) (fun _ i _ => 65 - (intOf i).toNat)
  case atStart => exact ⟨0, _, Nat.zero_le _, rfl, (gx_none _).symm, by unfold flC; exact Own.nil _ _ _ _⟩
  case round =>
    obtain ⟨k, y, hk, rfl, rfl, hO⟩ := hrel
    by_cases hlt : k < 63
    · have hle := evenL_len F k
      have hlt' : k + 1 < 64 := by omega
      have k1 : 0 ≤ gw F (k + 1) := (hF.bd _).1
      have k2 : gw F (k + 1) ≤ 65535 := (hF.bd _).2
      cases ho : oddI (gw F (k + 1))
      · have hs : ∀ v W, Own (w.heap.size + 1) W 49 2 v ((evenL F k).length + 1) (flC (evenL F k) ++ [.int .i64 ((k : Int) + 1), .int .i64 2]) → Own (w.heap.size + 1) W 49 2 v (evenL F (k + 1)).length (flC (evenL F (k + 1))) := fun v W h => by
          have e : evenL F (k + 1) = evenL F k ++ [(((k + 1 : Nat) : Int), 2)] := by rw [evenL, ho]; rfl
          rw [e, flC_app, flC_one, List.length_append]; exact h
        have Hs := Lib.hid hs
        clear hs
        go_wp2_with (first | (go_at_call 89; refine (isEven_any _ k1 k2 _).mono ?_; rintro e w' ⟨rfl, z, rfl⟩) | (at_builtin; (with_reducible apply append_new (o := ⟨some 26, _, _, _, _, _⟩) el_flaw (w.alloc (.cells (fc F) 32)) (w.heap.size + 1) (v := u9) (n := (evenL F k).length) (xs := flC (evenL F k)) (m := 1) (news := [.int .i64 ((k : Int) + 1), .int .i64 2])); exact rfl; exact rfl; exact rfl; exact rfl; (focus (simp; done)); (focus (repeat (first | (with_reducible assumption) | (with_reducible exact Own.nil _ _ _ _) | (with_reducible refine Own.app ?_) | (with_reducible refine Own.tick ?_) | (with_reducible refine Own.gx ?_) | (with_reducible refine Own.alloc ?_) | (with_reducible refine Own.drew ?_)))); exact (by repeat (first | (with_reducible exact Gx.refl _) | (with_reducible assumption) | (with_reducible refine Gx.gx ?_) | (with_reducible refine Gx.alloc ?_) | (with_reducible refine Gx.drew ?_) | (with_reducible refine Gx.drewN ?_) | (with_reducible refine Gx.setRow ?_ (by simp)) | (with_reducible refine Gx.setCell ?_ (by simp)))); (focus (simp <;> omega)); exact rfl; (focus (repeat (first | (with_reducible assumption) | ((with_reducible apply Shows.whole); focus ((focus (repeat (first | (with_reducible assumption) | (with_reducible exact At.new _ _) | (with_reducible refine At.row ?_) | (with_reducible refine At.app ?_) | (with_reducible refine At.tick ?_) | (with_reducible refine At.gx ?_) | ((with_reducible refine At.new' ?_); focus (simp; done)) | (with_reducible refine At.alloc ?_) | (with_reducible refine At.drew ?_) | (with_reducible exact Is.new _ _ _) | (with_reducible refine Is.row ?_) | (with_reducible refine Is.gx ?_) | ((with_reducible refine Is.new' ?_); focus (simp; done)) | (with_reducible refine Is.alloc ?_) | (with_reducible refine Is.drew ?_)))); done)) | (with_reducible refine Shows.app ?_) | (with_reducible refine Shows.tick ?_) | (with_reducible refine Shows.gx ?_) | (with_reducible refine Shows.alloc ?_) | (with_reducible refine Shows.drew ?_)))); (focus (simp [Value.oneCell']; done)); (focus (simp only [maxLen]; omega)); (focus omega); (rintro v' _ ⟨y', rfl⟩ hO' _); have hO2 := Hs.out _ _ hO'; clear hO'))
        go_roundw
        case rel => exact ⟨k + 1, _, by omega, by go_num, rfl, hO2⟩
        case measure => simp [intOf]; omega
      · have e : evenL F (k + 1) = evenL F k := by rw [evenL, ho]; rfl
        rw [← e] at hO
        clear e
        go_wp2_with (go_at_call 89; refine (isEven_any _ k1 k2 _).mono ?_; rintro e w' ⟨rfl, z, rfl⟩)
        go_roundw
        case rel => exact ⟨k + 1, _, by omega, by go_num, rfl, by (focus (repeat (first | (with_reducible assumption) | (with_reducible exact Own.nil _ _ _ _) | (with_reducible refine Own.app ?_) | (with_reducible refine Own.tick ?_) | (with_reducible refine Own.gx ?_) | (with_reducible refine Own.alloc ?_) | (with_reducible refine Own.drew ?_))))⟩
        case measure => simp [intOf]; omega
    · obtain rfl : k = 63 := by omega
      go_wp2
      go_ret
      exact Key.out _ _ (by repeat (first | (with_reducible exact Gx.refl _) | (with_reducible assumption) | (with_reducible refine Gx.gx ?_) | (with_reducible refine Gx.alloc ?_) | (with_reducible refine Gx.drew ?_) | (with_reducible refine Gx.drewN ?_) | (with_reducible refine Gx.setRow ?_ (by simp)) | (with_reducible refine Gx.setCell ?_ (by simp)))) hO
end Go.Proofs.YtemgjiajpgepiaaDoor
