/-
  The solid samples of a series, both sides: contracts.
-/
import Derived.Test.YtmpokfbliacmoaaDoorSRHeld
import Derived.Test.YtmpokfbliacmoaaDoorSCalb2
namespace Go.Proofs.YtmpokfbliacmoaaDoor
open Go.RowKit
-- AT2
-- AT3

/-- The numbers of the solid samples among the first k. -/
def solL (g : Nat → Sm) : Nat → List Nat
  | 0 => []
  | k + 1 => solL g k ++ if 3 ≤ (g k).m then [k] else []
theorem solL_yes {g : Nat → Sm} {k : Nat} (h : 3 ≤ (g k).m) : solL g (k + 1) = solL g k ++ [k] := by show solL g k ++ (if 3 ≤ (g k).m then [k] else []) = _; rw [if_pos h]
theorem solL_no {g : Nat → Sm} {k : Nat} (h : ¬ 3 ≤ (g k).m) : solL g (k + 1) = solL g k := by show solL g k ++ (if 3 ≤ (g k).m then [k] else []) = _; rw [if_neg h, List.append_nil]
theorem solL_len (g : Nat → Sm) : ∀ k, (solL g k).length ≤ k
  | 0 => Nat.le_refl _
  | k + 1 => by
    have := solL_len g k
    by_cases h : 3 ≤ (g k).m
    · rw [solL_yes h, List.length_append]; simp; omega
    · rw [solL_no h]; omega
theorem solL_lt (g : Nat → Sm) : ∀ k, ∀ i ∈ solL g k, i < k
  | 0, i, h => by cases h
  | k + 1, i, h => by
    by_cases h3 : 3 ≤ (g k).m
    · rw [solL_yes h3, List.mem_append] at h
      rcases h with h | h
      · have := solL_lt g k i h; omega
      · have : i = k := by simpa using h
        omega
    · rw [solL_no h3] at h; have := solL_lt g k i h; omega
/-- The cells of solid samples with their numbers. -/
def slC (g : Nat → Sm) (L : List Nat) : List Value := L.flatMap fun i => [.int .i64 (g i).t, .int .i64 (g i).n, .int .i64 (g i).m, .int .i64 (i : Int)]
theorem slC_len (g : Nat → Sm) : ∀ L : List Nat, (slC g L).length = L.length * 4
  | [] => rfl
  | i :: L => by
    have := slC_len g L
    unfold slC at *
    rw [List.flatMap_cons, List.length_append, this]
    simp; omega
theorem slC_app (g : Nat → Sm) (L : List Nat) (k : Nat) : slC g (L ++ [k]) = slC g L ++ [.int .i64 (g k).t, .int .i64 (g k).n, .int .i64 (g k).m, .int .i64 (k : Int)] := by
  unfold slC
  rw [List.flatMap_append]
  simp
theorem slC_at (g : Nat → Sm) : ∀ (L : List Nat) k, k < L.length → (slC g L)[k * 4]? = some (.int .i64 (g (L.getD k 0)).t) ∧ (slC g L)[k * 4 + 1]? = some (.int .i64 (g (L.getD k 0)).n) ∧ (slC g L)[k * 4 + 2]? = some (.int .i64 (g (L.getD k 0)).m) ∧ (slC g L)[k * 4 + 3]? = some (.int .i64 ((L.getD k 0 : Nat) : Int))
  | [], k, h => absurd h (by simp)
  | i :: L, 0, _ => ⟨rfl, rfl, rfl, rfl⟩
  | i :: L, k + 1, h => by
    obtain ⟨e1, e2, e3, e4⟩ := slC_at g L k (by simpa using h)
    have hc : slC g (i :: L) = [.int .i64 (g i).t, .int .i64 (g i).n, .int .i64 (g i).m, .int .i64 (i : Int)] ++ slC g L := rfl
    rw [hc, List.getElem?_append_right (by simp; omega), List.getElem?_append_right (by simp; omega), List.getElem?_append_right (by simp; omega), List.getElem?_append_right (by simp; omega)]
    rw [show (k + 1) * 4 - _ = k * 4 from by simp; omega, show (k + 1) * 4 + 1 - _ = k * 4 + 1 from by simp; omega, show (k + 1) * 4 + 2 - _ = k * 4 + 2 from by simp; omega, show (k + 1) * 4 + 3 - _ = k * 4 + 3 from by simp; omega]
    exact ⟨e1, e2, e3, e4⟩
theorem el_solid : Elem 34 40 4 32 := elem_of Tryd.underlying34 (by decide) (z := .agg #[.int .i64 0, .int .i64 0, .int .i64 0, .int .i64 0]) (by kernel_rfl) rfl
set_option maxHeartbeats 4000000 in
set_option maxRecDepth 100000 in
theorem solids_any (g : Nat → Sm) (n c : Nat) (A : Option Addr) (w : World) (hL : SmAt w g n A) (hn : n ≤ 20000) :
    Calls Tryd.prog 10 #[.slice A n c] w fun e w' => ∃ A' c' x, e = .returned (.slice A' (solL g n).length c') ∧ w' = gx w x ∧ Own w.heap.size w' 40 4 (.slice A' (solL g n).length c') (solL g n).length (slC g (solL g n)) := by
  go_enter Tryd.func10, Tryd.ntmps10
  go_wp2
  go_loopw [8, 3] (fun i s wr => ∃ (k : Nat) (A1 : Option Addr) (c1 : Nat), k ≤ n ∧ i = .int .i64 k ∧ s = .slice A1 (solL g k).length c1 ∧ (∃ x, wr = gx w x) ∧ Own w.heap.size wr 40 4 (.slice A1 (solL g k).length c1) (solL g k).length (slC g (solL g k))) (fun i _ _ => n - (intOf i).toNat)
  case atStart => exact ⟨0, none, 0, Nat.zero_le _, rfl, rfl, (by repeat (first | (with_reducible exact Gx.refl _) | (with_reducible assumption) | (with_reducible refine Gx.gx ?_) | (with_reducible refine Gx.alloc ?_) | (with_reducible refine Gx.drew ?_) | (with_reducible refine Gx.drewN ?_) | (with_reducible refine Gx.setRow ?_ (by first | omega | (simp; done) | (simp <;> omega))) | (with_reducible refine Gx.setCell ?_ (by first | omega | (simp; done) | (simp <;> omega))))), Own.nil _ _ _ _⟩
  case round =>
    obtain ⟨k, A1, c1, hk, rfl, rfl, hG, hO⟩ := hrel
    by_cases hlt : k < n
    · have hkz : (k : Int) < (n : Int) := by omega
      obtain ⟨b, o, rfl, hbw, HCs⟩ := hL.get (by omega)
      obtain ⟨s2, s3, s4⟩ := HCs.out k hlt
      obtain ⟨x, hx⟩ := id hG
      have d1 : wr.cell? ⟨b, o + k * 3, none⟩ = some (.int .i64 (g k).t) := by rw [hx]; exact cell_keep_gx s2
      have d2 : wr.cell? ⟨b, o + k * 3 + 1, none⟩ = some (.int .i64 (g k).n) := by rw [hx]; exact cell_keep_gx s3
      have d3 : wr.cell? ⟨b, o + k * 3 + 2, none⟩ = some (.int .i64 (g k).m) := by rw [hx]; exact cell_keep_gx s4
      have hb0 : b < wr.heap.size := World.block_lt_of_cell? wr _ d1
      have hq := solL_len g k
      have hwr : w.heap.size ≤ wr.heap.size := by rw [hx, size_gx]; omega
      have HO := Lib.hid hO
      have HG := Lib.hid hG
      clear hx s2 s3 s4 hO hG
      by_cases h3 : 3 ≤ (g k).m
      · have p3 : decide (3 ≤ (g k).m) = true := decide_eq_true h3
        have hs := Lib.hid (solL_yes h3)
        have ha := Lib.hid (slC_app g (solL g k) k)
        clear h3
        generalize solL g k = L at *
        generalize slC g L = xs at *
        generalize hgk : g k = X at *
        obtain ⟨xt, xn, xm⟩ := X
        simp only at d1 d2 d3 p3
        go_wp2_with first
          | (go_at_call 22; refine (isSolid_any _ _ _ _).mono ?_; rw [p3]; rintro e w' ⟨rfl, y, rfl⟩)
          | (at_builtin; (with_reducible apply append_new (o := ⟨some 20, _, _, _, _, _⟩) el_solid w w.heap.size (v := .slice A1 L.length c1) (n := L.length) (xs := xs) (m := 1) (news := [.int .i64 xt, .int .i64 xn, .int .i64 xm, .int .i64 (k : Int)])); go_loud (exact rfl; exact rfl; exact rfl; exact rfl; (focus omega); exact ((HO.out.alloc (o := (.cells #[.int .i64 xt, .int .i64 xn, .int .i64 xm] 38))).gx (x := y)).alloc (o := (.cells #[.int .i64 xt, .int .i64 xn, .int .i64 xm, .int .i64 (k : Int)] 40)); exact Gx.alloc (o := (.cells #[.int .i64 xt, .int .i64 xn, .int .i64 xm, .int .i64 (k : Int)] 40)) (Gx.gx (y := y) (Gx.alloc (o := (.cells #[.int .i64 xt, .int .i64 xn, .int .i64 xm] 38)) HG.out)); (focus (simp <;> omega)); exact rfl; (focus (repeat (first | (with_reducible assumption) | ((with_reducible apply Shows.whole); focus ((focus (repeat (first | (with_reducible assumption) | (with_reducible exact At.new _ _) | (with_reducible refine At.row ?_) | ((with_reducible refine At.row_other ?_ ?_); rotate_left; (focus (simp <;> omega))) | (with_reducible refine At.app ?_) | (with_reducible refine At.tick ?_) | (with_reducible refine At.gx ?_) | ((with_reducible refine At.new' ?_); focus (simp; done)) | (with_reducible refine At.alloc ?_) | (with_reducible refine At.drew ?_) | (with_reducible exact Is.new _ _ _) | (with_reducible refine Is.row ?_) | ((with_reducible refine Is.row_other ?_ ?_); rotate_left; (focus (simp <;> omega))) | (with_reducible refine Is.gx ?_) | ((with_reducible refine Is.new' ?_); focus (simp; done)) | (with_reducible refine Is.alloc ?_) | (with_reducible refine Is.drew ?_)))); done)) | (with_reducible refine Shows.app ?_) | (with_reducible refine Shows.tick ?_) | (with_reducible refine Shows.gx ?_) | (with_reducible refine Shows.alloc ?_) | (with_reducible refine Shows.drew ?_)))); (focus (simp [Value.oneCell']; done)); (focus (simp only [maxLen]; omega)); (focus omega); rintro v2 W2 hW2 hO2 hg; obtain ⟨A2, c2, rfl, -⟩ := hO2.is; have HO2 := Lib.hid hO2; clear hg hO2))
        go_roundw
        case rel => exact ⟨k + 1, A2, c2, by omega, by go_num, by rw [hs.out, List.length_append]; rfl, hW2, by rw [hs.out, ha.out, List.length_append]; exact HO2.out⟩
        case measure => simp [intOf]; omega
      · have p3 : decide (3 ≤ (g k).m) = false := decide_eq_false h3
        have hs := Lib.hid (solL_no h3)
        clear h3
        go_wp2_with (go_at_call 22; refine (isSolid_any _ _ _ _).mono ?_; rw [p3]; rintro e w' ⟨rfl, y, rfl⟩)
        go_roundw
        case rel => exact ⟨k + 1, A1, c1, by omega, by go_num, by rw [hs.out], Gx.gx (Gx.alloc HG.out), by rw [hs.out]; exact HO.out.alloc.gx⟩
        case measure => simp [intOf]; omega
    · obtain rfl : k = n := by omega
      go_wp2
      go_ret
      obtain ⟨x, hx⟩ := hG
      exact ⟨A1, c1, x, rfl, hx, hO⟩
end Go.Proofs.YtmpokfbliacmoaaDoor
