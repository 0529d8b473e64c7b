/-
  Solids and Range, the reference's: contracts.
-/
import Derived.Test.YtmpokfbliacmoaaDoorSRange
import Derived.Deep.RegionHeld3
namespace Go.Proofs.YtmpokfbliacmoaaDoor
open Go.RowKit
-- AT2
-- AT3

def numI (L : List Nat) : List Value := L.map fun i => .int .i64 ((i : Nat) : Int)
theorem numI_app (L : List Nat) (k : Nat) : numI (L ++ [k]) = numI L ++ [.int .i64 (k : Int)] := by unfold numI; rw [List.map_append]; rfl
theorem numI_at {L : List Nat} {k : Nat} (h : k < L.length) : (numI L)[k]? = some (.int .i64 ((L.getD k 0 : Nat) : Int)) := by
  unfold numI
  rw [List.getElem?_map, List.getElem?_eq_getElem h]
  simp [List.getD, h]
theorem el_int : Elem 36 3 1 8 := elem_of Tryd.underlying36 (by decide) (z := .int .i64 0) (by kernel_rfl) rfl
set_option maxHeartbeats 4000000 in
set_option maxRecDepth 100000 in
theorem RSolids_any (den : Int) (g : Nat → Sm) (n c : Nat) (A : Option Addr) (w : World) (hL : SmAt w g n A) (hn : n ≤ 20000) :
    Calls Tryd.prog 18 #[serV den A n c] w fun e w' => ∃ A' c' x, e = .returned (.slice A' (solL g n).length c') ∧ w' = gx w x ∧ Own w.heap.size w' 3 1 (.slice A' (solL g n).length c') (solL g n).length (numI (solL g n)) := by
  go_enter Tryd.func18, Tryd.ntmps18
  go_wp2
  go_loopw [4, 3] (fun i s wr => ∃ (k : Nat) (A1 : Option Addr) (c1 : Nat), k ≤ n ∧ i = .int .i64 k ∧ s = .slice A1 (solL g k).length c1 ∧ (∃ x, wr = gx w x) ∧ At wr w.heap.size (.cells #[.int .i64 den, .slice A n c] 24 (0, 0)) ∧ Own w.heap.size wr 3 1 (.slice A1 (solL g k).length c1) (solL g k).length (numI (solL g k))) (fun i _ _ => n - (intOf i).toNat)
  case atStart => exact ⟨0, none, 0, Nat.zero_le _, rfl, rfl, (by repeat (first | (with_reducible exact Gx.refl _) | (with_reducible assumption) | (with_reducible refine Gx.gx ?_) | (with_reducible refine Gx.alloc ?_) | (with_reducible refine Gx.drew ?_) | (with_reducible refine Gx.drewN ?_) | (with_reducible refine Gx.setRow ?_ (by first | omega | (simp; done) | (simp <;> omega))) | (with_reducible refine Gx.setCell ?_ (by first | omega | (simp; done) | (simp <;> omega))))), by (focus (repeat (first | (with_reducible assumption) | (with_reducible exact At.new _ _) | (with_reducible refine At.row ?_) | ((with_reducible refine At.row_other ?_ ?_); rotate_left; (focus (simp <;> omega))) | (with_reducible refine At.app ?_) | (with_reducible refine At.tick ?_) | (with_reducible refine At.gx ?_) | ((with_reducible refine At.new' ?_); focus (simp; done)) | (with_reducible refine At.alloc ?_) | (with_reducible refine At.drew ?_) | (with_reducible exact Is.new _ _ _) | (with_reducible refine Is.row ?_) | ((with_reducible refine Is.row_other ?_ ?_); rotate_left; (focus (simp <;> omega))) | (with_reducible refine Is.gx ?_) | ((with_reducible refine Is.new' ?_); focus (simp; done)) | (with_reducible refine Is.alloc ?_) | (with_reducible refine Is.drew ?_)))), Own.nil _ _ _ _⟩
  case round =>
    obtain ⟨k, A1, c1, hk, rfl, rfl, hG, hA, hO⟩ := hrel
    have s1 : wr.cell? ⟨w.heap.size, 1, none⟩ = some (.slice A n c) := by rw [cell_of_row wr _ _ _ _ _ hA]; rfl
    have l0 : w.heap.size < wr.heap.size := hA.lt
    by_cases hlt : k < n
    · have hkz : (k : Int) < (n : Int) := by omega
      obtain ⟨b, o, rfl, hbw, HCs⟩ := hL.get (by omega)
      obtain ⟨s2, s3, s4⟩ := HCs.out k hlt
      obtain ⟨x, hx⟩ := id hG
      have d3 : wr.cell? ⟨b, o + k * 3 + 2, none⟩ = some (.int .i64 (g k).m) := by rw [hx]; exact cell_keep_gx s4
      have hb0 : b < wr.heap.size := World.block_lt_of_cell? wr _ d3
      have hq := solL_len g k
      have HO := Lib.hid hO
      have HG := Lib.hid hG
      have HA := Lib.hid hA
      clear hx s2 s3 s4 hO hG hA
      by_cases h3 : 3 ≤ (g k).m
      · have p3 : decide (3 ≤ (g k).m) = true := decide_eq_true h3
        have hs := Lib.hid (solL_yes h3)
        have ha := Lib.hid (numI_app (solL g k) k)
        clear h3
        generalize solL g k = L at *
        generalize numI L = xs at *
        go_wp2_with first
          | (go_at_call 28; refine (Rsolid_any _ _).mono ?_; rw [p3]; rintro e w' ⟨rfl, rfl⟩)
          | (at_builtin; (with_reducible apply append_new (o := ⟨some 22, _, _, _, _, _⟩) el_int w w.heap.size (v := .slice A1 L.length c1) (n := L.length) (xs := xs) (m := 1) (news := [.int .i64 (k : Int)])); go_loud (exact rfl; exact rfl; exact rfl; exact rfl; (focus omega); exact HO.out.alloc (o := (.cells #[.int .i64 (k : Int)] 3)); exact Gx.alloc (o := (.cells #[.int .i64 (k : Int)] 3)) HG.out; (focus (simp <;> omega)); exact rfl; (focus (repeat (first | (with_reducible assumption) | ((with_reducible apply Shows.whole); focus ((focus (repeat (first | (with_reducible assumption) | (with_reducible exact At.new _ _) | (with_reducible refine At.row ?_) | ((with_reducible refine At.row_other ?_ ?_); rotate_left; (focus (simp <;> omega))) | (with_reducible refine At.app ?_) | (with_reducible refine At.tick ?_) | (with_reducible refine At.gx ?_) | ((with_reducible refine At.new' ?_); focus (simp; done)) | (with_reducible refine At.alloc ?_) | (with_reducible refine At.drew ?_) | (with_reducible exact Is.new _ _ _) | (with_reducible refine Is.row ?_) | ((with_reducible refine Is.row_other ?_ ?_); rotate_left; (focus (simp <;> omega))) | (with_reducible refine Is.gx ?_) | ((with_reducible refine Is.new' ?_); focus (simp; done)) | (with_reducible refine Is.alloc ?_) | (with_reducible refine Is.drew ?_)))); done)) | (with_reducible refine Shows.app ?_) | (with_reducible refine Shows.tick ?_) | (with_reducible refine Shows.gx ?_) | (with_reducible refine Shows.alloc ?_) | (with_reducible refine Shows.drew ?_)))); (focus (simp [Value.oneCell']; done)); (focus (simp only [maxLen]; omega)); (focus omega); rintro v2 W2 hW2 hO2 hg; obtain ⟨A2, c2, rfl, -⟩ := hO2.is; have HA2 := Lib.hid (At.grown (At.alloc HA.out) hg (own_ne_at (HO.out.alloc (o := (.cells #[.int .i64 (k : Int)] 3))) (At.alloc HA.out) (by decide))); have HO2 := Lib.hid hO2; clear hg hO2))
        go_roundw
        case rel => exact ⟨k + 1, A2, c2, by omega, by go_num, by rw [hs.out, List.length_append]; rfl, hW2, HA2.out, by rw [hs.out, ha.out, List.length_append]; exact HO2.out⟩
        case measure => simp [intOf]; omega
      · have p3 : decide (3 ≤ (g k).m) = false := decide_eq_false h3
        have hs := Lib.hid (solL_no h3)
        clear h3
        go_wp2_with (go_at_call 28; refine (Rsolid_any _ _).mono ?_; rw [p3]; rintro e w' ⟨rfl, rfl⟩)
        go_roundw
        case rel => exact ⟨k + 1, A1, c1, by omega, by go_num, by rw [hs.out], HG.out, HA.out, by rw [hs.out]; exact HO.out⟩
        case measure => simp [intOf]; omega
    · obtain rfl : k = n := by omega
      go_wp2
      go_ret
      obtain ⟨x, hx⟩ := hG
      exact ⟨A1, c1, x, rfl, hx, hO⟩
/-- The block gS holds the numbers of samples. -/
def NumAt (W : World) (L : List Nat) (gS : Nat) : Prop := ∀ k, k < L.length → W.cell? ⟨gS, k, none⟩ = some (.int .i64 ((L.getD k 0 : Nat) : Int))
theorem num_cells {b : Nat} {W : World} {L : List Nat} {A : Option Addr} {c : Nat} (h : Own b W 3 1 (.slice A L.length c) L.length (numI L)) (hl : 0 < L.length) : ∃ gS, A = some ⟨gS, 0, none⟩ ∧ NumAt W L gS := by
  obtain ⟨A', c', e, _, _, _, hsh⟩ := h.is
  injection e with e1 e2 e3
  subst e1
  unfold Shows at hsh
  obtain ⟨gS, o, rfl, hc⟩ := hsh (by unfold numI; simpa using hl)
  have ho : o = 0 := by
    rcases h.out.2 with ⟨e, h0⟩ | ⟨g', cap, cur, e, _⟩
    · omega
    · simp only [Value.slice.injEq, Option.some.injEq, Addr.mk.injEq] at e
      exact e.1.2.1
  subst ho
  exact ⟨gS, rfl, fun k hk => by have := hc k _ (numI_at hk); rwa [Nat.zero_add] at this⟩
theorem NumAt.onx {W : World} {L : List Nat} {gS : Nat} {x : Ext} (h : NumAt W L gS) : NumAt (gx W x) L gS := fun k hk => cell_keep_gx (h k hk)
theorem NumAt.ondrew {W : World} {L : List Nat} {gS : Nat} (h : NumAt W L gS) : NumAt W.drew L gS := h
theorem NumAt.ondrewN {W : World} {L : List Nat} {gS k : Nat} (h : NumAt W L gS) : NumAt (W.drewN k) L gS := h
end Go.Proofs.YtmpokfbliacmoaaDoor
