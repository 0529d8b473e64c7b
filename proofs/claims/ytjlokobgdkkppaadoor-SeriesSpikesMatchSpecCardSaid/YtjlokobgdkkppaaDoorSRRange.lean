/-
  Solids and Range, the reference's: contracts.
-/
import Derived.Test.YtjlokobgdkkppaaDoorSRange
import Derived.Deep.RegionHeld3
namespace Go.Proofs.YtjlokobgdkkppaaDoor
open Go.RowKit
-- AT2
-- AT3

def numI (L : List Nat) : List Value := L.map fun i => .int .i64 ((i : Nat) : Int)
theorem numI_app (L : List Nat) (k : Nat) : numI (L ++ [k]) = numI L ++ [.int .i64 (k : Int)] := by unfold numI; rw [List.map_append]; rfl
theorem numI_at {L : List Nat} {k : Nat} (h : k < L.length) : (numI L)[k]? = some (.int .i64 ((L.getD k 0 : Nat) : Int)) := by
  unfold numI
  rw [List.getElem?_map, List.getElem?_eq_getElem h]
  simp [List.getD, h]
theorem el_int : Elem 46 3 1 8 := elem_of Tryd.underlying46 (by decide) (z := .int .i64 0) (by kernel_rfl) rfl
set_option maxHeartbeats 4000000 in
set_option maxRecDepth 100000 in
theorem RSolids_any (den : Int) (g : Nat → Sm) (n c : Nat) (A : Option Addr) (w : World) (hL : SmAt w g n A) (hn : n ≤ 20000) :
    Calls Tryd.prog 40 #[serV den A n c] w fun e w' => ∃ A' c' x, e = .returned (.slice A' (solL g n).length c') ∧ w' = gx w x ∧ Own w.heap.size w' 3 1 (.slice A' (solL g n).length c') (solL g n).length (numI (solL g n)) := by
  go_enter Tryd.func40, Tryd.ntmps40
  go_wp2
  go_loopw [4, 3] (fun i s wr => ∃ (k : Nat) (A1 : Option Addr) (c1 : Nat), k ≤ n ∧ i = .int .i64 k ∧ s = .slice A1 (solL g k).length c1 ∧ (∃ x, wr = gx w x) ∧ At wr w.heap.size (.cells #[.int .i64 den, .slice A n c] 24 (0, 0)) ∧ Own w.heap.size wr 3 1 (.slice A1 (solL g k).length c1) (solL g k).length (numI (solL g k))) (fun i _ _ => n - (intOf i).toNat)
  case atStart => exact ⟨0, none, 0, Nat.zero_le _, rfl, rfl, (by repeat (first | (with_reducible exact Gx.refl _) | (with_reducible assumption) | (with_reducible refine Gx.gx ?_) | (with_reducible refine Gx.alloc ?_) | (with_reducible refine Gx.drew ?_) | (with_reducible refine Gx.drewN ?_) | (with_reducible refine Gx.setRow ?_ (by first | omega | (simp; done) | (simp <;> omega))) | (with_reducible refine Gx.setCell ?_ (by first | omega | (simp; done) | (simp <;> omega))))), by (focus (repeat (first | (with_reducible assumption) | (with_reducible exact At.new _ _) | (with_reducible refine At.row ?_) | ((with_reducible refine At.row_other ?_ ?_); rotate_left; (focus (simp <;> omega))) | (with_reducible refine At.app ?_) | (with_reducible refine At.tick ?_) | (with_reducible refine At.gx ?_) | ((with_reducible refine At.new' ?_); focus (simp; done)) | (with_reducible refine At.alloc ?_) | (with_reducible refine At.drew ?_) | (with_reducible exact Is.new _ _ _) | (with_reducible refine Is.row ?_) | ((with_reducible refine Is.row_other ?_ ?_); rotate_left; (focus (simp <;> omega))) | (with_reducible refine Is.gx ?_) | ((with_reducible refine Is.new' ?_); focus (simp; done)) | (with_reducible refine Is.alloc ?_) | (with_reducible refine Is.drew ?_)))), Own.nil _ _ _ _⟩
  case round =>
    obtain ⟨k, A1, c1, hk, rfl, rfl, hG, hA, hO⟩ := hrel
    have s1 : wr.cell? ⟨w.heap.size, 1, none⟩ = some (.slice A n c) := by rw [cell_of_row wr _ _ _ _ _ hA]; rfl
    have l0 : w.heap.size < wr.heap.size := hA.lt
    by_cases hlt : k < n
    · have hkz : (k : Int) < (n : Int) := by omega
      obtain ⟨b, o, rfl, hbw, HCs⟩ := hL.get (by omega)
      obtain ⟨s2, s3, s4⟩ := HCs.out k hlt
      obtain ⟨x, hx⟩ := id hG
      have d3 : wr.cell? ⟨b, o + k * 3 + 2, none⟩ = some (.int .i64 (g k).m) := by rw [hx]; exact cell_keep_gx s4
      have hb0 : b < wr.heap.size := World.block_lt_of_cell? wr _ d3
      have hq := solL_len g k
      have HO := Lib.hid hO
      have HG := Lib.hid hG
      have HA := Lib.hid hA
      clear hx s2 s3 s4 hO hG hA
      by_cases h3 : 3 ≤ (g k).m
      · have p3 : decide (3 ≤ (g k).m) = true := decide_eq_true h3
        have hs := Lib.hid (solL_yes h3)
        have ha := Lib.hid (numI_app (solL g k) k)
        clear h3
        generalize solL g k = L at *
        generalize numI L = xs at *
        go_wp2_with first
          | (go_at_call 64; refine (Rsolid_any _ _).mono ?_; rw [p3]; rintro e w' ⟨rfl, rfl⟩)
          | (at_builtin; (with_reducible apply append_new (o := ⟨some 22, _, _, _, _, _⟩) el_int w w.heap.size (v := .slice A1 L.length c1) (n := L.length) (xs := xs) (m := 1) (news := [.int .i64 (k : Int)])); go_loud (exact rfl; exact rfl; exact rfl; exact rfl; (focus omega); exact HO.out.alloc (o := (.cells #[.int .i64 (k : Int)] 3)); exact Gx.alloc (o := (.cells #[.int .i64 (k : Int)] 3)) HG.out; (focus (simp <;> omega)); exact rfl; (focus (repeat (first | (with_reducible assumption) | ((with_reducible apply Shows.whole); focus ((focus (repeat (first | (with_reducible assumption) | (with_reducible exact At.new _ _) | (with_reducible refine At.row ?_) | ((with_reducible refine At.row_other ?_ ?_); rotate_left; (focus (simp <;> omega))) | (with_reducible refine At.app ?_) | (with_reducible refine At.tick ?_) | (with_reducible refine At.gx ?_) | ((with_reducible refine At.new' ?_); focus (simp; done)) | (with_reducible refine At.alloc ?_) | (with_reducible refine At.drew ?_) | (with_reducible exact Is.new _ _ _) | (with_reducible refine Is.row ?_) | ((with_reducible refine Is.row_other ?_ ?_); rotate_left; (focus (simp <;> omega))) | (with_reducible refine Is.gx ?_) | ((with_reducible refine Is.new' ?_); focus (simp; done)) | (with_reducible refine Is.alloc ?_) | (with_reducible refine Is.drew ?_)))); done)) | (with_reducible refine Shows.app ?_) | (with_reducible refine Shows.tick ?_) | (with_reducible refine Shows.gx ?_) | (with_reducible refine Shows.alloc ?_) | (with_reducible refine Shows.drew ?_)))); (focus (simp [Value.oneCell']; done)); (focus (simp only [maxLen]; omega)); (focus omega); rintro v2 W2 hW2 hO2 hg; obtain ⟨A2, c2, rfl, -⟩ := hO2.is; have HA2 := Lib.hid (At.grown (At.alloc HA.out) hg (own_ne_at (HO.out.alloc (o := (.cells #[.int .i64 (k : Int)] 3))) (At.alloc HA.out) (by decide))); have HO2 := Lib.hid hO2; clear hg hO2))
        go_roundw
        case rel => exact ⟨k + 1, A2, c2, by omega, by go_num, by rw [hs.out, List.length_append]; rfl, hW2, HA2.out, by rw [hs.out, ha.out, List.length_append]; exact HO2.out⟩
        case measure => simp [intOf]; omega
      · have p3 : decide (3 ≤ (g k).m) = false := decide_eq_false h3
        have hs := Lib.hid (solL_no h3)
        clear h3
        go_wp2_with (go_at_call 64; refine (Rsolid_any _ _).mono ?_; rw [p3]; rintro e w' ⟨rfl, rfl⟩)
        go_roundw
        case rel => exact ⟨k + 1, A1, c1, by omega, by go_num, by rw [hs.out], HG.out, HA.out, by rw [hs.out]; exact HO.out⟩
        case measure => simp [intOf]; omega
    · obtain rfl : k = n := by omega
      go_wp2
      go_ret
      obtain ⟨x, hx⟩ := hG
      exact ⟨A1, c1, x, rfl, hx, hO⟩
/-- The block gS holds the numbers of samples. -/
def NumAt (W : World) (L : List Nat) (gS : Nat) : Prop := ∀ k, k < L.length → W.cell? ⟨gS, k, none⟩ = some (.int .i64 ((L.getD k 0 : Nat) : Int))
theorem num_cells {b : Nat} {W : World} {L : List Nat} {A : Option Addr} {c : Nat} (h : Own b W 3 1 (.slice A L.length c) L.length (numI L)) (hl : 0 < L.length) : ∃ gS, A = some ⟨gS, 0, none⟩ ∧ NumAt W L gS := by
  obtain ⟨A', c', e, _, _, _, hsh⟩ := h.is
  injection e with e1 e2 e3
  subst e1
  unfold Shows at hsh
  obtain ⟨gS, o, rfl, hc⟩ := hsh (by unfold numI; simpa using hl)
  have ho : o = 0 := by
    rcases h.out.2 with ⟨e, h0⟩ | ⟨g', cap, cur, e, _⟩
    · omega
    · simp only [Value.slice.injEq, Option.some.injEq, Addr.mk.injEq] at e
      exact e.1.2.1
  subst ho
  exact ⟨gS, rfl, fun k hk => by have := hc k _ (numI_at hk); rwa [Nat.zero_add] at this⟩
theorem NumAt.onx {W : World} {L : List Nat} {gS : Nat} {x : Ext} (h : NumAt W L gS) : NumAt (gx W x) L gS := fun k hk => cell_keep_gx (h k hk)
theorem NumAt.ondrew {W : World} {L : List Nat} {gS : Nat} (h : NumAt W L gS) : NumAt W.drew L gS := h
theorem NumAt.ondrewN {W : World} {L : List Nat} {gS k : Nat} (h : NumAt W L gS) : NumAt (W.drewN k) L gS := h
set_option maxHeartbeats 4000000 in
set_option maxRecDepth 100000 in
theorem RRange_go (den : Int) (g : Nat → Sm) (n c : Nat) (A : Option Addr) (w : World) (hL : SmAt w g n A) (h0 : serE den g n = 0) (hl : (solL g n).length ≠ 0) :
    Calls Tryd.prog 15 #[serV den A n c] w fun e w' => e = .returned (.tuple #[.int .i64 (rgLo g (solL g n) (solL g n).length), .int .i64 (rgHi g (solL g n) (solL g n).length), .int .i64 0]) ∧ ∃ x, w' = gx w x := by
  obtain ⟨_, hn, hG⟩ := goodS_of h0
  have hLw : SmAt (w.alloc (.cells #[.int .i64 den, .slice A n c] 24)) g n A := hL.alloc
  have HC := fun W h => RCheck_any den g n c A W h
  rw [h0] at HC
  clear h0
  have HS := Lib.hid (fun W (h : SmAt W g n A) => RSolids_any den g n c A W h hn)
  have hle := solL_len g n
  have hLt : Hid (∀ k, k < (solL g n).length → (solL g n).getD k 0 < n) := Lib.hid (fun k hk => solL_lt g n _ (by rw [List.getD, List.getElem?_eq_getElem hk]; exact List.getElem_mem hk))
  generalize solL g n = L at *
  have hl0 : 0 < L.length := by omega
  have hl1 : (0 : Int) < (L.length : Int) := by omega
  have hl2 : decide (L.length = 0) = false := decide_eq_false hl
  go_enter Tryd.func15, Tryd.ntmps15
  go_wp2_with first
    | (go_at_call 13; refine (HC _ hLw).mono ?_; rintro e w' ⟨rfl, z1, rfl⟩)
    | (go_at_call 40; refine (HS.out _ hLw.gx).mono ?_; rintro e w' ⟨A2, c2, x2, rfl, rfl, hO⟩; obtain ⟨gS, rfl, hcS⟩ := num_cells hO hl0; rw [gx_gx] at hcS; have HCS := Lib.hid hcS; clear hcS hO)
  have G8 : ∃ x, gx (w.alloc (.cells #[.int .i64 den, .slice A n c] 24)) (z1.app x2) = gx w x := (by repeat (first | (with_reducible exact Gx.refl _) | (with_reducible assumption) | (with_reducible refine Gx.gx ?_) | (with_reducible refine Gx.alloc ?_) | (with_reducible refine Gx.drew ?_) | (with_reducible refine Gx.drewN ?_) | (with_reducible refine Gx.setRow ?_ (by first | omega | (simp; done) | (simp <;> omega))) | (with_reducible refine Gx.setCell ?_ (by first | omega | (simp; done) | (simp <;> omega)))))
  have S8 : At (gx (w.alloc (.cells #[.int .i64 den, .slice A n c] 24)) (z1.app x2)) w.heap.size (.cells #[.int .i64 den, .slice A n c] 24 (0, 0)) := by (focus (repeat (first | (with_reducible assumption) | (with_reducible exact At.new _ _) | (with_reducible refine At.row ?_) | ((with_reducible refine At.row_other ?_ ?_); rotate_left; (focus (simp <;> omega))) | (with_reducible refine At.app ?_) | (with_reducible refine At.tick ?_) | (with_reducible refine At.gx ?_) | ((with_reducible refine At.new' ?_); focus (simp; done)) | (with_reducible refine At.alloc ?_) | (with_reducible refine At.drew ?_) | (with_reducible exact Is.new _ _ _) | (with_reducible refine Is.row ?_) | ((with_reducible refine Is.row_other ?_ ?_); rotate_left; (focus (simp <;> omega))) | (with_reducible refine Is.gx ?_) | ((with_reducible refine Is.new' ?_); focus (simp; done)) | (with_reducible refine Is.alloc ?_) | (with_reducible refine Is.drew ?_))))
  generalize gx (w.alloc (.cells #[.int .i64 den, .slice A n c] 24)) (z1.app x2) = W8 at *
  obtain ⟨b, o, rfl, hbw, HCs⟩ := hL.get (by have := hLt.out 0 hl0; omega)
  have cells : ∀ W k, (∃ x, W = gx w x) → NumAt W L gS → At W w.heap.size (.cells #[.int .i64 den, .slice (some ⟨b, o, none⟩) n c] 24 (0, 0)) → k < L.length →
      W.cell? ⟨w.heap.size, 1, none⟩ = some (.slice (some ⟨b, o, none⟩) n c) ∧ W.cell? ⟨gS, k, none⟩ = some (.int .i64 ((L.getD k 0 : Nat) : Int)) ∧ W.cell? ⟨b, o + L.getD k 0 * 3 + 1, none⟩ = some (.int .i64 (g (L.getD k 0)).n) ∧ L.getD k 0 < n := by
    intro W k hG hN hA hk
    have h1 := hLt.out k hk
    obtain ⟨x, rfl⟩ := hG
    exact ⟨by rw [cell_of_row _ _ _ _ _ _ hA]; rfl, hN k hk, cell_keep_gx (HCs.out _ h1).2.1, h1⟩
  have CL := Lib.hid cells
  obtain ⟨e1, e2, e3, e4⟩ := cells W8 0 G8 HCS.out S8 hl0
  have HA8 := Lib.hid S8
  clear cells S8
  obtain ⟨X0, hX0⟩ : ∃ X0, g (L.getD 0 0) = X0 := ⟨_, rfl⟩
  rw [hX0] at e3
  have HX := Lib.hid hX0
  obtain ⟨m0, hm0⟩ : ∃ m0, L.getD 0 0 = m0 := ⟨_, rfl⟩
  rw [hm0] at e2 e3 e4
  clear hX0 hm0
  have y1 : (m0 : Int) < (n : Int) := by omega
  have y2 : (0 : Int) ≤ (m0 : Int) := by omega
  go_quiet (fail)
  go_wp2
  go_loopw [9, 7, 8] (fun i lo hi wr => ∃ k : Nat, k ≤ L.length ∧ i = .int .i64 k ∧ lo = .int .i64 (rgLo g L k) ∧ hi = .int .i64 (rgHi g L k) ∧ (∃ x, wr = gx w x) ∧ NumAt wr L gS ∧ At wr w.heap.size (.cells #[.int .i64 den, .slice (some ⟨b, o, none⟩) n c] 24 (0, 0))) (fun i _ _ _ => L.length - (intOf i).toNat)
  case atStart => exact ⟨0, Nat.zero_le _, rfl, by show _ = Value.int _ (g (L.getD 0 0)).n; rw [HX.out], by show _ = Value.int _ (g (L.getD 0 0)).n; rw [HX.out], (by repeat (first | (with_reducible exact Gx.refl _) | (with_reducible assumption) | (with_reducible refine Gx.gx ?_) | (with_reducible refine Gx.alloc ?_) | (with_reducible refine Gx.drew ?_) | (with_reducible refine Gx.drewN ?_) | (with_reducible refine Gx.setRow ?_ (by first | omega | (simp; done) | (simp <;> omega))) | (with_reducible refine Gx.setCell ?_ (by first | omega | (simp; done) | (simp <;> omega))))), by first | exact HCS.out | exact HCS.out.ondrew | exact HCS.out.ondrewN, HA8.out⟩
  case round =>
    obtain ⟨k, hk, rfl, rfl, rfl, hG', hS, hA⟩ := hrel
    have HN := Lib.hid hS
    have HA := Lib.hid hA
    by_cases hlt : k < L.length
    · have hkz : (k : Int) < (L.length : Int) := by omega
      clear e1 e2 e3 e4 y1 y2
      obtain ⟨e1, e2, e3, e4⟩ := CL.out wr k hG' hS hA hlt
      have H1 : Hid (rgLo g L (k + 1) = min (rgLo g L k) (g (L.getD k 0)).n) := Lib.hid rfl
      have H2 : Hid (rgHi g L (k + 1) = max (rgHi g L k) (g (L.getD k 0)).n) := Lib.hid rfl
      clear hS hA
      generalize g (L.getD k 0) = X at *
      generalize L.getD k 0 = m at *
      have y1 : (m : Int) < (n : Int) := by omega
      have y2 : (0 : Int) ≤ (m : Int) := by omega
      generalize rgLo g L k = lo at *
      generalize rgHi g L k = hi at *
      go_wp2
      go_region
      go_wp2
      go_roundw
      case rel => exact ⟨k + 1, by omega, by go_num, by rw [H1.out], by rw [H2.out], (by repeat (first | (with_reducible exact Gx.refl _) | (with_reducible assumption) | (with_reducible refine Gx.gx ?_) | (with_reducible refine Gx.alloc ?_) | (with_reducible refine Gx.drew ?_) | (with_reducible refine Gx.drewN ?_) | (with_reducible refine Gx.setRow ?_ (by first | omega | (simp; done) | (simp <;> omega))) | (with_reducible refine Gx.setCell ?_ (by first | omega | (simp; done) | (simp <;> omega))))), HN.out, HA.out⟩
      case measure => simp [intOf]; omega
    · obtain rfl : k = L.length := by omega
      go_wp2
      refine bodyPost_ret (v := .tuple #[.int .i64 (rgLo g L L.length), .int .i64 (rgHi g L L.length), .int .i64 0]) (by simp [results, Tryd.results15, go_sem]) rfl ⟨rfl, (by repeat (first | (with_reducible exact Gx.refl _) | (with_reducible assumption) | (with_reducible refine Gx.gx ?_) | (with_reducible refine Gx.alloc ?_) | (with_reducible refine Gx.drew ?_) | (with_reducible refine Gx.drewN ?_) | (with_reducible refine Gx.setRow ?_ (by first | omega | (simp; done) | (simp <;> omega))) | (with_reducible refine Gx.setCell ?_ (by first | omega | (simp; done) | (simp <;> omega)))))⟩
set_option maxHeartbeats 4000000 in
set_option maxRecDepth 100000 in
theorem RRange_any (den : Int) (g : Nat → Sm) (n c : Nat) (A : Option Addr) (w : World) (hL : SmAt w g n A) :
    Calls Tryd.prog 15 #[serV den A n c] w fun e w' => e = .returned (.tuple #[.int .i64 (rgA den g n), .int .i64 (rgB den g n), .int .i64 (rgE den g n)]) ∧ ∃ x, w' = gx w x := by
  have hLw : SmAt (w.alloc (.cells #[.int .i64 den, .slice A n c] 24)) g n A := hL.alloc
  have HC := fun W h => RCheck_any den g n c A W h
  by_cases h0 : serE den g n = 0
  · by_cases hl : (solL g n).length = 0
    · obtain ⟨E1, E2, E3⟩ := rg_2 h0 hl
      rw [E1, E2, E3]
      obtain ⟨_, hn, hG⟩ := goodS_of h0
      rw [h0] at HC
      have HS := Lib.hid (fun W (h : SmAt W g n A) => RSolids_any den g n c A W h hn)
      rw [hl] at HS
      clear h0 E1 E2 E3 hl
      go_enter Tryd.func15, Tryd.ntmps15
      go_wp2_with first
        | (go_at_call 13; refine (HC _ hLw).mono ?_; rintro e w' ⟨rfl, z1, rfl⟩)
        | (go_at_call 40; refine (HS.out _ hLw.gx).mono ?_; rintro e w' ⟨A2, c2, x2, rfl, rfl, hO⟩; clear hO)
      exact bodyPost_ret (v := .tuple #[.int .i64 0, .int .i64 0, .int .i64 13]) (by simp [results, Tryd.results15, go_sem]) rfl ⟨rfl, (by repeat (first | (with_reducible exact Gx.refl _) | (with_reducible assumption) | (with_reducible refine Gx.gx ?_) | (with_reducible refine Gx.alloc ?_) | (with_reducible refine Gx.drew ?_) | (with_reducible refine Gx.drewN ?_) | (with_reducible refine Gx.setRow ?_ (by first | omega | (simp; done) | (simp <;> omega))) | (with_reducible refine Gx.setCell ?_ (by first | omega | (simp; done) | (simp <;> omega)))))⟩
    · obtain ⟨E1, E2, E3⟩ := rg_3 h0 hl
      rw [E1, E2, E3]
      exact RRange_go den g n c A w hL h0 hl
  · obtain ⟨E1, E2, E3⟩ := rg_1 h0
    rw [E1, E2, E3]
    have n1 := ne0 h0
    have n2 := ne0' h0
    clear h0 E1 E2 E3
    generalize serE den g n = q at *
    go_enter Tryd.func15, Tryd.ntmps15
    go_wp2_with (go_at_call 13; refine (HC _ hLw).mono ?_; rintro e w' ⟨rfl, z1, rfl⟩)
    exact bodyPost_ret (v := .tuple #[.int .i64 0, .int .i64 0, .int .i64 q]) (by simp [results, Tryd.results15, go_sem]) rfl ⟨rfl, (by repeat (first | (with_reducible exact Gx.refl _) | (with_reducible assumption) | (with_reducible refine Gx.gx ?_) | (with_reducible refine Gx.alloc ?_) | (with_reducible refine Gx.drew ?_) | (with_reducible refine Gx.drewN ?_) | (with_reducible refine Gx.setRow ?_ (by first | omega | (simp; done) | (simp <;> omega))) | (with_reducible refine Gx.setCell ?_ (by first | omega | (simp; done) | (simp <;> omega)))))⟩
end Go.Proofs.YtjlokobgdkkppaaDoor
