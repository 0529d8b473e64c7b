/-
  Range, the program's: a contract.
-/
import Derived.Test.YtmpokfbliacmoaaDoorSSolids
namespace Go.Proofs.YtmpokfbliacmoaaDoor
open Go.RowKit
-- AT2
-- AT3

/-- The least and the greatest number of the first k of some samples. -/
def rgLo (g : Nat → Sm) (L : List Nat) : Nat → Int
  | 0 => (g (L.getD 0 0)).n
  | k + 1 => min (rgLo g L k) (g (L.getD k 0)).n
def rgHi (g : Nat → Sm) (L : List Nat) : Nat → Int
  | 0 => (g (L.getD 0 0)).n
  | k + 1 => max (rgHi g L k) (g (L.getD k 0)).n
def rgE (den : Int) (g : Nat → Sm) (n : Nat) : Int := if serE den g n ≠ 0 then serE den g n else if (solL g n).length = 0 then 13 else 0
def rgA (den : Int) (g : Nat → Sm) (n : Nat) : Int := if rgE den g n = 0 then rgLo g (solL g n) (solL g n).length else 0
def rgB (den : Int) (g : Nat → Sm) (n : Nat) : Int := if rgE den g n = 0 then rgHi g (solL g n) (solL g n).length else 0
theorem rg_1 {den : Int} {g : Nat → Sm} {n : Nat} (h : serE den g n ≠ 0) : rgE den g n = serE den g n ∧ rgA den g n = 0 ∧ rgB den g n = 0 := by
  have : rgE den g n = serE den g n := by unfold rgE; rw [if_pos h]
  unfold rgA rgB; rw [this, if_neg h, if_neg h]; exact ⟨rfl, rfl, rfl⟩
theorem rg_2 {den : Int} {g : Nat → Sm} {n : Nat} (h : serE den g n = 0) (h2 : (solL g n).length = 0) : rgE den g n = 13 ∧ rgA den g n = 0 ∧ rgB den g n = 0 := by
  have : rgE den g n = 13 := by unfold rgE; rw [if_neg (fun k => k h), if_pos h2]
  unfold rgA rgB; rw [this, if_neg (by decide), if_neg (by decide)]; exact ⟨rfl, rfl, rfl⟩
theorem rg_3 {den : Int} {g : Nat → Sm} {n : Nat} (h : serE den g n = 0) (h2 : (solL g n).length ≠ 0) : rgE den g n = 0 ∧ rgA den g n = rgLo g (solL g n) (solL g n).length ∧ rgB den g n = rgHi g (solL g n) (solL g n).length := by
  have : rgE den g n = 0 := by unfold rgE; rw [if_neg (fun k => k h), if_neg h2]
  unfold rgA rgB; rw [this, if_pos rfl, if_pos rfl]; exact ⟨rfl, rfl, rfl⟩
attribute [irreducible] rgE rgA rgB
theorem sol_cells {b : Nat} {W : World} {g : Nat → Sm} {L : List Nat} {A : Option Addr} {c : Nat} (h : Own b W 40 4 (.slice A L.length c) L.length (slC g L)) (hl : 0 < L.length) :
    ∃ gS, A = some ⟨gS, 0, none⟩ ∧ gS < W.heap.size ∧ ∀ k, k < L.length → W.cell? ⟨gS, k * 4, none⟩ = some (.int .i64 (g (L.getD k 0)).t) ∧ W.cell? ⟨gS, k * 4 + 1, none⟩ = some (.int .i64 (g (L.getD k 0)).n) ∧ W.cell? ⟨gS, k * 4 + 2, none⟩ = some (.int .i64 (g (L.getD k 0)).m) ∧ W.cell? ⟨gS, k * 4 + 3, none⟩ = some (.int .i64 ((L.getD k 0 : Nat) : Int)) := by
  obtain ⟨A', c', e, _, _, _, hsh⟩ := h.is
  injection e with e1 e2 e3
  subst e1
  unfold Shows at hsh
  obtain ⟨gS, o, rfl, hc⟩ := hsh (by rw [slC_len]; omega)
  have ho : o = 0 := by
    rcases h.out.2 with ⟨e, h0⟩ | ⟨g', cap, cur, e, _⟩
    · omega
    · simp only [Value.slice.injEq, Option.some.injEq, Addr.mk.injEq] at e
      exact e.1.2.1
  subst ho
  have hcz : ∀ j u, (slC g L)[j]? = some u → W.cell? ⟨gS, j, none⟩ = some u := fun j u hu => by have := hc j u hu; rwa [Nat.zero_add] at this
  refine ⟨gS, rfl, World.block_lt_of_cell? W _ (hcz 0 _ (by have := (slC_at g L 0 hl).1; simpa using this)), fun k hk => ?_⟩
  obtain ⟨e1, e2, e3, e4⟩ := slC_at g L k hk
  exact ⟨hcz _ _ e1, hcz _ _ e2, hcz _ _ e3, hcz _ _ e4⟩
/-- The block gS holds solid samples. -/
def SolAt (W : World) (g : Nat → Sm) (L : List Nat) (gS : Nat) : Prop := gS < W.heap.size ∧ ∀ k, k < L.length → W.cell? ⟨gS, k * 4, none⟩ = some (.int .i64 (g (L.getD k 0)).t) ∧ W.cell? ⟨gS, k * 4 + 1, none⟩ = some (.int .i64 (g (L.getD k 0)).n) ∧ W.cell? ⟨gS, k * 4 + 2, none⟩ = some (.int .i64 (g (L.getD k 0)).m) ∧ W.cell? ⟨gS, k * 4 + 3, none⟩ = some (.int .i64 ((L.getD k 0 : Nat) : Int))
theorem SolAt.onx {W : World} {g : Nat → Sm} {L : List Nat} {gS : Nat} {x : Ext} (h : SolAt W g L gS) : SolAt (gx W x) g L gS :=
  ⟨by rw [size_gx]; have := h.1; omega, fun k hk => by obtain ⟨a, b, c, d⟩ := h.2 k hk; exact ⟨cell_keep_gx a, cell_keep_gx b, cell_keep_gx c, cell_keep_gx d⟩⟩
theorem SolAt.onalloc {W : World} {g : Nat → Sm} {L : List Nat} {gS : Nat} {o : Obj} (h : SolAt W g L gS) : SolAt (W.alloc o) g L gS := by rw [alloc_is]; exact h.onx
theorem SolAt.ondrew {W : World} {g : Nat → Sm} {L : List Nat} {gS : Nat} (h : SolAt W g L gS) : SolAt W.drew g L gS := h
theorem SolAt.ondrewN {W : World} {g : Nat → Sm} {L : List Nat} {gS k : Nat} (h : SolAt W g L gS) : SolAt (W.drewN k) g L gS := h
theorem SolAt.ontick {w : World} {x : Ext} {g : Nat → Sm} {L : List Nat} {gS k : Nat} (h : SolAt (gx w x) g L gS) : SolAt (gx w (x.tick k)) g L gS := by rw [← drewN_gx]; exact h
set_option maxHeartbeats 4000000 in
set_option maxRecDepth 100000 in
theorem Range_go (den : Int) (g : Nat → Sm) (n c : Nat) (A : Option Addr) (w : World) (hL : SmAt w g n A) (h0 : serE den g n = 0) (hl : (solL g n).length ≠ 0) :
    Calls Tryd.prog 7 #[serV den A n c] w fun e w' => e = .returned (.tuple #[.int .i64 (rgLo g (solL g n) (solL g n).length), .int .i64 (rgHi g (solL g n) (solL g n).length), .int .i64 0]) ∧ ∃ x, w' = gx w x := by
  obtain ⟨_, hn, hG⟩ := goodS_of h0
  have hLw : SmAt (w.alloc (.cells #[.int .i64 den, .slice A n c] 24)) g n A := hL.alloc
  have HC := fun W h => Check_any den g n c A W h
  rw [h0] at HC
  clear h0
  have HS := Lib.hid (fun W (h : SmAt W g n A) => solids_any g n c A W h hn)
  have hle := solL_len g n
  generalize solL g n = L at *
  have hl0 : 0 < L.length := by omega
  have hl1 : (0 : Int) < (L.length : Int) := by omega
  have hl2 : decide (L.length = 0) = false := decide_eq_false hl
  go_enter Tryd.func7, Tryd.ntmps7
  go_wp2_with first
    | (go_at_call 9; refine (HC _ hLw).mono ?_; rintro e w' ⟨rfl, z1, rfl⟩)
    | (go_at_call 10; refine (HS.out _ hLw.gx).mono ?_; rintro e w' ⟨A2, c2, x2, rfl, rfl, hO⟩; obtain ⟨gS, rfl, hgS, hcS⟩ := sol_cells hO hl0; rw [gx_gx] at hcS hgS; obtain ⟨e1, e2, e3, e4⟩ := hcS 0 hl0; simp only [Nat.zero_mul, Nat.zero_add] at e1 e2 e3 e4; obtain ⟨X0, hX0⟩ : ∃ X0, g (L.getD 0 0) = X0 := ⟨_, rfl⟩; rw [hX0] at e1 e2 e3; clear e4; have HX := Lib.hid hX0; clear hX0; have HCS : Hid (SolAt _ g L gS) := Lib.hid ⟨hgS, hcS⟩; clear hcS hO)
  have G8 : ∃ x, gx (w.alloc (.cells #[.int .i64 den, .slice A n c] 24)) (z1.app x2) = gx w x := (by repeat (first | (with_reducible exact Gx.refl _) | (with_reducible assumption) | (with_reducible refine Gx.gx ?_) | (with_reducible refine Gx.alloc ?_) | (with_reducible refine Gx.drew ?_) | (with_reducible refine Gx.drewN ?_) | (with_reducible refine Gx.setRow ?_ (by first | omega | (simp; done) | (simp <;> omega))) | (with_reducible refine Gx.setCell ?_ (by first | omega | (simp; done) | (simp <;> omega)))))
  generalize gx (w.alloc (.cells #[.int .i64 den, .slice A n c] 24)) (z1.app x2) = W8 at *
  go_quiet (fail)
  go_wp2
  go_loopw [32, 2, 3] (fun i lo hi wr => ∃ k : Nat, k ≤ L.length ∧ i = .int .i64 k ∧ lo = .int .i64 (rgLo g L k) ∧ hi = .int .i64 (rgHi g L k) ∧ (∃ x, wr = gx w x) ∧ SolAt wr g L gS) (fun i _ _ _ => L.length - (intOf i).toNat)
  case atStart => exact ⟨0, Nat.zero_le _, rfl, by show _ = Value.int _ (g (L.getD 0 0)).n; rw [HX.out], by show _ = Value.int _ (g (L.getD 0 0)).n; rw [HX.out], (by repeat (first | (with_reducible exact Gx.refl _) | (with_reducible assumption) | (with_reducible refine Gx.gx ?_) | (with_reducible refine Gx.alloc ?_) | (with_reducible refine Gx.drew ?_) | (with_reducible refine Gx.drewN ?_) | (with_reducible refine Gx.setRow ?_ (by first | omega | (simp; done) | (simp <;> omega))) | (with_reducible refine Gx.setCell ?_ (by first | omega | (simp; done) | (simp <;> omega))))), by first | exact HCS.out | exact HCS.out.ondrew | exact HCS.out.ontick | exact HCS.out.ondrewN⟩
  case round =>
    obtain ⟨k, hk, rfl, rfl, rfl, hG', hS⟩ := hrel
    have lS := hS.1
    by_cases hlt : k < L.length
    · have hkz : (k : Int) < (L.length : Int) := by omega
      obtain ⟨e1, e2, e3, e4⟩ := hS.2 k hlt
      have HN := Lib.hid hS
      have H1 : Hid (rgLo g L (k + 1) = min (rgLo g L k) (g (L.getD k 0)).n) := Lib.hid rfl
      have H2 : Hid (rgHi g L (k + 1) = max (rgHi g L k) (g (L.getD k 0)).n) := Lib.hid rfl
      clear hS
      generalize g (L.getD k 0) = X at *
      generalize L.getD k 0 = m at *
      generalize rgLo g L k = lo at *
      generalize rgHi g L k = hi at *
      go_wp2
      go_region
      go_wp2
      go_roundw
      case rel => exact ⟨k + 1, by omega, by go_num, by rw [H1.out], by rw [H2.out], (by repeat (first | (with_reducible exact Gx.refl _) | (with_reducible assumption) | (with_reducible refine Gx.gx ?_) | (with_reducible refine Gx.alloc ?_) | (with_reducible refine Gx.drew ?_) | (with_reducible refine Gx.drewN ?_) | (with_reducible refine Gx.setRow ?_ (by first | omega | (simp; done) | (simp <;> omega))) | (with_reducible refine Gx.setCell ?_ (by first | omega | (simp; done) | (simp <;> omega))))), by first | exact HN.out.onalloc | exact HN.out.onalloc.ondrew⟩
      case measure => simp [intOf]; omega
    · obtain rfl : k = L.length := by omega
      go_wp2
      refine bodyPost_ret (v := .tuple #[.int .i64 (rgLo g L L.length), .int .i64 (rgHi g L L.length), .int .i64 0]) (by simp [results, Tryd.results7, go_sem]) rfl ⟨rfl, (by repeat (first | (with_reducible exact Gx.refl _) | (with_reducible assumption) | (with_reducible refine Gx.gx ?_) | (with_reducible refine Gx.alloc ?_) | (with_reducible refine Gx.drew ?_) | (with_reducible refine Gx.drewN ?_) | (with_reducible refine Gx.setRow ?_ (by first | omega | (simp; done) | (simp <;> omega))) | (with_reducible refine Gx.setCell ?_ (by first | omega | (simp; done) | (simp <;> omega)))))⟩
set_option maxHeartbeats 4000000 in
set_option maxRecDepth 100000 in
theorem Range_any (den : Int) (g : Nat → Sm) (n c : Nat) (A : Option Addr) (w : World) (hL : SmAt w g n A) :
    Calls Tryd.prog 7 #[serV den A n c] w fun e w' => e = .returned (.tuple #[.int .i64 (rgA den g n), .int .i64 (rgB den g n), .int .i64 (rgE den g n)]) ∧ ∃ x, w' = gx w x := by
  have hLw : SmAt (w.alloc (.cells #[.int .i64 den, .slice A n c] 24)) g n A := hL.alloc
  have HC := fun W h => Check_any den g n c A W h
  by_cases h0 : serE den g n = 0
  · by_cases hl : (solL g n).length = 0
    · obtain ⟨E1, E2, E3⟩ := rg_2 h0 hl
      rw [E1, E2, E3]
      obtain ⟨_, hn, hG⟩ := goodS_of h0
      rw [h0] at HC
      have HS := Lib.hid (fun W (h : SmAt W g n A) => solids_any g n c A W h hn)
      rw [hl] at HS
      clear h0 E1 E2 E3 hl
      go_enter Tryd.func7, Tryd.ntmps7
      go_wp2_with first
        | (go_at_call 9; refine (HC _ hLw).mono ?_; rintro e w' ⟨rfl, z1, rfl⟩)
        | (go_at_call 10; refine (HS.out _ hLw.gx).mono ?_; rintro e w' ⟨A2, c2, x2, rfl, rfl, hO⟩; clear hO)
      exact bodyPost_ret (v := .tuple #[.int .i64 0, .int .i64 0, .int .i64 13]) (by simp [results, Tryd.results7, go_sem]) rfl ⟨rfl, (by repeat (first | (with_reducible exact Gx.refl _) | (with_reducible assumption) | (with_reducible refine Gx.gx ?_) | (with_reducible refine Gx.alloc ?_) | (with_reducible refine Gx.drew ?_) | (with_reducible refine Gx.drewN ?_) | (with_reducible refine Gx.setRow ?_ (by first | omega | (simp; done) | (simp <;> omega))) | (with_reducible refine Gx.setCell ?_ (by first | omega | (simp; done) | (simp <;> omega)))))⟩
    · obtain ⟨E1, E2, E3⟩ := rg_3 h0 hl
      rw [E1, E2, E3]
      exact Range_go den g n c A w hL h0 hl
  · obtain ⟨E1, E2, E3⟩ := rg_1 h0
    rw [E1, E2, E3]
    have n1 := ne0 h0
    have n2 := ne0' h0
    clear h0 E1 E2 E3
    generalize serE den g n = q at *
    go_enter Tryd.func7, Tryd.ntmps7
    go_wp2_with (go_at_call 9; refine (HC _ hLw).mono ?_; rintro e w' ⟨rfl, z1, rfl⟩)
    exact bodyPost_ret (v := .tuple #[.int .i64 0, .int .i64 0, .int .i64 q]) (by simp [results, Tryd.results7, go_sem]) rfl ⟨rfl, (by repeat (first | (with_reducible exact Gx.refl _) | (with_reducible assumption) | (with_reducible refine Gx.gx ?_) | (with_reducible refine Gx.alloc ?_) | (with_reducible refine Gx.drew ?_) | (with_reducible refine Gx.drewN ?_) | (with_reducible refine Gx.setRow ?_ (by first | omega | (simp; done) | (simp <;> omega))) | (with_reducible refine Gx.setCell ?_ (by first | omega | (simp; done) | (simp <;> omega)))))⟩
end Go.Proofs.YtmpokfbliacmoaaDoor
