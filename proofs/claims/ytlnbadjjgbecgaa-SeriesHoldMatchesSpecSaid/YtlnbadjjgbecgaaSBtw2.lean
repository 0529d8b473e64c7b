/-
  Between of the program, case by case.
-/
import Derived.Test.YtlnbadjjgbecgaaSBtw
namespace Go.Proofs.Ytlnbadjjgbecgaa
open Go.RowKit
-- AT2
-- AT3

theorem ahd {g : Nat → Sm} {L : List Nat} {a : Int} : fstN g L a < L.length ∧ fstI g L a = (fstN g L a : Int) ∨ ¬ fstN g L a < L.length ∧ fstI g L a = -1 := by
  unfold fstI
  by_cases h : fstN g L a < L.length
  · exact Or.inl ⟨h, if_pos h⟩
  · exact Or.inr ⟨h, if_neg h⟩
set_option maxHeartbeats 4000000 in
set_option maxRecDepth 100000 in
theorem Between_none (den : Int) (g : Nat → Sm) (n c : Nat) (A : Option Addr) (a l : Int) (L : List Nat) (I : Int) (w : World) 
    (H1 : Hid (∀ W, (∃ y, W = gx (((w.alloc (.cells #[.int .i64 den, .slice A n c] 24)).alloc (.cells #[.int .i64 a] 3)).alloc (.cells #[.int .i64 0, .int .i64 0] 31)) y) → Calls Try.prog 13 #[serV den A n c, .int .i64 a, .int .i64 l] W fun e w' => e = .returned (.int .i64 0) ∧ ∃ x, w' = gx W x))
    (H2 : Hid (∀ W, (∃ y, W = gx (((w.alloc (.cells #[.int .i64 den, .slice A n c] 24)).alloc (.cells #[.int .i64 a] 3)).alloc (.cells #[.int .i64 0, .int .i64 0] 31)) y) → Calls Try.prog 18 #[.slice A n c] W fun e w' => ∃ A' c' x, e = .returned (.slice A' L.length c') ∧ w' = gx W x ∧ Own W.heap.size w' 49 4 (.slice A' L.length c') L.length (slC g L)))
    (H3 : Hid (∀ A' c' W, (0 < L.length → ∃ b o, A' = some ⟨b, o, none⟩ ∧ SolAt W g L b o) → W.cell? ⟨w.heap.size + 1, 0, none⟩ = some (.int .i64 a) → Calls Try.prog 19 #[.slice A' L.length c', .func (.func 20) #[] #[.pointer (some ⟨w.heap.size + 1, 0, none⟩)]] W fun e w' => e = .returned (.int .i64 I) ∧ ∃ x, w' = gx W x)) (hI : I = -1) :
    Calls Try.prog 7 #[serV den A n c, .int .i64 a, .int .i64 l] w fun e w' => e = .returned (.tuple #[ratV 0 0, .bool false, .int .i64 0]) ∧ ∃ x, w' = gx w x := by
  obtain ⟨q, hq⟩ : ∃ q, q = L.length := ⟨_, rfl⟩
  have HQ := Lib.hid hq
  rw [← hq] at H2 H3
  clear hq
  subst hI
  go_enter Try.func7, Try.ntmps7
  go_wp2_with first
    | (go_at_call 13; refine (H1.out _ (by repeat (first | (with_reducible exact Gx.refl _) | (with_reducible assumption) | (with_reducible refine Gx.gx ?_) | (with_reducible refine Gx.alloc ?_) | (with_reducible refine Gx.drew ?_) | (with_reducible refine Gx.drewN ?_) | (with_reducible refine Gx.setRow ?_ (by first | omega | (simp; done) | (simp <;> omega))) | (with_reducible refine Gx.setCell ?_ (by first | omega | (simp; done) | (simp <;> omega)))))).mono ?_; rintro e w' ⟨rfl, x1, rfl⟩)
    | (go_at_call 18; go_loud (refine (H2.out _ (by repeat (first | (with_reducible exact Gx.refl _) | (with_reducible assumption) | (with_reducible refine Gx.gx ?_) | (with_reducible refine Gx.alloc ?_) | (with_reducible refine Gx.drew ?_) | (with_reducible refine Gx.drewN ?_) | (with_reducible refine Gx.setRow ?_ (by first | omega | (simp; done) | (simp <;> omega))) | (with_reducible refine Gx.setCell ?_ (by first | omega | (simp; done) | (simp <;> omega)))))).mono ?_; rintro e w' ⟨A2, c2, x2, rfl, hW2, hO2⟩; have hX2 : ∃ y, w' = gx (((w.alloc (.cells #[.int .i64 den, .slice A n c] 24)).alloc (.cells #[.int .i64 a] 3)).alloc (.cells #[.int .i64 0, .int .i64 0] 31)) y := (by rw [hW2]; exact (by repeat (first | (with_reducible exact Gx.refl _) | (with_reducible assumption) | (with_reducible refine Gx.gx ?_) | (with_reducible refine Gx.alloc ?_) | (with_reducible refine Gx.drew ?_) | (with_reducible refine Gx.drewN ?_) | (with_reducible refine Gx.setRow ?_ (by first | omega | (simp; done) | (simp <;> omega))) | (with_reducible refine Gx.setCell ?_ (by first | omega | (simp; done) | (simp <;> omega)))))); clear hW2; obtain ⟨z2, rfl⟩ := hX2))
    | (go_at_call 19; refine (H3.out A2 c2 _ (fun h0 => by rw [HQ.out] at hO2 h0; exact sol_cells hO2 h0) (cell_keep_gx (cell_keep_alloc (by rw [cell_of_row _ _ _ _ _ _ (At.new' (w := w.alloc (.cells #[.int .i64 den, .slice A n c] 24)) (o := (.cells #[.int .i64 a] 3)) (by simp))]; rfl)))).mono ?_; rintro e w' ⟨rfl, x3, hW3⟩; have hX3 : ∃ y, w' = gx (((w.alloc (.cells #[.int .i64 den, .slice A n c] 24)).alloc (.cells #[.int .i64 a] 3)).alloc (.cells #[.int .i64 0, .int .i64 0] 31)) y := (by rw [hW3]; exact (by repeat (first | (with_reducible exact Gx.refl _) | (with_reducible assumption) | (with_reducible refine Gx.gx ?_) | (with_reducible refine Gx.alloc ?_) | (with_reducible refine Gx.drew ?_) | (with_reducible refine Gx.drewN ?_) | (with_reducible refine Gx.setRow ?_ (by first | omega | (simp; done) | (simp <;> omega))) | (with_reducible refine Gx.setCell ?_ (by first | omega | (simp; done) | (simp <;> omega)))))); have hO3 : Own _ w' 49 4 (.slice A2 q c2) q (slC g L) := (by rw [hW3]; exact hO2.gx); clear hW3 hO2)
  have B1 : w'.cell? ⟨w.heap.size + 1, 0, none⟩ = some (.int .i64 a) := by
    obtain ⟨y, rfl⟩ := hX3
    exact cell_keep_gx (cell_keep_alloc (by rw [cell_of_row _ _ _ _ _ _ (At.new' (w := w.alloc (.cells #[.int .i64 den, .slice A n c] 24)) (o := (.cells #[.int .i64 a] 3)) (by simp))]; rfl))
  have R1 : At w' (w.heap.size + 1 + 1) (.cells #[.int .i64 0, .int .i64 0] 31 (0, 0)) := by
    obtain ⟨y, rfl⟩ := hX3
    exact At.gx (At.new' (by simp))
  have hX : ∃ y, w' = gx w y := by obtain ⟨y, rfl⟩ := hX3; exact (by repeat (first | (with_reducible exact Gx.refl _) | (with_reducible assumption) | (with_reducible refine Gx.gx ?_) | (with_reducible refine Gx.alloc ?_) | (with_reducible refine Gx.drew ?_) | (with_reducible refine Gx.drewN ?_) | (with_reducible refine Gx.setRow ?_ (by first | omega | (simp; done) | (simp <;> omega))) | (with_reducible refine Gx.setCell ?_ (by first | omega | (simp; done) | (simp <;> omega)))))
  have hS : 0 < L.length → ∃ b o, A2 = some ⟨b, o, none⟩ ∧ SolAt w' g L b o := fun h0 => by rw [HQ.out] at hO3; exact sol_cells hO3 h0
  have c0 : w'.cell? ⟨w.heap.size + 1 + 1, 0, none⟩ = some (.int .i64 0) := by rw [cell_of_row w' _ _ _ _ _ R1]; rfl
  have c1 : w'.cell? ⟨w.heap.size + 1 + 1, 1, none⟩ = some (.int .i64 0) := by rw [cell_of_row w' _ _ _ _ _ R1]; rfl
  have z0 : w'.frozen? ⟨w.heap.size + 1 + 1, 0, none⟩ = false := R1.frz
  have z1 : w'.frozen? ⟨w.heap.size + 1 + 1, 1, none⟩ = false := R1.frz
  have l1 : w.heap.size + 1 + 1 < w'.heap.size := R1.lt
  have HX := Lib.hid hX
  clear hX3 hO3 hX
  clear hS
  go_quiet (fail)
  go_wp2
  go_quiet (fail)
  go_wp2
  exact bodyPost_ret (v := .tuple #[ratV (0) (0), .bool false, .int .i64 0]) (by simp [results, Try.results7, go_sem, c0, c1]) rfl ⟨rfl, by have hx := HX.out; exact (by repeat (first | (with_reducible exact Gx.refl _) | (with_reducible assumption) | (with_reducible refine Gx.gx ?_) | (with_reducible refine Gx.alloc ?_) | (with_reducible refine Gx.drew ?_) | (with_reducible refine Gx.drewN ?_) | (with_reducible refine Gx.setRow ?_ (by first | omega | (simp; done) | (simp <;> omega))) | (with_reducible refine Gx.setCell ?_ (by first | omega | (simp; done) | (simp <;> omega)))))⟩
set_option maxHeartbeats 4000000 in
set_option maxRecDepth 100000 in
theorem Between_hit (den : Int) (g : Nat → Sm) (n c : Nat) (A : Option Addr) (a l : Int) (L : List Nat) (I : Int) (w : World) 
    (H1 : Hid (∀ W, (∃ y, W = gx (((w.alloc (.cells #[.int .i64 den, .slice A n c] 24)).alloc (.cells #[.int .i64 a] 3)).alloc (.cells #[.int .i64 0, .int .i64 0] 31)) y) → Calls Try.prog 13 #[serV den A n c, .int .i64 a, .int .i64 l] W fun e w' => e = .returned (.int .i64 0) ∧ ∃ x, w' = gx W x))
    (H2 : Hid (∀ W, (∃ y, W = gx (((w.alloc (.cells #[.int .i64 den, .slice A n c] 24)).alloc (.cells #[.int .i64 a] 3)).alloc (.cells #[.int .i64 0, .int .i64 0] 31)) y) → Calls Try.prog 18 #[.slice A n c] W fun e w' => ∃ A' c' x, e = .returned (.slice A' L.length c') ∧ w' = gx W x ∧ Own W.heap.size w' 49 4 (.slice A' L.length c') L.length (slC g L)))
    (H3 : Hid (∀ A' c' W, (0 < L.length → ∃ b o, A' = some ⟨b, o, none⟩ ∧ SolAt W g L b o) → W.cell? ⟨w.heap.size + 1, 0, none⟩ = some (.int .i64 a) → Calls Try.prog 19 #[.slice A' L.length c', .func (.func 20) #[] #[.pointer (some ⟨w.heap.size + 1, 0, none⟩)]] W fun e w' => e = .returned (.int .i64 I) ∧ ∃ x, w' = gx W x)) (k : Nat) (hk : k < L.length) (hI : I = (k : Int)) (nn m : Int) (hX : g (L.getD k 0) = ⟨a, nn, m⟩) :
    Calls Try.prog 7 #[serV den A n c, .int .i64 a, .int .i64 l] w fun e w' => e = .returned (.tuple #[ratV nn 1, .bool true, .int .i64 0]) ∧ ∃ x, w' = gx w x := by
  obtain ⟨q, hq⟩ : ∃ q, q = L.length := ⟨_, rfl⟩
  have HQ := Lib.hid hq
  rw [← hq] at H2 H3
  clear hq
  subst hI
  go_enter Try.func7, Try.ntmps7
  go_wp2_with first
    | (go_at_call 13; refine (H1.out _ (by repeat (first | (with_reducible exact Gx.refl _) | (with_reducible assumption) | (with_reducible refine Gx.gx ?_) | (with_reducible refine Gx.alloc ?_) | (with_reducible refine Gx.drew ?_) | (with_reducible refine Gx.drewN ?_) | (with_reducible refine Gx.setRow ?_ (by first | omega | (simp; done) | (simp <;> omega))) | (with_reducible refine Gx.setCell ?_ (by first | omega | (simp; done) | (simp <;> omega)))))).mono ?_; rintro e w' ⟨rfl, x1, rfl⟩)
    | (go_at_call 18; go_loud (refine (H2.out _ (by repeat (first | (with_reducible exact Gx.refl _) | (with_reducible assumption) | (with_reducible refine Gx.gx ?_) | (with_reducible refine Gx.alloc ?_) | (with_reducible refine Gx.drew ?_) | (with_reducible refine Gx.drewN ?_) | (with_reducible refine Gx.setRow ?_ (by first | omega | (simp; done) | (simp <;> omega))) | (with_reducible refine Gx.setCell ?_ (by first | omega | (simp; done) | (simp <;> omega)))))).mono ?_; rintro e w' ⟨A2, c2, x2, rfl, hW2, hO2⟩; have hX2 : ∃ y, w' = gx (((w.alloc (.cells #[.int .i64 den, .slice A n c] 24)).alloc (.cells #[.int .i64 a] 3)).alloc (.cells #[.int .i64 0, .int .i64 0] 31)) y := (by rw [hW2]; exact (by repeat (first | (with_reducible exact Gx.refl _) | (with_reducible assumption) | (with_reducible refine Gx.gx ?_) | (with_reducible refine Gx.alloc ?_) | (with_reducible refine Gx.drew ?_) | (with_reducible refine Gx.drewN ?_) | (with_reducible refine Gx.setRow ?_ (by first | omega | (simp; done) | (simp <;> omega))) | (with_reducible refine Gx.setCell ?_ (by first | omega | (simp; done) | (simp <;> omega)))))); clear hW2; obtain ⟨z2, rfl⟩ := hX2))
    | (go_at_call 19; refine (H3.out A2 c2 _ (fun h0 => by rw [HQ.out] at hO2 h0; exact sol_cells hO2 h0) (cell_keep_gx (cell_keep_alloc (by rw [cell_of_row _ _ _ _ _ _ (At.new' (w := w.alloc (.cells #[.int .i64 den, .slice A n c] 24)) (o := (.cells #[.int .i64 a] 3)) (by simp))]; rfl)))).mono ?_; rintro e w' ⟨rfl, x3, hW3⟩; have hX3 : ∃ y, w' = gx (((w.alloc (.cells #[.int .i64 den, .slice A n c] 24)).alloc (.cells #[.int .i64 a] 3)).alloc (.cells #[.int .i64 0, .int .i64 0] 31)) y := (by rw [hW3]; exact (by repeat (first | (with_reducible exact Gx.refl _) | (with_reducible assumption) | (with_reducible refine Gx.gx ?_) | (with_reducible refine Gx.alloc ?_) | (with_reducible refine Gx.drew ?_) | (with_reducible refine Gx.drewN ?_) | (with_reducible refine Gx.setRow ?_ (by first | omega | (simp; done) | (simp <;> omega))) | (with_reducible refine Gx.setCell ?_ (by first | omega | (simp; done) | (simp <;> omega)))))); have hO3 : Own _ w' 49 4 (.slice A2 q c2) q (slC g L) := (by rw [hW3]; exact hO2.gx); clear hW3 hO2)
  have B1 : w'.cell? ⟨w.heap.size + 1, 0, none⟩ = some (.int .i64 a) := by
    obtain ⟨y, rfl⟩ := hX3
    exact cell_keep_gx (cell_keep_alloc (by rw [cell_of_row _ _ _ _ _ _ (At.new' (w := w.alloc (.cells #[.int .i64 den, .slice A n c] 24)) (o := (.cells #[.int .i64 a] 3)) (by simp))]; rfl))
  have R1 : At w' (w.heap.size + 1 + 1) (.cells #[.int .i64 0, .int .i64 0] 31 (0, 0)) := by
    obtain ⟨y, rfl⟩ := hX3
    exact At.gx (At.new' (by simp))
  have hX : ∃ y, w' = gx w y := by obtain ⟨y, rfl⟩ := hX3; exact (by repeat (first | (with_reducible exact Gx.refl _) | (with_reducible assumption) | (with_reducible refine Gx.gx ?_) | (with_reducible refine Gx.alloc ?_) | (with_reducible refine Gx.drew ?_) | (with_reducible refine Gx.drewN ?_) | (with_reducible refine Gx.setRow ?_ (by first | omega | (simp; done) | (simp <;> omega))) | (with_reducible refine Gx.setCell ?_ (by first | omega | (simp; done) | (simp <;> omega)))))
  have hS : 0 < L.length → ∃ b o, A2 = some ⟨b, o, none⟩ ∧ SolAt w' g L b o := fun h0 => by rw [HQ.out] at hO3; exact sol_cells hO3 h0
  have c0 : w'.cell? ⟨w.heap.size + 1 + 1, 0, none⟩ = some (.int .i64 0) := by rw [cell_of_row w' _ _ _ _ _ R1]; rfl
  have c1 : w'.cell? ⟨w.heap.size + 1 + 1, 1, none⟩ = some (.int .i64 0) := by rw [cell_of_row w' _ _ _ _ _ R1]; rfl
  have z0 : w'.frozen? ⟨w.heap.size + 1 + 1, 0, none⟩ = false := R1.frz
  have z1 : w'.frozen? ⟨w.heap.size + 1 + 1, 1, none⟩ = false := R1.frz
  have l1 : w.heap.size + 1 + 1 < w'.heap.size := R1.lt
  have HX := Lib.hid hX
  clear hX3 hO3 hX
  obtain ⟨b, o, rfl, HS⟩ := hS (by omega)
  obtain ⟨d1, d2, d3, d4⟩ := HS k hk
  rw [hX] at d1 d2 d3
  simp only at d1 d2 d3
  have hkz : (k : Int) < (q : Int) := by have := HQ.out; omega
  have hb0 : b < w'.heap.size := World.block_lt_of_cell? w' _ d1
  clear HS
  go_quiet (fail)
  go_wp2
  exact bodyPost_ret (v := .tuple #[ratV (nn) (1), .bool true, .int .i64 0]) (by simp [results, Try.results7, go_sem, c0, c1]) rfl ⟨rfl, by have hx := HX.out; exact (by repeat (first | (with_reducible exact Gx.refl _) | (with_reducible assumption) | (with_reducible refine Gx.gx ?_) | (with_reducible refine Gx.alloc ?_) | (with_reducible refine Gx.drew ?_) | (with_reducible refine Gx.drewN ?_) | (with_reducible refine Gx.setRow ?_ (by first | omega | (simp; done) | (simp <;> omega))) | (with_reducible refine Gx.setCell ?_ (by first | omega | (simp; done) | (simp <;> omega)))))⟩
set_option maxHeartbeats 4000000 in
set_option maxRecDepth 100000 in
theorem Between_first (den : Int) (g : Nat → Sm) (n c : Nat) (A : Option Addr) (a l : Int) (L : List Nat) (I : Int) (w : World) 
    (H1 : Hid (∀ W, (∃ y, W = gx (((w.alloc (.cells #[.int .i64 den, .slice A n c] 24)).alloc (.cells #[.int .i64 a] 3)).alloc (.cells #[.int .i64 0, .int .i64 0] 31)) y) → Calls Try.prog 13 #[serV den A n c, .int .i64 a, .int .i64 l] W fun e w' => e = .returned (.int .i64 0) ∧ ∃ x, w' = gx W x))
    (H2 : Hid (∀ W, (∃ y, W = gx (((w.alloc (.cells #[.int .i64 den, .slice A n c] 24)).alloc (.cells #[.int .i64 a] 3)).alloc (.cells #[.int .i64 0, .int .i64 0] 31)) y) → Calls Try.prog 18 #[.slice A n c] W fun e w' => ∃ A' c' x, e = .returned (.slice A' L.length c') ∧ w' = gx W x ∧ Own W.heap.size w' 49 4 (.slice A' L.length c') L.length (slC g L)))
    (H3 : Hid (∀ A' c' W, (0 < L.length → ∃ b o, A' = some ⟨b, o, none⟩ ∧ SolAt W g L b o) → W.cell? ⟨w.heap.size + 1, 0, none⟩ = some (.int .i64 a) → Calls Try.prog 19 #[.slice A' L.length c', .func (.func 20) #[] #[.pointer (some ⟨w.heap.size + 1, 0, none⟩)]] W fun e w' => e = .returned (.int .i64 I) ∧ ∃ x, w' = gx W x)) (hk : 0 < L.length) (hI : I = 0) (hne : (g (L.getD 0 0)).t ≠ a) :
    Calls Try.prog 7 #[serV den A n c, .int .i64 a, .int .i64 l] w fun e w' => e = .returned (.tuple #[ratV 0 0, .bool false, .int .i64 0]) ∧ ∃ x, w' = gx w x := by
  obtain ⟨q, hq⟩ : ∃ q, q = L.length := ⟨_, rfl⟩
  have HQ := Lib.hid hq
  rw [← hq] at H2 H3
  clear hq
  subst hI
  go_enter Try.func7, Try.ntmps7
  go_wp2_with first
    | (go_at_call 13; refine (H1.out _ (by repeat (first | (with_reducible exact Gx.refl _) | (with_reducible assumption) | (with_reducible refine Gx.gx ?_) | (with_reducible refine Gx.alloc ?_) | (with_reducible refine Gx.drew ?_) | (with_reducible refine Gx.drewN ?_) | (with_reducible refine Gx.setRow ?_ (by first | omega | (simp; done) | (simp <;> omega))) | (with_reducible refine Gx.setCell ?_ (by first | omega | (simp; done) | (simp <;> omega)))))).mono ?_; rintro e w' ⟨rfl, x1, rfl⟩)
    | (go_at_call 18; go_loud (refine (H2.out _ (by repeat (first | (with_reducible exact Gx.refl _) | (with_reducible assumption) | (with_reducible refine Gx.gx ?_) | (with_reducible refine Gx.alloc ?_) | (with_reducible refine Gx.drew ?_) | (with_reducible refine Gx.drewN ?_) | (with_reducible refine Gx.setRow ?_ (by first | omega | (simp; done) | (simp <;> omega))) | (with_reducible refine Gx.setCell ?_ (by first | omega | (simp; done) | (simp <;> omega)))))).mono ?_; rintro e w' ⟨A2, c2, x2, rfl, hW2, hO2⟩; have hX2 : ∃ y, w' = gx (((w.alloc (.cells #[.int .i64 den, .slice A n c] 24)).alloc (.cells #[.int .i64 a] 3)).alloc (.cells #[.int .i64 0, .int .i64 0] 31)) y := (by rw [hW2]; exact (by repeat (first | (with_reducible exact Gx.refl _) | (with_reducible assumption) | (with_reducible refine Gx.gx ?_) | (with_reducible refine Gx.alloc ?_) | (with_reducible refine Gx.drew ?_) | (with_reducible refine Gx.drewN ?_) | (with_reducible refine Gx.setRow ?_ (by first | omega | (simp; done) | (simp <;> omega))) | (with_reducible refine Gx.setCell ?_ (by first | omega | (simp; done) | (simp <;> omega)))))); clear hW2; obtain ⟨z2, rfl⟩ := hX2))
    | (go_at_call 19; refine (H3.out A2 c2 _ (fun h0 => by rw [HQ.out] at hO2 h0; exact sol_cells hO2 h0) (cell_keep_gx (cell_keep_alloc (by rw [cell_of_row _ _ _ _ _ _ (At.new' (w := w.alloc (.cells #[.int .i64 den, .slice A n c] 24)) (o := (.cells #[.int .i64 a] 3)) (by simp))]; rfl)))).mono ?_; rintro e w' ⟨rfl, x3, hW3⟩; have hX3 : ∃ y, w' = gx (((w.alloc (.cells #[.int .i64 den, .slice A n c] 24)).alloc (.cells #[.int .i64 a] 3)).alloc (.cells #[.int .i64 0, .int .i64 0] 31)) y := (by rw [hW3]; exact (by repeat (first | (with_reducible exact Gx.refl _) | (with_reducible assumption) | (with_reducible refine Gx.gx ?_) | (with_reducible refine Gx.alloc ?_) | (with_reducible refine Gx.drew ?_) | (with_reducible refine Gx.drewN ?_) | (with_reducible refine Gx.setRow ?_ (by first | omega | (simp; done) | (simp <;> omega))) | (with_reducible refine Gx.setCell ?_ (by first | omega | (simp; done) | (simp <;> omega)))))); have hO3 : Own _ w' 49 4 (.slice A2 q c2) q (slC g L) := (by rw [hW3]; exact hO2.gx); clear hW3 hO2)
  have B1 : w'.cell? ⟨w.heap.size + 1, 0, none⟩ = some (.int .i64 a) := by
    obtain ⟨y, rfl⟩ := hX3
    exact cell_keep_gx (cell_keep_alloc (by rw [cell_of_row _ _ _ _ _ _ (At.new' (w := w.alloc (.cells #[.int .i64 den, .slice A n c] 24)) (o := (.cells #[.int .i64 a] 3)) (by simp))]; rfl))
  have R1 : At w' (w.heap.size + 1 + 1) (.cells #[.int .i64 0, .int .i64 0] 31 (0, 0)) := by
    obtain ⟨y, rfl⟩ := hX3
    exact At.gx (At.new' (by simp))
  have hX : ∃ y, w' = gx w y := by obtain ⟨y, rfl⟩ := hX3; exact (by repeat (first | (with_reducible exact Gx.refl _) | (with_reducible assumption) | (with_reducible refine Gx.gx ?_) | (with_reducible refine Gx.alloc ?_) | (with_reducible refine Gx.drew ?_) | (with_reducible refine Gx.drewN ?_) | (with_reducible refine Gx.setRow ?_ (by first | omega | (simp; done) | (simp <;> omega))) | (with_reducible refine Gx.setCell ?_ (by first | omega | (simp; done) | (simp <;> omega)))))
  have hS : 0 < L.length → ∃ b o, A2 = some ⟨b, o, none⟩ ∧ SolAt w' g L b o := fun h0 => by rw [HQ.out] at hO3; exact sol_cells hO3 h0
  have c0 : w'.cell? ⟨w.heap.size + 1 + 1, 0, none⟩ = some (.int .i64 0) := by rw [cell_of_row w' _ _ _ _ _ R1]; rfl
  have c1 : w'.cell? ⟨w.heap.size + 1 + 1, 1, none⟩ = some (.int .i64 0) := by rw [cell_of_row w' _ _ _ _ _ R1]; rfl
  have z0 : w'.frozen? ⟨w.heap.size + 1 + 1, 0, none⟩ = false := R1.frz
  have z1 : w'.frozen? ⟨w.heap.size + 1 + 1, 1, none⟩ = false := R1.frz
  have l1 : w.heap.size + 1 + 1 < w'.heap.size := R1.lt
  have HX := Lib.hid hX
  clear hX3 hO3 hX
  obtain ⟨b, o, rfl, HS⟩ := hS (by omega)
  obtain ⟨d1, d2, d3, d4⟩ := HS 0 hk
  rw [Nat.zero_mul, Nat.add_zero] at d1
  have hkz : (0 : Int) < (q : Int) := by have := HQ.out; omega
  have hb0 : b < w'.heap.size := World.block_lt_of_cell? w' _ d1
  clear HS d2 d3 d4
  generalize (g (L.getD 0 0)).t = t at *
  have hne' : (t == a) = false := by rw [beq_eq_false_iff_ne]; exact hne
  go_quiet (fail)
  go_wp2
  go_quiet (fail)
  go_wp2
  exact bodyPost_ret (v := .tuple #[ratV (0) (0), .bool false, .int .i64 0]) (by simp [results, Try.results7, go_sem, c0, c1]) rfl ⟨rfl, by have hx := HX.out; exact (by repeat (first | (with_reducible exact Gx.refl _) | (with_reducible assumption) | (with_reducible refine Gx.gx ?_) | (with_reducible refine Gx.alloc ?_) | (with_reducible refine Gx.drew ?_) | (with_reducible refine Gx.drewN ?_) | (with_reducible refine Gx.setRow ?_ (by first | omega | (simp; done) | (simp <;> omega))) | (with_reducible refine Gx.setCell ?_ (by first | omega | (simp; done) | (simp <;> omega)))))⟩
set_option maxHeartbeats 4000000 in
set_option maxRecDepth 100000 in
theorem Between_far (den : Int) (g : Nat → Sm) (n c : Nat) (A : Option Addr) (a l : Int) (L : List Nat) (I : Int) (w : World) 
    (H1 : Hid (∀ W, (∃ y, W = gx (((w.alloc (.cells #[.int .i64 den, .slice A n c] 24)).alloc (.cells #[.int .i64 a] 3)).alloc (.cells #[.int .i64 0, .int .i64 0] 31)) y) → Calls Try.prog 13 #[serV den A n c, .int .i64 a, .int .i64 l] W fun e w' => e = .returned (.int .i64 0) ∧ ∃ x, w' = gx W x))
    (H2 : Hid (∀ W, (∃ y, W = gx (((w.alloc (.cells #[.int .i64 den, .slice A n c] 24)).alloc (.cells #[.int .i64 a] 3)).alloc (.cells #[.int .i64 0, .int .i64 0] 31)) y) → Calls Try.prog 18 #[.slice A n c] W fun e w' => ∃ A' c' x, e = .returned (.slice A' L.length c') ∧ w' = gx W x ∧ Own W.heap.size w' 49 4 (.slice A' L.length c') L.length (slC g L)))
    (H3 : Hid (∀ A' c' W, (0 < L.length → ∃ b o, A' = some ⟨b, o, none⟩ ∧ SolAt W g L b o) → W.cell? ⟨w.heap.size + 1, 0, none⟩ = some (.int .i64 a) → Calls Try.prog 19 #[.slice A' L.length c', .func (.func 20) #[] #[.pointer (some ⟨w.heap.size + 1, 0, none⟩)]] W fun e w' => e = .returned (.int .i64 I) ∧ ∃ x, w' = gx W x)) (hlen : L.length ≤ 20000) (j : Nat) (hk : j + 1 < L.length) (hI : I = (j : Int) + 1) (t nn m u vn vm : Int) (hX : g (L.getD (j + 1) 0) = ⟨t, nn, m⟩) (hY : g (L.getD j 0) = ⟨u, vn, vm⟩) (hne : t ≠ a) (ht : -1099511627776 ≤ t ∧ t ≤ 1099511627776) (hu : -1099511627776 ≤ u ∧ u ≤ 1099511627776) (hfar : l < t - u) :
    Calls Try.prog 7 #[serV den A n c, .int .i64 a, .int .i64 l] w fun e w' => e = .returned (.tuple #[ratV 0 0, .bool false, .int .i64 0]) ∧ ∃ x, w' = gx w x := by
  obtain ⟨q, hq⟩ : ∃ q, q = L.length := ⟨_, rfl⟩
  have HQ := Lib.hid hq
  rw [← hq] at H2 H3
  clear hq
  subst hI
  go_enter Try.func7, Try.ntmps7
  go_wp2_with first
    | (go_at_call 13; refine (H1.out _ (by repeat (first | (with_reducible exact Gx.refl _) | (with_reducible assumption) | (with_reducible refine Gx.gx ?_) | (with_reducible refine Gx.alloc ?_) | (with_reducible refine Gx.drew ?_) | (with_reducible refine Gx.drewN ?_) | (with_reducible refine Gx.setRow ?_ (by first | omega | (simp; done) | (simp <;> omega))) | (with_reducible refine Gx.setCell ?_ (by first | omega | (simp; done) | (simp <;> omega)))))).mono ?_; rintro e w' ⟨rfl, x1, rfl⟩)
    | (go_at_call 18; go_loud (refine (H2.out _ (by repeat (first | (with_reducible exact Gx.refl _) | (with_reducible assumption) | (with_reducible refine Gx.gx ?_) | (with_reducible refine Gx.alloc ?_) | (with_reducible refine Gx.drew ?_) | (with_reducible refine Gx.drewN ?_) | (with_reducible refine Gx.setRow ?_ (by first | omega | (simp; done) | (simp <;> omega))) | (with_reducible refine Gx.setCell ?_ (by first | omega | (simp; done) | (simp <;> omega)))))).mono ?_; rintro e w' ⟨A2, c2, x2, rfl, hW2, hO2⟩; have hX2 : ∃ y, w' = gx (((w.alloc (.cells #[.int .i64 den, .slice A n c] 24)).alloc (.cells #[.int .i64 a] 3)).alloc (.cells #[.int .i64 0, .int .i64 0] 31)) y := (by rw [hW2]; exact (by repeat (first | (with_reducible exact Gx.refl _) | (with_reducible assumption) | (with_reducible refine Gx.gx ?_) | (with_reducible refine Gx.alloc ?_) | (with_reducible refine Gx.drew ?_) | (with_reducible refine Gx.drewN ?_) | (with_reducible refine Gx.setRow ?_ (by first | omega | (simp; done) | (simp <;> omega))) | (with_reducible refine Gx.setCell ?_ (by first | omega | (simp; done) | (simp <;> omega)))))); clear hW2; obtain ⟨z2, rfl⟩ := hX2))
    | (go_at_call 19; refine (H3.out A2 c2 _ (fun h0 => by rw [HQ.out] at hO2 h0; exact sol_cells hO2 h0) (cell_keep_gx (cell_keep_alloc (by rw [cell_of_row _ _ _ _ _ _ (At.new' (w := w.alloc (.cells #[.int .i64 den, .slice A n c] 24)) (o := (.cells #[.int .i64 a] 3)) (by simp))]; rfl)))).mono ?_; rintro e w' ⟨rfl, x3, hW3⟩; have hX3 : ∃ y, w' = gx (((w.alloc (.cells #[.int .i64 den, .slice A n c] 24)).alloc (.cells #[.int .i64 a] 3)).alloc (.cells #[.int .i64 0, .int .i64 0] 31)) y := (by rw [hW3]; exact (by repeat (first | (with_reducible exact Gx.refl _) | (with_reducible assumption) | (with_reducible refine Gx.gx ?_) | (with_reducible refine Gx.alloc ?_) | (with_reducible refine Gx.drew ?_) | (with_reducible refine Gx.drewN ?_) | (with_reducible refine Gx.setRow ?_ (by first | omega | (simp; done) | (simp <;> omega))) | (with_reducible refine Gx.setCell ?_ (by first | omega | (simp; done) | (simp <;> omega)))))); have hO3 : Own _ w' 49 4 (.slice A2 q c2) q (slC g L) := (by rw [hW3]; exact hO2.gx); clear hW3 hO2)
  have B1 : w'.cell? ⟨w.heap.size + 1, 0, none⟩ = some (.int .i64 a) := by
    obtain ⟨y, rfl⟩ := hX3
    exact cell_keep_gx (cell_keep_alloc (by rw [cell_of_row _ _ _ _ _ _ (At.new' (w := w.alloc (.cells #[.int .i64 den, .slice A n c] 24)) (o := (.cells #[.int .i64 a] 3)) (by simp))]; rfl))
  have R1 : At w' (w.heap.size + 1 + 1) (.cells #[.int .i64 0, .int .i64 0] 31 (0, 0)) := by
    obtain ⟨y, rfl⟩ := hX3
    exact At.gx (At.new' (by simp))
  have hX : ∃ y, w' = gx w y := by obtain ⟨y, rfl⟩ := hX3; exact (by repeat (first | (with_reducible exact Gx.refl _) | (with_reducible assumption) | (with_reducible refine Gx.gx ?_) | (with_reducible refine Gx.alloc ?_) | (with_reducible refine Gx.drew ?_) | (with_reducible refine Gx.drewN ?_) | (with_reducible refine Gx.setRow ?_ (by first | omega | (simp; done) | (simp <;> omega))) | (with_reducible refine Gx.setCell ?_ (by first | omega | (simp; done) | (simp <;> omega)))))
  have hS : 0 < L.length → ∃ b o, A2 = some ⟨b, o, none⟩ ∧ SolAt w' g L b o := fun h0 => by rw [HQ.out] at hO3; exact sol_cells hO3 h0
  have c0 : w'.cell? ⟨w.heap.size + 1 + 1, 0, none⟩ = some (.int .i64 0) := by rw [cell_of_row w' _ _ _ _ _ R1]; rfl
  have c1 : w'.cell? ⟨w.heap.size + 1 + 1, 1, none⟩ = some (.int .i64 0) := by rw [cell_of_row w' _ _ _ _ _ R1]; rfl
  have z0 : w'.frozen? ⟨w.heap.size + 1 + 1, 0, none⟩ = false := R1.frz
  have z1 : w'.frozen? ⟨w.heap.size + 1 + 1, 1, none⟩ = false := R1.frz
  have l1 : w.heap.size + 1 + 1 < w'.heap.size := R1.lt
  have HX := Lib.hid hX
  clear hX3 hO3 hX
  obtain ⟨b, o, rfl, HS⟩ := hS (by omega)
  obtain ⟨d1, d2, d3, d4⟩ := HS (j + 1) hk
  obtain ⟨p1, p2, p3, p4⟩ := HS j (by omega)
  rw [hX] at d1 d2 d3
  rw [hY] at p1 p2 p3
  simp only at d1 d2 d3 p1 p2 p3
  have hkz : (j : Int) + 1 < (q : Int) := by have := HQ.out; omega
  have hjz : (j : Int) < (q : Int) := by omega
  have hb0 : b < w'.heap.size := World.block_lt_of_cell? w' _ d1
  have e1 : IntKind.i64.wrap ((j : Int) + 1 - 1) = (j : Int) := by have := HQ.out; rw [IntKind.wrap_i64]; omega
  have e2 : IntKind.i64.wrap (t - u) = t - u := by rw [IntKind.wrap_i64]; omega
  have hne' : (t == a) = false := by rw [beq_eq_false_iff_ne]; exact hne
  have hi0 : decide ((0 : Int) ≤ (j : Int) + 1) = true := decide_eq_true (by omega)
  have hi1 : decide ((j : Int) + 1 ≤ 0) = false := decide_eq_false (by omega)
  clear HS
  have hl : decide (l < t - u) = true := decide_eq_true hfar
  go_quiet (fail)
  go_wp2
  go_quiet (fail)
  go_wp2
  exact bodyPost_ret (v := .tuple #[ratV (0) (0), .bool false, .int .i64 0]) (by simp [results, Try.results7, go_sem, c0, c1]) rfl ⟨rfl, by have hx := HX.out; exact (by repeat (first | (with_reducible exact Gx.refl _) | (with_reducible assumption) | (with_reducible refine Gx.gx ?_) | (with_reducible refine Gx.alloc ?_) | (with_reducible refine Gx.drew ?_) | (with_reducible refine Gx.drewN ?_) | (with_reducible refine Gx.setRow ?_ (by first | omega | (simp; done) | (simp <;> omega))) | (with_reducible refine Gx.setCell ?_ (by first | omega | (simp; done) | (simp <;> omega)))))⟩
set_option maxHeartbeats 4000000 in
set_option maxRecDepth 100000 in
theorem Between_line (den : Int) (g : Nat → Sm) (n c : Nat) (A : Option Addr) (a l : Int) (L : List Nat) (I : Int) (w : World) 
    (H1 : Hid (∀ W, (∃ y, W = gx (((w.alloc (.cells #[.int .i64 den, .slice A n c] 24)).alloc (.cells #[.int .i64 a] 3)).alloc (.cells #[.int .i64 0, .int .i64 0] 31)) y) → Calls Try.prog 13 #[serV den A n c, .int .i64 a, .int .i64 l] W fun e w' => e = .returned (.int .i64 0) ∧ ∃ x, w' = gx W x))
    (H2 : Hid (∀ W, (∃ y, W = gx (((w.alloc (.cells #[.int .i64 den, .slice A n c] 24)).alloc (.cells #[.int .i64 a] 3)).alloc (.cells #[.int .i64 0, .int .i64 0] 31)) y) → Calls Try.prog 18 #[.slice A n c] W fun e w' => ∃ A' c' x, e = .returned (.slice A' L.length c') ∧ w' = gx W x ∧ Own W.heap.size w' 49 4 (.slice A' L.length c') L.length (slC g L)))
    (H3 : Hid (∀ A' c' W, (0 < L.length → ∃ b o, A' = some ⟨b, o, none⟩ ∧ SolAt W g L b o) → W.cell? ⟨w.heap.size + 1, 0, none⟩ = some (.int .i64 a) → Calls Try.prog 19 #[.slice A' L.length c', .func (.func 20) #[] #[.pointer (some ⟨w.heap.size + 1, 0, none⟩)]] W fun e w' => e = .returned (.int .i64 I) ∧ ∃ x, w' = gx W x)) (hlen : L.length ≤ 20000) (j : Nat) (hk : j + 1 < L.length) (hI : I = (j : Int) + 1) (t nn m u vn vm : Int) (hX : g (L.getD (j + 1) 0) = ⟨t, nn, m⟩) (hY : g (L.getD j 0) = ⟨u, vn, vm⟩) (hne : t ≠ a) (ht : -1099511627776 ≤ t ∧ t ≤ 1099511627776) (hu : -1099511627776 ≤ u ∧ u ≤ 1099511627776) (hnear : t - u ≤ l) (p r : Int) (H4 : Hid (∀ W, Calls Try.prog 21 #[smV u vn vm, smV t nn m, .int .i64 a] W fun e w' => e = .returned (ratV p r) ∧ ∃ x, w' = gx W x)) :
    Calls Try.prog 7 #[serV den A n c, .int .i64 a, .int .i64 l] w fun e w' => e = .returned (.tuple #[ratV p r, .bool true, .int .i64 0]) ∧ ∃ x, w' = gx w x := by
  obtain ⟨q, hq⟩ : ∃ q, q = L.length := ⟨_, rfl⟩
  have HQ := Lib.hid hq
  rw [← hq] at H2 H3
  clear hq
  subst hI
  go_enter Try.func7, Try.ntmps7
  go_wp2_with first
    | (go_at_call 13; refine (H1.out _ (by repeat (first | (with_reducible exact Gx.refl _) | (with_reducible assumption) | (with_reducible refine Gx.gx ?_) | (with_reducible refine Gx.alloc ?_) | (with_reducible refine Gx.drew ?_) | (with_reducible refine Gx.drewN ?_) | (with_reducible refine Gx.setRow ?_ (by first | omega | (simp; done) | (simp <;> omega))) | (with_reducible refine Gx.setCell ?_ (by first | omega | (simp; done) | (simp <;> omega)))))).mono ?_; rintro e w' ⟨rfl, x1, rfl⟩)
    | (go_at_call 18; go_loud (refine (H2.out _ (by repeat (first | (with_reducible exact Gx.refl _) | (with_reducible assumption) | (with_reducible refine Gx.gx ?_) | (with_reducible refine Gx.alloc ?_) | (with_reducible refine Gx.drew ?_) | (with_reducible refine Gx.drewN ?_) | (with_reducible refine Gx.setRow ?_ (by first | omega | (simp; done) | (simp <;> omega))) | (with_reducible refine Gx.setCell ?_ (by first | omega | (simp; done) | (simp <;> omega)))))).mono ?_; rintro e w' ⟨A2, c2, x2, rfl, hW2, hO2⟩; have hX2 : ∃ y, w' = gx (((w.alloc (.cells #[.int .i64 den, .slice A n c] 24)).alloc (.cells #[.int .i64 a] 3)).alloc (.cells #[.int .i64 0, .int .i64 0] 31)) y := (by rw [hW2]; exact (by repeat (first | (with_reducible exact Gx.refl _) | (with_reducible assumption) | (with_reducible refine Gx.gx ?_) | (with_reducible refine Gx.alloc ?_) | (with_reducible refine Gx.drew ?_) | (with_reducible refine Gx.drewN ?_) | (with_reducible refine Gx.setRow ?_ (by first | omega | (simp; done) | (simp <;> omega))) | (with_reducible refine Gx.setCell ?_ (by first | omega | (simp; done) | (simp <;> omega)))))); clear hW2; obtain ⟨z2, rfl⟩ := hX2))
    | (go_at_call 19; refine (H3.out A2 c2 _ (fun h0 => by rw [HQ.out] at hO2 h0; exact sol_cells hO2 h0) (cell_keep_gx (cell_keep_alloc (by rw [cell_of_row _ _ _ _ _ _ (At.new' (w := w.alloc (.cells #[.int .i64 den, .slice A n c] 24)) (o := (.cells #[.int .i64 a] 3)) (by simp))]; rfl)))).mono ?_; rintro e w' ⟨rfl, x3, hW3⟩; have hX3 : ∃ y, w' = gx (((w.alloc (.cells #[.int .i64 den, .slice A n c] 24)).alloc (.cells #[.int .i64 a] 3)).alloc (.cells #[.int .i64 0, .int .i64 0] 31)) y := (by rw [hW3]; exact (by repeat (first | (with_reducible exact Gx.refl _) | (with_reducible assumption) | (with_reducible refine Gx.gx ?_) | (with_reducible refine Gx.alloc ?_) | (with_reducible refine Gx.drew ?_) | (with_reducible refine Gx.drewN ?_) | (with_reducible refine Gx.setRow ?_ (by first | omega | (simp; done) | (simp <;> omega))) | (with_reducible refine Gx.setCell ?_ (by first | omega | (simp; done) | (simp <;> omega)))))); have hO3 : Own _ w' 49 4 (.slice A2 q c2) q (slC g L) := (by rw [hW3]; exact hO2.gx); clear hW3 hO2)
  have B1 : w'.cell? ⟨w.heap.size + 1, 0, none⟩ = some (.int .i64 a) := by
    obtain ⟨y, rfl⟩ := hX3
    exact cell_keep_gx (cell_keep_alloc (by rw [cell_of_row _ _ _ _ _ _ (At.new' (w := w.alloc (.cells #[.int .i64 den, .slice A n c] 24)) (o := (.cells #[.int .i64 a] 3)) (by simp))]; rfl))
  have R1 : At w' (w.heap.size + 1 + 1) (.cells #[.int .i64 0, .int .i64 0] 31 (0, 0)) := by
    obtain ⟨y, rfl⟩ := hX3
    exact At.gx (At.new' (by simp))
  have hX : ∃ y, w' = gx w y := by obtain ⟨y, rfl⟩ := hX3; exact (by repeat (first | (with_reducible exact Gx.refl _) | (with_reducible assumption) | (with_reducible refine Gx.gx ?_) | (with_reducible refine Gx.alloc ?_) | (with_reducible refine Gx.drew ?_) | (with_reducible refine Gx.drewN ?_) | (with_reducible refine Gx.setRow ?_ (by first | omega | (simp; done) | (simp <;> omega))) | (with_reducible refine Gx.setCell ?_ (by first | omega | (simp; done) | (simp <;> omega)))))
  have hS : 0 < L.length → ∃ b o, A2 = some ⟨b, o, none⟩ ∧ SolAt w' g L b o := fun h0 => by rw [HQ.out] at hO3; exact sol_cells hO3 h0
  have c0 : w'.cell? ⟨w.heap.size + 1 + 1, 0, none⟩ = some (.int .i64 0) := by rw [cell_of_row w' _ _ _ _ _ R1]; rfl
  have c1 : w'.cell? ⟨w.heap.size + 1 + 1, 1, none⟩ = some (.int .i64 0) := by rw [cell_of_row w' _ _ _ _ _ R1]; rfl
  have z0 : w'.frozen? ⟨w.heap.size + 1 + 1, 0, none⟩ = false := R1.frz
  have z1 : w'.frozen? ⟨w.heap.size + 1 + 1, 1, none⟩ = false := R1.frz
  have l1 : w.heap.size + 1 + 1 < w'.heap.size := R1.lt
  have HX := Lib.hid hX
  clear hX3 hO3 hX
  obtain ⟨b, o, rfl, HS⟩ := hS (by omega)
  obtain ⟨d1, d2, d3, d4⟩ := HS (j + 1) hk
  obtain ⟨p1, p2, p3, p4⟩ := HS j (by omega)
  rw [hX] at d1 d2 d3
  rw [hY] at p1 p2 p3
  simp only at d1 d2 d3 p1 p2 p3
  have hkz : (j : Int) + 1 < (q : Int) := by have := HQ.out; omega
  have hjz : (j : Int) < (q : Int) := by omega
  have hb0 : b < w'.heap.size := World.block_lt_of_cell? w' _ d1
  have e1 : IntKind.i64.wrap ((j : Int) + 1 - 1) = (j : Int) := by have := HQ.out; rw [IntKind.wrap_i64]; omega
  have e2 : IntKind.i64.wrap (t - u) = t - u := by rw [IntKind.wrap_i64]; omega
  have hne' : (t == a) = false := by rw [beq_eq_false_iff_ne]; exact hne
  have hi0 : decide ((0 : Int) ≤ (j : Int) + 1) = true := decide_eq_true (by omega)
  have hi1 : decide ((j : Int) + 1 ≤ 0) = false := decide_eq_false (by omega)
  clear HS
  have hl : decide (l < t - u) = false := decide_eq_false (by omega)
  go_quiet (fail)
  go_wp2
  go_quiet (fail)
  go_wp2
  have l0 : w.heap.size + 1 < w'.heap.size := by omega
  first | (with_reducible refine region_gx_tail 13 (by kernel_rfl) (by kernel_rfl) ?_) | (with_reducible refine region_w_tail 13 (by kernel_rfl) (by kernel_rfl) ?_)
  simp only [List.take_succ_cons, List.take_zero, List.drop_succ_cons, List.drop_zero]
  repeat (any_goals (first | (refine quiet_fr rfl _ rfl _ rfl ?_ ?_ ?_ ?_; rotate_left; (focus (rintro _ ⟨x, rfl⟩; (focus (repeat (first | (with_reducible assumption) | (with_reducible exact At.new _ _) | (with_reducible refine At.row ?_) | ((with_reducible refine At.row_other ?_ ?_); rotate_left; (focus (simp <;> omega))) | (with_reducible refine At.app ?_) | (with_reducible refine At.tick ?_) | (with_reducible refine At.gx ?_) | ((with_reducible refine At.new' ?_); focus (simp; done)) | (with_reducible refine At.alloc ?_) | (with_reducible refine At.drew ?_) | (with_reducible exact Is.new _ _ _) | (with_reducible refine Is.row ?_) | ((with_reducible refine Is.row_other ?_ ?_); rotate_left; (focus (simp <;> omega))) | (with_reducible refine Is.gx ?_) | ((with_reducible refine Is.new' ?_); focus (simp; done)) | (with_reducible refine Is.alloc ?_) | (with_reducible refine Is.drew ?_)))))); (focus (with_reducible (first | exact hl | exact hl1 | exact hl2 | exact hl3 | exact hl4 | exact zeroF_len)))) | go_big_quiet_step ((first | (go_at_call 21; exact calls_gx (H4.out _)))) | quiet_step ((first | (go_at_call 21; exact calls_gx (H4.out _))))))
  refine wpQuiet_nil ?_
  rintro _ ⟨x, rfl⟩
  go_wp2
  have k1 : (w'.setCell ⟨w.heap.size + 1 + 1, 0, none⟩ (.int .i64 p)).cell? ⟨w.heap.size + 1 + 1, 1, none⟩ = some (.int .i64 0) := (World.cell?_setCell_other _ _ _ _ (by simp)).trans c1
  have q0 : ((w'.setCell ⟨w.heap.size + 1 + 1, 0, none⟩ (.int .i64 p)).setCell ⟨w.heap.size + 1 + 1, 1, none⟩ (.int .i64 r)).cell? ⟨w.heap.size + 1 + 1, 0, none⟩ = some (.int .i64 p) := (World.cell?_setCell_other _ _ _ _ (by simp)).trans (World.cell?_setCell_same _ _ _ c0)
  have q1 : ((w'.setCell ⟨w.heap.size + 1 + 1, 0, none⟩ (.int .i64 p)).setCell ⟨w.heap.size + 1 + 1, 1, none⟩ (.int .i64 r)).cell? ⟨w.heap.size + 1 + 1, 1, none⟩ = some (.int .i64 r) := World.cell?_setCell_same _ _ _ k1
  exact bodyPost_ret (v := .tuple #[ratV (p) (r), .bool true, .int .i64 0]) (by simp [results, Try.results7, go_sem, cell_keep_gx q0, cell_keep_gx q1]) rfl ⟨rfl, by have hx := HX.out; exact (by repeat (first | (with_reducible exact Gx.refl _) | (with_reducible assumption) | (with_reducible refine Gx.gx ?_) | (with_reducible refine Gx.alloc ?_) | (with_reducible refine Gx.drew ?_) | (with_reducible refine Gx.drewN ?_) | (with_reducible refine Gx.setRow ?_ (by first | omega | (simp; done) | (simp <;> omega))) | (with_reducible refine Gx.setCell ?_ (by first | omega | (simp; done) | (simp <;> omega)))))⟩
end Go.Proofs.Ytlnbadjjgbecgaa
