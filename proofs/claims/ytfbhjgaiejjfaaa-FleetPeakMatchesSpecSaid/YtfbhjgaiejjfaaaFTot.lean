/-
  The guard: a small total is right.
-/
import Derived.Test.YtfbhjgaiejjfaaaFMap
import Derived.Test.YtfbhjgaiejjfaaaFSm
import Derived.LoopN
import Derived.BigRegion
import Derived.Deep.RegionHeld3
namespace Go.Proofs.Ytfbhjgaiejjfaaa
open Go.RowKit
-- AT2
-- AT3

theorem isCount_yes (n : Int) (h : 0 ≤ n ∧ n ≤ 1000000000) (w : World) : Calls Try.prog 54 #[.int .i64 n] w fun e w' => e = .returned (.bool true) ∧ ∃ x, w' = gx w x := by
  have k1 : decide (0 ≤ n) = true := decide_eq_true h.1
  have k2 : decide (n ≤ 1000000000) = true := decide_eq_true h.2
  clear h
  go_enter Try.func54, Try.ntmps54
  go_wp2
  go_ret
  exact ⟨rfl, (by repeat (first | (with_reducible exact Gx.refl _) | (with_reducible assumption) | (with_reducible refine Gx.gx ?_) | (with_reducible refine Gx.alloc ?_) | (with_reducible refine Gx.drew ?_) | (with_reducible refine Gx.drewN ?_) | (with_reducible refine Gx.setRow ?_ (by first | omega | (simp; done) | (simp <;> omega))) | (with_reducible refine Gx.setCell ?_ (by first | omega | (simp; done) | (simp <;> omega)))))⟩
set_option maxHeartbeats 4000000 in
set_option maxRecDepth 100000 in
theorem notCount (n : Int) (h : 0 ≤ n ∧ n ≤ 1000000000) (gh : Nat) (w : World) (hv : w.cell? ⟨gh, 0, none⟩ = some (.func (.func 54) #[] #[])) :
    Calls Try.prog 65 #[.int .i64 n, .pointer (some ⟨gh, 0, none⟩)] w fun e w' => e = .returned (.bool false) ∧ ∃ x, w' = gx w x := by
  have hb : gh < w.heap.size := World.block_lt_of_cell? w _ hv
  have H := Lib.hid (fun W => isCount_yes n h W)
  clear h
  go_enter Try.func65, Try.ntmps65
  go_wp2_with (first | (go_at_call 54; refine (H.out _).mono ?_; rintro e w' ⟨rfl, x1, rfl⟩))
  go_ret
  exact ⟨rfl, (by repeat (first | (with_reducible exact Gx.refl _) | (with_reducible assumption) | (with_reducible refine Gx.gx ?_) | (with_reducible refine Gx.alloc ?_) | (with_reducible refine Gx.drew ?_) | (with_reducible refine Gx.drewN ?_) | (with_reducible refine Gx.setRow ?_ (by first | omega | (simp; done) | (simp <;> omega))) | (with_reducible refine Gx.setCell ?_ (by first | omega | (simp; done) | (simp <;> omega)))))⟩
set_option maxHeartbeats 4000000 in
set_option maxRecDepth 100000 in
theorem indexCount (n : Int) (h : 0 ≤ n ∧ n ≤ 1000000000) (g gh : Nat) (w : World) (hc : w.cell? ⟨g, 0, none⟩ = some (.int .i64 n)) (hv : w.cell? ⟨gh, 0, none⟩ = some (.func (.func 54) #[] #[])) :
    Calls Try.prog 68 #[.slice (some ⟨g, 0, none⟩) 1 1, .func (.func 65) #[] #[.pointer (some ⟨gh, 0, none⟩)]] w fun e w' => e = .returned (.int .i64 (-1)) ∧ ∃ x, w' = gx w x := by
  have hb : g < w.heap.size := World.block_lt_of_cell? w _ hc
  have H := Lib.hid (fun W (hW : ∃ x, W = gx w x) => notCount n h gh W (by obtain ⟨x, rfl⟩ := hW; exact cell_keep_gx hv))
  clear h hv
  go_enter Try.func68, Try.ntmps68
  go_wp2
  refine wp_loop_rounds 2 ?_
  rw [rounds_succ]
  go_wp2_with (first | (go_at_call 65; refine (H.out _ (by repeat (first | (with_reducible exact Gx.refl _) | (with_reducible assumption) | (with_reducible refine Gx.gx ?_) | (with_reducible refine Gx.alloc ?_) | (with_reducible refine Gx.drew ?_) | (with_reducible refine Gx.drewN ?_) | (with_reducible refine Gx.setRow ?_ (by first | omega | (simp; done) | (simp <;> omega))) | (with_reducible refine Gx.setCell ?_ (by first | omega | (simp; done) | (simp <;> omega)))))).mono ?_; rintro e w' ⟨rfl, x1, rfl⟩))
  rw [rounds_succ]
  go_wp2
  go_ret
  exact ⟨rfl, (by repeat (first | (with_reducible exact Gx.refl _) | (with_reducible assumption) | (with_reducible refine Gx.gx ?_) | (with_reducible refine Gx.alloc ?_) | (with_reducible refine Gx.drew ?_) | (with_reducible refine Gx.drewN ?_) | (with_reducible refine Gx.setRow ?_ (by first | omega | (simp; done) | (simp <;> omega))) | (with_reducible refine Gx.setCell ?_ (by first | omega | (simp; done) | (simp <;> omega)))))⟩
set_option maxHeartbeats 4000000 in
set_option maxRecDepth 100000 in
theorem containsCount (n : Int) (h : 0 ≤ n ∧ n ≤ 1000000000) (g gh : Nat) (w : World) (hc : w.cell? ⟨g, 0, none⟩ = some (.int .i64 n)) (hv : w.cell? ⟨gh, 0, none⟩ = some (.func (.func 54) #[] #[])) :
    Calls Try.prog 64 #[.slice (some ⟨g, 0, none⟩) 1 1, .func (.func 65) #[] #[.pointer (some ⟨gh, 0, none⟩)]] w fun e w' => e = .returned (.bool false) ∧ ∃ x, w' = gx w x := by
  have H := Lib.hid (indexCount n h g gh w hc hv)
  go_enter Try.func64, Try.ntmps64
  go_wp2_with (first | (go_at_call 68; refine H.out.mono ?_; rintro e w' ⟨rfl, x1, rfl⟩))
  go_ret
  exact ⟨rfl, (by repeat (first | (with_reducible exact Gx.refl _) | (with_reducible assumption) | (with_reducible refine Gx.gx ?_) | (with_reducible refine Gx.alloc ?_) | (with_reducible refine Gx.drew ?_) | (with_reducible refine Gx.drewN ?_) | (with_reducible refine Gx.setRow ?_ (by first | omega | (simp; done) | (simp <;> omega))) | (with_reducible refine Gx.setCell ?_ (by first | omega | (simp; done) | (simp <;> omega)))))⟩
set_option maxHeartbeats 4000000 in
set_option maxRecDepth 100000 in
theorem allCount (n : Int) (h : 0 ≤ n ∧ n ≤ 1000000000) (g : Nat) (w : World) (hc : w.cell? ⟨g, 0, none⟩ = some (.int .i64 n)) :
    Calls Try.prog 55 #[.slice (some ⟨g, 0, none⟩) 1 1, .func (.func 54) #[] #[]] w fun e w' => e = .returned (.bool true) ∧ ∃ x, w' = gx w x := by
  have H := Lib.hid (fun W gh (hW : ∃ x, W = gx w x) hv => containsCount n h g gh W (by obtain ⟨x, rfl⟩ := hW; exact cell_keep_gx hc) hv)
  clear h hc
  go_enter Try.func55, Try.ntmps55
  go_wp2_with (first | (go_at_call 64; refine (H.out _ _ (by repeat (first | (with_reducible exact Gx.refl _) | (with_reducible assumption) | (with_reducible refine Gx.gx ?_) | (with_reducible refine Gx.alloc ?_) | (with_reducible refine Gx.drew ?_) | (with_reducible refine Gx.drewN ?_) | (with_reducible refine Gx.setRow ?_ (by first | omega | (simp; done) | (simp <;> omega))) | (with_reducible refine Gx.setCell ?_ (by first | omega | (simp; done) | (simp <;> omega))))) (by first | assumption | exact cell_keep_gx ‹_› | go_keep | (simp [go_sem]; done))).mono ?_; rintro e w' ⟨rfl, x1, rfl⟩))
  go_ret
  exact ⟨rfl, (by repeat (first | (with_reducible exact Gx.refl _) | (with_reducible assumption) | (with_reducible refine Gx.gx ?_) | (with_reducible refine Gx.alloc ?_) | (with_reducible refine Gx.drew ?_) | (with_reducible refine Gx.drewN ?_) | (with_reducible refine Gx.setRow ?_ (by first | omega | (simp; done) | (simp <;> omega))) | (with_reducible refine Gx.setCell ?_ (by first | omega | (simp; done) | (simp <;> omega)))))⟩
set_option maxHeartbeats 4000000 in
set_option maxRecDepth 100000 in
theorem checkRow_ok (key : ByteArray) (fl ev : Int) (h1 : 0 ≤ fl ∧ fl ≤ 1000000000) (h2 : 0 ≤ ev ∧ ev ≤ 1000000000) (g : Nat) (w : World) (hc : w.cell? ⟨g, 0, none⟩ = some (.int .i64 ev)) :
    Calls Try.prog 45 #[.agg #[.string key, .bool false, .int .i64 fl, .slice (some ⟨g, 0, none⟩) 1 1]] w fun e w' => e = .returned (.int .i64 0) ∧ ∃ x, w' = gx w x := by
  have H1 := Lib.hid (fun W => isCount_yes fl h1 W)
  have H2 := Lib.hid (fun W (hW : ∃ x, W = gx w x) => allCount ev h2 g W (by obtain ⟨x, rfl⟩ := hW; exact cell_keep_gx hc))
  clear h1 h2 hc
  go_enter Try.func45, Try.ntmps45
  go_wp2_with (first | go_skip | (go_at_call 54; refine (H1.out _).mono ?_; rintro e w' ⟨rfl, x1, rfl⟩) | (go_at_call 55; refine (H2.out _ (by repeat (first | (with_reducible exact Gx.refl _) | (with_reducible assumption) | (with_reducible refine Gx.gx ?_) | (with_reducible refine Gx.alloc ?_) | (with_reducible refine Gx.drew ?_) | (with_reducible refine Gx.drewN ?_) | (with_reducible refine Gx.setRow ?_ (by first | omega | (simp; done) | (simp <;> omega))) | (with_reducible refine Gx.setCell ?_ (by first | omega | (simp; done) | (simp <;> omega)))))).mono ?_; rintro e w' ⟨rfl, x2, rfl⟩))
  go_ret
  exact ⟨rfl, (by repeat (first | (with_reducible exact Gx.refl _) | (with_reducible assumption) | (with_reducible refine Gx.gx ?_) | (with_reducible refine Gx.alloc ?_) | (with_reducible refine Gx.drew ?_) | (with_reducible refine Gx.drewN ?_) | (with_reducible refine Gx.setRow ?_ (by first | omega | (simp; done) | (simp <;> omega))) | (with_reducible refine Gx.setCell ?_ (by first | omega | (simp; done) | (simp <;> omega)))))⟩
/-- The two rows of the guard. -/
structure RwAt (w : World) (b g1 g2 : Nat) : Prop where
  a0 : w.cell? ⟨b, 0, none⟩ = some (.string ⟨#[97]⟩)
  a1 : w.cell? ⟨b, 1, none⟩ = some (.bool false)
  a2 : w.cell? ⟨b, 2, none⟩ = some (.int .i64 2)
  a3 : w.cell? ⟨b, 3, none⟩ = some (.slice (some ⟨g1, 0, none⟩) 1 1)
  b0 : w.cell? ⟨b, 4, none⟩ = some (.string ⟨#[98]⟩)
  b1 : w.cell? ⟨b, 5, none⟩ = some (.bool false)
  b2 : w.cell? ⟨b, 6, none⟩ = some (.int .i64 3)
  b3 : w.cell? ⟨b, 7, none⟩ = some (.slice (some ⟨g2, 0, none⟩) 1 1)
  c1 : w.cell? ⟨g1, 0, none⟩ = some (.int .i64 1)
  c2 : w.cell? ⟨g2, 0, none⟩ = some (.int .i64 4)
theorem RwAt.on {w W : World} {b g1 g2 : Nat} (h : RwAt w b g1 g2) (hW : ∃ x, W = Go.Proofs.Ytfbhjgaiejjfaaa.gx w x) : RwAt W b g1 g2 := by
  obtain ⟨x, rfl⟩ := hW
  exact ⟨cell_keep_gx h.a0, cell_keep_gx h.a1, cell_keep_gx h.a2, cell_keep_gx h.a3, cell_keep_gx h.b0, cell_keep_gx h.b1, cell_keep_gx h.b2, cell_keep_gx h.b3, cell_keep_gx h.c1, cell_keep_gx h.c2⟩
set_option maxHeartbeats 4000000 in
set_option maxRecDepth 100000 in
theorem CheckTable_G (b g1 g2 : Nat) (w : World) (h : RwAt w b g1 g2) :
    Calls Try.prog 27 #[.slice (some ⟨b, 0, none⟩) 2 2] w fun e w' => e = .returned (.int .i64 0) ∧ ∃ x, w' = gx w x := by
  have HH := Lib.hid (fun W (hW : ∃ x, W = gx w x) => h.on hW)
  have hmm : ∀ W : World, (Instr.makeMap 88 none).run Try.prog W = .ok (.map (some W.heap.size)) (W.alloc (.map #[] 0)) := fun W => run_makeMap _ W
  have R1 := Lib.hid (fun W (hW : ∃ x, W = gx w x) => checkRow_ok ⟨#[97]⟩ 2 1 (by omega) (by omega) g1 W (h.on hW).c1)
  have R2 := Lib.hid (fun W (hW : ∃ x, W = gx w x) => checkRow_ok ⟨#[98]⟩ 3 4 (by omega) (by omega) g2 W (h.on hW).c2)
  have hb : b < w.heap.size := World.block_lt_of_cell? w _ h.a0
  obtain ⟨a0, a1, a2, a3, b0, b1, b2, b3, -, -⟩ := h
  have K0 := KB.made w
  have G0 : ∃ x, w.alloc (.map #[] 0) = gx w x := (by repeat (first | (with_reducible exact Gx.refl _) | (with_reducible assumption) | (with_reducible refine Gx.gx ?_) | (with_reducible refine Gx.alloc ?_) | (with_reducible refine Gx.drew ?_) | (with_reducible refine Gx.drewN ?_) | (with_reducible refine Gx.setRow ?_ (by first | omega | (simp; done) | (simp <;> omega))) | (with_reducible refine Gx.setCell ?_ (by first | omega | (simp; done) | (simp <;> omega)))))
  go_enter Try.func27, Try.ntmps27
  go_wp2
  refine wp_loop_rounds 3 ?_
  rw [rounds_succ]
  go_wp2_with (first
    | go_skip
    | (at_lookup; refine look_kbr rfl _ _ rfl w.heap.size 0 (fun _ => false) rfl (KB.alloc K0) ⟨#[97]⟩ rfl (by decide) false rfl ?_)
    | (at_mapUpdate; refine put_kb rfl _ _ _ rfl w.heap.size 0 (fun _ => false) rfl (KB.alloc K0) (by decide) ⟨#[97]⟩ rfl (by decide) true rfl ?_; rintro W1 hK1 hg1; have G1 : ∃ x, W1 = gx w x := gx_of_grown (w := w) (Gx.alloc G0) hg1 (fun k hk => by cases hk; omega); have A1 : At W1 (w.heap.size + 1) (.cells #[.string ⟨#[97]⟩, .bool false, .int .i64 2, .slice (some ⟨g1, 0, none⟩) 1 1] 48 (0, 0)) := At.grown (At.new' (by simp)) hg1 (by intro e; injection e with e; omega); have q0 : W1.cell? ⟨w.heap.size + 1, 0, none⟩ = some (.string ⟨#[97]⟩) := (by rw [cell_of_row _ _ _ _ _ _ A1]; rfl); have q1 : W1.cell? ⟨w.heap.size + 1, 1, none⟩ = some (.bool false) := (by rw [cell_of_row _ _ _ _ _ _ A1]; rfl); have q2 : W1.cell? ⟨w.heap.size + 1, 2, none⟩ = some (.int .i64 2) := (by rw [cell_of_row _ _ _ _ _ _ A1]; rfl); have q3 : W1.cell? ⟨w.heap.size + 1, 3, none⟩ = some (.slice (some ⟨g1, 0, none⟩) 1 1) := (by rw [cell_of_row _ _ _ _ _ _ A1]; rfl); have l1 := A1.lt; clear hg1 A1 K0 G0 a0 a1 a2 a3 b0 b1 b2 b3)
    | (go_at_call 45; refine (R1.out _ G1).mono ?_; rintro e w' ⟨rfl, x1, rfl⟩))
  obtain ⟨W2, hW2⟩ : ∃ W2, W2 = gx W1 x1 := ⟨_, rfl⟩
  rw [← hW2]
  have G2 : ∃ x, W2 = gx w x := by rw [hW2]; exact Gx.gx G1
  have K2 : KB W2 w.heap.size 1 (fun t => if t = ⟨#[97]⟩ then true else false) := by rw [hW2]; exact hK1.gx
  clear hW2 hK1 G1 q0 q1 q2 q3 l1
  obtain ⟨-, -, -, -, b0, b1, b2, b3, -, -⟩ := HH.out _ G2
  have hb2 : b < W2.heap.size := World.block_lt_of_cell? W2 _ b0
  have hw2 : w.heap.size < W2.heap.size := K2.lt
  rw [rounds_succ]
  go_wp2_with (first
    | go_skip
    | (at_lookup; refine look_kbr rfl _ _ rfl w.heap.size 1 (fun t => if t = ⟨#[97]⟩ then true else false) rfl (KB.alloc K2) ⟨#[98]⟩ rfl (by decide) false (by decide) ?_)
    | (at_mapUpdate; refine put_kb rfl _ _ _ rfl w.heap.size 1 (fun t => if t = ⟨#[97]⟩ then true else false) rfl (KB.alloc K2) (by decide) ⟨#[98]⟩ rfl (by decide) true rfl ?_; rintro W3 hK3 hg3; have G3 : ∃ x, W3 = gx w x := gx_of_grown (w := w) (Gx.alloc G2) hg3 (fun k hk => by cases hk; omega); have A3 : At W3 W2.heap.size (.cells #[.string ⟨#[98]⟩, .bool false, .int .i64 3, .slice (some ⟨g2, 0, none⟩) 1 1] 48 (0, 0)) := At.grown (At.new _ _) hg3 (by intro e; injection e with e; omega); have q0 : W3.cell? ⟨W2.heap.size, 0, none⟩ = some (.string ⟨#[98]⟩) := (by rw [cell_of_row _ _ _ _ _ _ A3]; rfl); have q1 : W3.cell? ⟨W2.heap.size, 1, none⟩ = some (.bool false) := (by rw [cell_of_row _ _ _ _ _ _ A3]; rfl); have q2 : W3.cell? ⟨W2.heap.size, 2, none⟩ = some (.int .i64 3) := (by rw [cell_of_row _ _ _ _ _ _ A3]; rfl); have q3 : W3.cell? ⟨W2.heap.size, 3, none⟩ = some (.slice (some ⟨g2, 0, none⟩) 1 1) := (by rw [cell_of_row _ _ _ _ _ _ A3]; rfl); have l3 := A3.lt; clear hg3 A3 hK3)
    | (go_at_call 45; refine (R2.out _ G3).mono ?_; rintro e w' ⟨rfl, x3, rfl⟩))
  rw [rounds_succ]
  go_wp2
  go_ret
  exact ⟨rfl, Gx.gx G3⟩
set_option maxHeartbeats 4000000 in
set_option maxRecDepth 100000 in
theorem addTo_1 (gs g : Nat) (a v : Int) (r : Int) (hr : IntKind.i64.wrap (a + v) = r) (w : World) (h1 : w.cell? ⟨gs, 0, none⟩ = some (.int .i64 a)) (h2 : w.cell? ⟨g, 0, none⟩ = some (.int .i64 v)) (hf : w.frozen? ⟨gs, 0, none⟩ = false) :
    Calls Try.prog 28 #[.slice (some ⟨gs, 0, none⟩) 1 1, .slice (some ⟨g, 0, none⟩) 1 1] w fun e w' => e = .returned (.tuple #[]) ∧ w' = w.setCell ⟨gs, 0, none⟩ (.int .i64 r) := by
  have hb1 : gs < w.heap.size := World.block_lt_of_cell? w _ h1
  have hb2 : g < w.heap.size := World.block_lt_of_cell? w _ h2
  go_enter Try.func28, Try.ntmps28
  go_wp2
  refine wp_loop_rounds 2 ?_
  rw [rounds_succ]
  go_wp2
  rw [rounds_succ]
  go_wp2
  refine bodyPost_end (v := .tuple #[]) (by simp [results, Try.results28, go_sem]) rfl ⟨rfl, rfl⟩
set_option maxHeartbeats 4000000 in
set_option maxRecDepth 100000 in
theorem Total_G (b g1 g2 : Nat) (w : World) (h : RwAt w b g1 g2) :
    Calls Try.prog 14 #[.slice (some ⟨b, 0, none⟩) 2 2] w fun e w' => ∃ gS, e = .returned (.tuple #[.agg #[.string ⟨#[]⟩, .bool false, .int .i64 5, .slice (some ⟨gS, 0, none⟩) 1 1], .int .i64 0]) ∧ (∃ x, w' = gx w x) ∧ w'.cell? ⟨gS, 0, none⟩ = some (.int .i64 5) := by
  have HC := Lib.hid (fun W (hW : ∃ x, W = gx w x) => CheckTable_G b g1 g2 W (h.on hW))
  have he0 : ∀ w : World, (binOp .eql 46 (.slice none 0 0) (.slice none 0 0)).run Try.prog w = .ok (.bool true) w := fun _ => rfl
  have he1 : ∀ (a : Addr) (w : World), (binOp .eql 46 (.slice (some a) 1 1) (.slice none 0 0)).run Try.prog w = .ok (.bool false) w := fun _ _ => rfl
  have hmk : ∀ w : World, (Instr.makeSlice 46 (.int .i64 1) (.int .i64 1)).run Try.prog w = .ok (.slice (some ⟨w.heap.size, 0, none⟩) 1 1) (w.alloc (.cells #[.int .i64 0] 3)) := fun w => by kernel_rfl
  have hb : b < w.heap.size := World.block_lt_of_cell? w _ h.a0
  have hb1 : g1 < w.heap.size := World.block_lt_of_cell? w _ h.c1
  have hb2 : g2 < w.heap.size := World.block_lt_of_cell? w _ h.c2
  obtain ⟨a0, a1, a2, a3, b0, b1, b2, b3, c1, c2⟩ := h
  go_enter Try.func14, Try.ntmps14
  go_wp2_with (first | go_skip | (go_at_call 27; refine (HC.out _ (by repeat (first | (with_reducible exact Gx.refl _) | (with_reducible assumption) | (with_reducible refine Gx.gx ?_) | (with_reducible refine Gx.alloc ?_) | (with_reducible refine Gx.drew ?_) | (with_reducible refine Gx.drewN ?_) | (with_reducible refine Gx.setRow ?_ (by first | omega | (simp; done) | (simp <;> omega))) | (with_reducible refine Gx.setCell ?_ (by first | omega | (simp; done) | (simp <;> omega)))))).mono ?_; rintro e w' ⟨rfl, x1, rfl⟩))
  refine wp_loop_rounds 3 ?_
  rw [rounds_succ]
  go_wp2_with (first | go_skip | (go_at_call 28; refine (addTo_1 _ _ 0 1 1 rfl _ (by rw [cell_of_row _ _ _ _ _ _ (At.new' (by simp))]; rfl) (by repeat (first | assumption | refine cell_keep_gx ?_ | refine cell_keep_alloc ?_)) (At.frz (At.new' (by simp)))).mono ?_; rintro e w' ⟨rfl, rfl⟩))
  rw [rounds_succ]
  go_wp2_with (first | go_skip | (go_at_call 28; refine (addTo_1 _ _ 1 4 5 rfl _ (by refine cell_keep_alloc ?_; rw [cell_of_row _ _ _ _ _ _ (At.new' (by simp))]; rfl) (by repeat (first | assumption | refine cell_keep_gx ?_ | refine cell_keep_alloc ?_)) (At.frz (At.alloc (At.new' (by simp))))).mono ?_; rintro e w' ⟨rfl, rfl⟩))
  rw [rounds_succ]
  go_wp2
  refine bodyPost_ret (v := .tuple #[.agg #[.string ⟨#[]⟩, .bool false, .int .i64 5, .slice (some ⟨w.heap.size + 1 + x1.n + 1 + 1, 0, none⟩) 1 1], .int .i64 0]) (by simp [results, Try.results14, go_sem]) rfl ⟨_, rfl, (by repeat (first | (with_reducible exact Gx.refl _) | (with_reducible assumption) | (with_reducible refine Gx.gx ?_) | (with_reducible refine Gx.alloc ?_) | (with_reducible refine Gx.drew ?_) | (with_reducible refine Gx.drewN ?_) | (with_reducible refine Gx.setRow ?_ (by first | omega | (simp; done) | (simp <;> omega))) | (with_reducible refine Gx.setCell ?_ (by first | omega | (simp; done) | (simp <;> omega))))), ?_⟩
  refine cell_keep_alloc ?_
  rw [cell_of_row _ _ _ _ _ _ (At.new' (by simp))]
  rfl
set_option maxHeartbeats 4000000 in
set_option maxRecDepth 100000 in
theorem totals_any (w : World) : Calls Try.prog 6 #[] w fun e w' => e = .returned (.bool true) ∧ ∃ x, w' = gx w x := by
  go_enter Try.func6, Try.ntmps6
  go_wp2_with (first | go_skip | (go_at_call 14; refine (Total_G _ w.heap.size (w.heap.size + 1) _ ⟨(by rw [cell_of_row _ _ _ _ _ _ (At.new' (by simp))]; rfl), (by rw [cell_of_row _ _ _ _ _ _ (At.new' (by simp))]; rfl), (by rw [cell_of_row _ _ _ _ _ _ (At.new' (by simp))]; rfl), (by rw [cell_of_row _ _ _ _ _ _ (At.new' (by simp))]; rfl), (by rw [cell_of_row _ _ _ _ _ _ (At.new' (by simp))]; rfl), (by rw [cell_of_row _ _ _ _ _ _ (At.new' (by simp))]; rfl), (by rw [cell_of_row _ _ _ _ _ _ (At.new' (by simp))]; rfl), (by rw [cell_of_row _ _ _ _ _ _ (At.new' (by simp))]; rfl), (by refine cell_keep_alloc ?_; refine cell_keep_alloc ?_; rw [cell_of_row _ _ _ _ _ _ (At.new' (by simp))]; rfl), (by refine cell_keep_alloc ?_; rw [cell_of_row _ _ _ _ _ _ (At.new' (by simp))]; rfl)⟩).mono ?_; rintro e W1 ⟨gS, rfl, hG, hc⟩; have hgS := World.block_lt_of_cell? W1 _ hc; have G1 : ∃ x, W1 = gx w x := (by obtain ⟨x, hx⟩ := hG; rw [hx]; exact (by repeat (first | (with_reducible exact Gx.refl _) | (with_reducible assumption) | (with_reducible refine Gx.gx ?_) | (with_reducible refine Gx.alloc ?_) | (with_reducible refine Gx.drew ?_) | (with_reducible refine Gx.drewN ?_) | (with_reducible refine Gx.setRow ?_ (by first | omega | (simp; done) | (simp <;> omega))) | (with_reducible refine Gx.setCell ?_ (by first | omega | (simp; done) | (simp <;> omega)))))); clear hG))
  go_ret
  exact ⟨rfl, Gx.alloc G1⟩
end Go.Proofs.Ytfbhjgaiejjfaaa
