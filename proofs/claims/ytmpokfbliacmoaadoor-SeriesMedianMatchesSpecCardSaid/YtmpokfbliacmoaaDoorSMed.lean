/-
  Median, the program's: the walk where nothing is wrong.
-/
import Derived.Test.YtmpokfbliacmoaaDoorSMdSt
import Derived.Test.YtmpokfbliacmoaaDoorSSortI
namespace Go.Proofs.YtmpokfbliacmoaaDoor
open Go.RowKit
-- AT2
-- AT3

theorem make_ints (n : Nat) (hn : n ≤ 1000000) : ∃ C : Array Value, C.size = n ∧ (∀ j, j < n → C[j]? = some (.int .i64 0)) ∧ ∀ w : World, (Instr.makeSlice 36 (.int .i64 (n : Int)) (.int .i64 (n : Int))).run Tryd.prog w = .ok (.slice (some ⟨w.heap.size, 0, none⟩) n n) (w.alloc (.cells C 3)) := by
  have hE : Elem 36 3 1 8 := elem_of Tryd.underlying36 (by decide) (z := .int .i64 0) (by kernel_rfl) rfl
  obtain ⟨ht, hp, i, z, hi, hz, hsize, hby, hzs⟩ := hE
  have hz0 : z = .int .i64 0 := by
    have h1 : (Tryd.prog.info? 3).bind (·.zero) = some (Value.int .i64 0) := by kernel_rfl
    rw [hi] at h1
    have h2 : i.zero = some (Value.int .i64 0) := h1
    rw [hz] at h2
    simpa using h2
  subst hz0
  refine ⟨madeCells (Value.cells (.int .i64 0)) (n * 1), ?_, ?_, fun w => ?_⟩
  · rw [size_madeCells, Nat.mul_one]
  · intro j hj
    simp [madeCells, Value.cells, hj, Nat.mod_one]
  · have := run_make (P := Tryd.prog) w 36 3 i (.int .i64 0) ht hi hz .i64 .i64 n n (by omega) (Int.le_refl _) (by rw [hby]; omega) (by omega)
    rw [hsize, Int.toNat_natCast] at this
    exact this
theorem IntSt.alloc {w wr : World} {gM : Nat} {xs : List Int} {o : Obj} (h : IntSt w wr gM xs) : IntSt w (wr.alloc o) gM xs := by rw [alloc_is]; exact h.gx
theorem IntSt.put {w wr : World} {gM i : Nat} {xs : List Int} {a : Int} (h : IntSt w wr gM xs) (hi : i < xs.length) : IntSt w (wr.setCell ⟨gM, i, none⟩ (.int .i64 a)) gM (xs.set i a) := by
  have ne : ∀ i j : Nat, i ≠ j → (⟨gM, i, none⟩ : Addr) ≠ ⟨gM, j, none⟩ := fun i j hij e => by injection e with _ e2; exact hij e2
  refine ⟨Gx.setCell h.grew h.low, h.low, h.is.setc, fun k hk => ?_⟩
  rw [List.length_set] at hk
  rw [getD_set xs i k a hi]
  by_cases e : k = i
  · subst e; rw [if_pos rfl]; exact World.cell?_setCell_same _ _ _ (h.cells _ hk)
  · rw [if_neg e]; exact setc_other (h.cells k hk) (ne _ _ (Ne.symm e))
theorem smAt_of' {w W : World} {g : Nat → Sm} {n : Nat} {A : Option Addr} (h : SmAt w g n A) (hW : ∃ x, W = gx w x) : SmAt W g n A := by
  obtain ⟨x, rfl⟩ := hW; exact h.gx
theorem Own.ofx {b : Nat} {W W' : World} {e : TypeId} {size : Nat} {v : Value} {n : Nat} {xs : List Value} (h : Own b W e size v n xs) (hW : ∃ x, W' = Go.Proofs.YtmpokfbliacmoaaDoor.gx W x) : Own b W' e size v n xs := by
  obtain ⟨x, rfl⟩ := hW; exact h.gx
theorem solL_at_lt (g : Nat → Sm) (n : Nat) : ∀ k, k < (solL g n).length → (solL g n).getD k 0 < n := fun k hk =>
  solL_lt g n _ (by rw [List.getD, List.getElem?_eq_getElem hk]; exact List.getElem_mem hk)
theorem shows_ofx {xs : List Value} {A : Option Addr} {w W : World} (h : Shows xs A w) (hW : ∃ x, W = gx w x) : Shows xs A W := by
  obtain ⟨x, rfl⟩ := hW; exact h.gx
theorem nearL_shows {W1 wr : World} {gN : Nat} {g : Nat → Sm} {L : List Nat} {h q : Nat} (hc : ∀ j, j < L.length → W1.cell? ⟨gN, j, none⟩ = some (.int .i64 (g (L.getD j 0)).n)) (hG : ∃ x, wr = gx W1 x) (hq : q < L.length) : Shows (iC (nearL g L h q)) (some ⟨gN, nearA h q, none⟩) wr := by
  obtain ⟨x, rfl⟩ := hG
  obtain ⟨n1, n2, n3⟩ := near_some (h := h) hq
  unfold Shows
  intro _
  refine ⟨gN, nearA h q, rfl, fun j u hu => ?_⟩
  have hj : j < (nearL g L h q).length := by have := (List.getElem?_eq_some_iff.1 hu).1; rwa [iC_len] at this
  rw [iC_at hj] at hu
  have hj2 := hj
  rw [nearL_len] at hj2
  have e : (nearL g L h q).getD j 0 = (g (L.getD (nearA h q + j) 0)).n := by
    unfold nearL
    simp [List.getD, hj2]
  rw [e] at hu
  rw [← Option.some.inj hu]
  exact cell_keep_gx (hc _ (by omega))
set_option maxHeartbeats 4000000 in
set_option maxRecDepth 100000 in
theorem Median_go (den : Int) (g : Nat → Sm) (n c : Nat) (A : Option Addr) (hN : A = none → n = 0 ∧ c = 0) (h : Nat) (wd : Int) (hw : wd = 2 * (h : Int) + 1) (hh : h ≤ 50) (w : World) (hL : SmAt w g n A) (h0 : serE den g n = 0) :
    Calls Tryd.prog 4 #[serV den A n c, .int .i64 wd] w (SerPost w den (medF g (solL g n) h (solL g n).length) n 0) := by
  obtain ⟨_, hn, hG⟩ := goodS_of h0
  have HC := fun W h => Check_any den g n c A W h
  rw [h0] at HC
  have HS := Lib.hid (fun W (h : SmAt W g n A) => solids_any g n c A W h hn)
  have hle := solL_len g n
  have hlt := Lib.hid (solL_at_lt g n)
  have k1 : decide (wd < 1) = false := decide_eq_false (by omega)
  have k2 : decide (101 < wd) = false := decide_eq_false (by omega)
  have k3 : wd.tmod 2 = 1 := by subst hw; rw [Int.tmod_eq_emod_of_nonneg (by omega)]; omega
  have k4 : wd.tdiv 2 = (h : Int) := by subst hw; rw [Int.tdiv_eq_ediv_of_nonneg (by omega)]; omega
  clear h0
  have HW := Lib.hid hw
  clear hw
  generalize hgL : solL g n = L at *
  obtain ⟨C, hC, hCz, hmk⟩ := make_ints L.length (by omega)
  have HCz := Lib.hid hCz
  clear hCz
  go_enter Tryd.func4, Tryd.ntmps4
  go_wp2_with first
    | (go_at_call 9; refine (HC _ (smAt_of' hL (by repeat (first | (with_reducible exact Gx.refl _) | (with_reducible assumption) | (with_reducible refine Gx.gx ?_) | (with_reducible refine Gx.alloc ?_) | (with_reducible refine Gx.drew ?_) | (with_reducible refine Gx.drewN ?_) | (with_reducible refine Gx.setRow ?_ (by first | omega | (simp; done) | (simp <;> omega))) | (with_reducible refine Gx.setCell ?_ (by first | omega | (simp; done) | (simp <;> omega))))))).mono ?_; rintro e w' ⟨rfl, z1, rfl⟩)
    | (go_at_call 10; refine (HS.out _ (smAt_of' hL (by repeat (first | (with_reducible exact Gx.refl _) | (with_reducible assumption) | (with_reducible refine Gx.gx ?_) | (with_reducible refine Gx.alloc ?_) | (with_reducible refine Gx.drew ?_) | (with_reducible refine Gx.drewN ?_) | (with_reducible refine Gx.setRow ?_ (by first | omega | (simp; done) | (simp <;> omega))) | (with_reducible refine Gx.setCell ?_ (by first | omega | (simp; done) | (simp <;> omega))))))).mono ?_; rintro e W8 ⟨A2, c2, x2, rfl, hW8, hO⟩; have G8 : ∃ x, W8 = gx w x := (by rw [hW8]; exact (by repeat (first | (with_reducible exact Gx.refl _) | (with_reducible assumption) | (with_reducible refine Gx.gx ?_) | (with_reducible refine Gx.alloc ?_) | (with_reducible refine Gx.drew ?_) | (with_reducible refine Gx.drewN ?_) | (with_reducible refine Gx.setRow ?_ (by first | omega | (simp; done) | (simp <;> omega))) | (with_reducible refine Gx.setCell ?_ (by first | omega | (simp; done) | (simp <;> omega)))))); have S8 : At W8 w.heap.size (.cells #[.int .i64 den, .slice A n c] 24 (0, 0)) := (by rw [hW8]; (focus (repeat (first | (with_reducible assumption) | (with_reducible exact At.new _ _) | (with_reducible refine At.row ?_) | ((with_reducible refine At.row_other ?_ ?_); rotate_left; (focus (simp <;> omega))) | (with_reducible refine At.app ?_) | (with_reducible refine At.tick ?_) | (with_reducible refine At.gx ?_) | ((with_reducible refine At.new' ?_); focus (simp; done)) | (with_reducible refine At.alloc ?_) | (with_reducible refine At.drew ?_) | (with_reducible exact Is.new _ _ _) | (with_reducible refine Is.row ?_) | ((with_reducible refine Is.row_other ?_ ?_); rotate_left; (focus (simp <;> omega))) | (with_reducible refine Is.gx ?_) | ((with_reducible refine Is.new' ?_); focus (simp; done)) | (with_reducible refine Is.alloc ?_) | (with_reducible refine Is.drew ?_))))); have R8 : At W8 (w.heap.size + 1) (.cells #[.int .i64 0, .slice none 0 0] 24 (0, 0)) := (by rw [hW8]; (focus (repeat (first | (with_reducible assumption) | (with_reducible exact At.new _ _) | (with_reducible refine At.row ?_) | ((with_reducible refine At.row_other ?_ ?_); rotate_left; (focus (simp <;> omega))) | (with_reducible refine At.app ?_) | (with_reducible refine At.tick ?_) | (with_reducible refine At.gx ?_) | ((with_reducible refine At.new' ?_); focus (simp; done)) | (with_reducible refine At.alloc ?_) | (with_reducible refine At.drew ?_) | (with_reducible exact Is.new _ _ _) | (with_reducible refine Is.row ?_) | ((with_reducible refine Is.row_other ?_ ?_); rotate_left; (focus (simp <;> omega))) | (with_reducible refine Is.gx ?_) | ((with_reducible refine Is.new' ?_); focus (simp; done)) | (with_reducible refine Is.alloc ?_) | (with_reducible refine Is.drew ?_))))); have HO8 := Lib.hid (hO.base (b' := w.heap.size + 1 + 1) (by first | omega | (simp <;> omega))); clear hW8 hO)
  have hle2 : L.length ≤ 20000 := by omega
  have hIS0 : IntSt W8 (W8.alloc (.cells C 3)) W8.heap.size (List.replicate L.length 0) := by
    refine ⟨Gx.one, Nat.le_refl _, Is.new _ _ _, fun k hk => ?_⟩
    rw [List.length_replicate] at hk
    rw [cell_of_row _ _ _ _ _ _ (At.new W8 (.cells C 3 (0, 0))), HCz.out k hk]
    simp [List.getD, hk]
  have HIS0 := Lib.hid hIS0
  clear hIS0
  obtain ⟨W1, hW1⟩ : ∃ W1, W1 = W8.alloc (.cells C 3) := ⟨_, rfl⟩
  rw [← hW1] at HIS0 ⊢
  obtain ⟨gN, hgN⟩ : ∃ gN, gN = W8.heap.size := ⟨_, rfl⟩
  have l8 : w.heap.size + 1 < W8.heap.size := R8.lt
  rw [← hgN] at HIS0 ⊢
  have HgN := Lib.hid hgN
  clear hW1 hgN hmk hC HCz HC
  go_loopw [41] (fun i wr => ∃ (k : Nat) (xs : List Int), k ≤ L.length ∧ i = .int .i64 k ∧ xs.length = L.length ∧ Hid (∀ j, j < k → xs.getD j 0 = (g (L.getD j 0)).n) ∧ IntSt W8 wr gN xs) (fun i _ => L.length - (intOf i).toNat)
  case atStart => exact ⟨0, _, Nat.zero_le _, rfl, List.length_replicate, fun j hj => by omega, HIS0.out⟩
  case round =>
    obtain ⟨k, xs, hk, rfl, hxl, hxs, hst⟩ := hrel
    have HI := Lib.hid hst
    by_cases hlt' : k < L.length
    · have hkz : (k : Int) < (L.length : Int) := by omega
      obtain ⟨gS, rfl, hgS, hcs⟩ := sol_cells (HO8.out.ofx hst.grew) (by omega)
      obtain ⟨x1, x2, x3, x4⟩ := hcs k hlt'
      have fN : wr.frozen? ⟨gN, k, none⟩ = false := by obtain ⟨cs, h⟩ := hst.is; exact h.frz
      have cN := hst.cells k (by omega)
      have lN : gN < wr.heap.size := by obtain ⟨cs, h⟩ := hst.is; exact h.lt
      clear hst hcs
      generalize hX : g (L.getD k 0) = X at *
      obtain ⟨xt, xn, xm⟩ := X
      simp only at x1 x2 x3
      go_wp2
      go_roundw
      case rel =>
        refine ⟨k + 1, xs.set k xn, by omega, by go_num, by rw [List.length_set]; exact hxl, ?_, ?_⟩
        · refine Lib.hid fun j hj => ?_
          rw [getD_set xs k j xn (by omega)]
          by_cases e : j = k
          · subst e; rw [if_pos rfl, hX]
          · rw [if_neg e]; exact hxs.out j (by omega)
        · exact (HI.out.put (by omega)).alloc
      case measure => simp [intOf]; omega
    · obtain rfl : k = L.length := by omega
      clear hlt' hk
      have S1 : At wr w.heap.size (.cells #[.int .i64 den, .slice A n c] 24 (0, 0)) := by obtain ⟨x, hx⟩ := hst.grew; rw [hx]; exact S8.gx
      have R1 : At wr (w.heap.size + 1) (.cells #[.int .i64 0, .slice none 0 0] 24 (0, 0)) := by obtain ⟨x, hx⟩ := hst.grew; rw [hx]; exact R8.gx
      have G1 : ∃ x, wr = gx w x := Gx.trans hst.grew G8
      have O1 := Lib.hid (HO8.out.ofx hst.grew)
      have N1 : Hid (∀ j, j < L.length → wr.cell? ⟨gN, j, none⟩ = some (.int .i64 (g (L.getD j 0)).n)) := Lib.hid fun j hj => by
        rw [← hxs.out j hj]; exact hst.cells j (by omega)
      have l1 : w.heap.size + 1 < wr.heap.size := R1.lt
      have l0 : w.heap.size < wr.heap.size := S1.lt
      have s0 : wr.cell? ⟨w.heap.size, 0, none⟩ = some (.int .i64 den) := by rw [cell_of_row wr _ _ _ _ _ S1]; rfl
      have s1 : wr.cell? ⟨w.heap.size, 1, none⟩ = some (.slice A n c) := by rw [cell_of_row wr _ _ _ _ _ S1]; rfl
      clear hst hxs hxl HI HIS0 S8 R8 G8 HO8 HgN
      generalize wr = W1 at *
      go_wp2
      go_region_held3 (fun W => (∃ x, W = gx W1 x) ∧ W.cell? ⟨w.heap.size, 0, none⟩ = some (.int .i64 den) ∧ W.cell? ⟨w.heap.size, 1, none⟩ = some (.slice A n c))
        (refine ⟨(by repeat (first | (with_reducible exact Gx.refl _) | (with_reducible assumption) | (with_reducible refine Gx.gx ?_) | (with_reducible refine Gx.alloc ?_) | (with_reducible refine Gx.drew ?_) | (with_reducible refine Gx.drewN ?_) | (with_reducible refine Gx.setRow ?_ (by first | omega | (simp; done) | (simp <;> omega))) | (with_reducible refine Gx.setCell ?_ (by first | omega | (simp; done) | (simp <;> omega))))), ?_, ?_⟩ <;> first | assumption | exact setc_other (setc_other (by assumption) (fun e => by injection e with e1; omega)) (fun e => by injection e with e1; omega) | exact cell_keep_gx ‹_› | go_keep | (simp [go_sem]; done))
        (first
        | (go_at_call 11; refine (Clone_any _ _ _ _ _ (smAt_of' hL (Gx.trans (by repeat (first | (with_reducible exact Gx.refl _) | (with_reducible assumption) | (with_reducible refine Gx.gx ?_) | (with_reducible refine Gx.alloc ?_) | (with_reducible refine Gx.drew ?_) | (with_reducible refine Gx.drewN ?_) | (with_reducible refine Gx.setRow ?_ (by first | omega | (simp; done) | (simp <;> omega))) | (with_reducible refine Gx.setCell ?_ (by first | omega | (simp; done) | (simp <;> omega))))) G1)) hN (by omega)).mono ?_; rintro e W7 ⟨A7, c7, x7, rfl, hW7, hO⟩; have G7 : ∃ x, W7 = gx W1 x := (by rw [hW7]; exact (by repeat (first | (with_reducible exact Gx.refl _) | (with_reducible assumption) | (with_reducible refine Gx.gx ?_) | (with_reducible refine Gx.alloc ?_) | (with_reducible refine Gx.drew ?_) | (with_reducible refine Gx.drewN ?_) | (with_reducible refine Gx.setRow ?_ (by first | omega | (simp; done) | (simp <;> omega))) | (with_reducible refine Gx.setCell ?_ (by first | omega | (simp; done) | (simp <;> omega)))))); have S7 : At W7 w.heap.size (.cells #[.int .i64 den, .slice A n c] 24 (0, 0)) := (by rw [hW7]; (focus (repeat (first | (with_reducible assumption) | (with_reducible exact At.new _ _) | (with_reducible refine At.row ?_) | ((with_reducible refine At.row_other ?_ ?_); rotate_left; (focus (simp <;> omega))) | (with_reducible refine At.app ?_) | (with_reducible refine At.tick ?_) | (with_reducible refine At.gx ?_) | ((with_reducible refine At.new' ?_); focus (simp; done)) | (with_reducible refine At.alloc ?_) | (with_reducible refine At.drew ?_) | (with_reducible exact Is.new _ _ _) | (with_reducible refine Is.row ?_) | ((with_reducible refine Is.row_other ?_ ?_); rotate_left; (focus (simp <;> omega))) | (with_reducible refine Is.gx ?_) | ((with_reducible refine Is.new' ?_); focus (simp; done)) | (with_reducible refine Is.alloc ?_) | (with_reducible refine Is.drew ?_))))); have R7 : At W7 (w.heap.size + 1) (.cells #[.int .i64 0, .slice none 0 0] 24 (0, 0)) := (by rw [hW7]; (focus (repeat (first | (with_reducible assumption) | (with_reducible exact At.new _ _) | (with_reducible refine At.row ?_) | ((with_reducible refine At.row_other ?_ ?_); rotate_left; (focus (simp <;> omega))) | (with_reducible refine At.app ?_) | (with_reducible refine At.tick ?_) | (with_reducible refine At.gx ?_) | ((with_reducible refine At.new' ?_); focus (simp; done)) | (with_reducible refine At.alloc ?_) | (with_reducible refine At.drew ?_) | (with_reducible exact Is.new _ _ _) | (with_reducible refine Is.row ?_) | ((with_reducible refine Is.row_other ?_ ?_); rotate_left; (focus (simp <;> omega))) | (with_reducible refine Is.gx ?_) | ((with_reducible refine Is.new' ?_); focus (simp; done)) | (with_reducible refine Is.alloc ?_) | (with_reducible refine Is.drew ?_))))); have t0 : W7.cell? ⟨w.heap.size, 0, none⟩ = some (.int .i64 den) := (by rw [cell_of_row W7 _ _ _ _ _ S7]; rfl); have t1 : W7.cell? ⟨w.heap.size, 1, none⟩ = some (.slice A n c) := (by rw [cell_of_row W7 _ _ _ _ _ S7]; rfl); (try (have T7 : At W7 W1.heap.size (.cells #[.int .i64 0, .slice none 0 0] 24 (0, 0)) := (by rw [hW7]; refine At.gx ?_; exact At.new' (by simp)); have u0 : W7.cell? ⟨W1.heap.size, 0, none⟩ = some (.int .i64 0) := (by rw [cell_of_row W7 _ _ _ _ _ T7]; rfl); have u1 : W7.cell? ⟨W1.heap.size, 1, none⟩ = some (.slice none 0 0) := (by rw [cell_of_row W7 _ _ _ _ _ T7]; rfl); have f0 : W7.frozen? ⟨W1.heap.size, 0, none⟩ = false := T7.frz; have f1 : W7.frozen? ⟨W1.heap.size, 1, none⟩ = false := T7.frz; have hl3 : W1.heap.size < W7.heap.size := T7.lt)); have HO := Lib.hid (hO.base (b' := W1.heap.size) (by first | omega | (simp <;> omega))); clear hW7 hO))
      rotate_left
      · have HD := Lib.hid (DbSt.start2 (w := w) (Gx.trans G7 G1) S7 R7 (by omega) HO.out T7 (by omega))
        have HM : Hid (0 < n → ∃ gM, A7 = some ⟨gM, 0, none⟩ ∧ W1.heap.size ≤ gM) := Lib.hid fun hn => by obtain ⟨gM, e, hb, _⟩ := HO.out.rows' hn; exact ⟨gM, e, hb⟩
        have G8 : ∃ x, (W7.setCell ⟨W1.heap.size, 0, none⟩ (.int .i64 den)).setCell ⟨W1.heap.size, 1, none⟩ (.slice A7 n c7) = gx W1 x := Gx.setCell (Gx.setCell G7 (Nat.le_refl _)) (Nat.le_refl _)
        clear T7 u0 u1 f0 f1 hl3
        clear G7 S7 R7 HO t0 t1 s0 s1 S1 R1
        have G9 := Lib.hid G8
        clear G8
        generalize hW9 : (W7.setCell ⟨W1.heap.size, 0, none⟩ (.int .i64 den)).setCell ⟨W1.heap.size, 1, none⟩ (.slice A7 n c7) = W9 at *
        generalize W1.heap.size = gD at HD ⊢
        clear hW9
        go_wp2
        go_loopw [61] (fun i wq => ∃ k : Nat, k ≤ L.length ∧ i = .int .i64 k ∧ (∃ x, wq = gx W1 x) ∧ DbSt w wq gD den A n c (medF g L h k) A7 c7) (fun i _ => L.length - (intOf i).toNat)
        case atStart => exact ⟨0, Nat.zero_le _, rfl, G9.out, HD.out⟩
        case round =>
          obtain ⟨q, hq, rfl, hgq, H⟩ := hrel
          have HG := Lib.hid hgq
          have H' := Lib.hid H
          have d0 : wr.cell? ⟨gD, 0, none⟩ = some (.int .i64 den) := by rw [cell_of_row wr _ _ _ _ _ H.dd]; rfl
          have d1 : wr.cell? ⟨gD, 1, none⟩ = some (.slice A7 n c7) := by rw [cell_of_row wr _ _ _ _ _ H.dd]; rfl
          have lD : gD < wr.heap.size := H.dd.lt
          by_cases hlt2 : q < L.length
          · have hqz : (q : Int) < (L.length : Int) := by omega
            obtain ⟨gS, rfl, hgS, hcs⟩ := sol_cells (O1.out.ofx hgq) (by omega)
            obtain ⟨x1, x2, x3, x4⟩ := hcs q hlt2
            have hi := hlt.out q hlt2
            obtain ⟨gM, rfl, hgM, hfz, y1, y2, y3⟩ := H.cell hi
            have fz := hfz (L.getD q 0 * 3 + 1)
            obtain ⟨n1, n2, n3⟩ := near_some (h := h) hlt2
            have hnl := nearL_len g L h q
            have hsh : Hid (Shows (iC (nearL g L h q)) (some ⟨gN, nearA h q, none⟩) wr) := Lib.hid (nearL_shows (N1.out) hgq hlt2)
            obtain ⟨m1, hm1⟩ : ∃ m1, nearB L.length h q - nearA h q = m1 + 1 := ⟨nearB L.length h q - nearA h q - 1, by omega⟩
            have hS := Lib.hid (fun W cap (hW : ∃ x, W = gx wr x) => sortedI_any (nearL g L h q) ⟨gN, nearA h q, none⟩ (m1 + 1) cap (by omega) W (shows_ofx hsh.out hW) (by omega) (by omega))
            have hmid : midN g L h q = (srt (nearL g L h q)).getD (m1 / 2) 0 := by unfold midN; rw [hm1, Nat.add_sub_cancel]
            have hF := Lib.hid (medF_succ g L h q)
            have hln : m1 / 2 < (srt (nearL g L h q)).length := by rw [srt_len, hnl, hm1]; omega
            have HM2 := HM.out (by omega)
            have HM3 : Hid (W1.heap.size ≤ gM) := Lib.hid (by obtain ⟨gM', e, hb⟩ := HM2; obtain rfl : gM = gM' := (by simpa using e); exact hb)
            have iz0 : ((L.getD q 0 : Nat) : Int) < (n : Int) := by omega
            have ea : (max 0 ((q : Int) - (h : Int))).toNat = nearA h q := by unfold nearA; omega
            have eb : (min (L.length : Int) ((q : Int) + (h : Int) + 1)).toNat = nearB L.length h q := by unfold nearB; omega
            have Hea := Lib.hid ea
            have Heb := Lib.hid eb
            have Hm1 := Lib.hid hm1
            have Hmid := Lib.hid hmid
            have Hln := Lib.hid hln
            have hmb : m1 ≤ 20000 := by omega
            clear H hfz hcs hgq HM2 hnl ea eb hm1 hmid hsh hln n1 n2 n3
            generalize L.getD q 0 = sg at *
            generalize hX : g sg = X at *
            obtain ⟨xt, xn, xm⟩ := X
            simp only at x1 x2 x3
            obtain ⟨m2, hm2⟩ : ∃ m2, m1 / 2 = m2 := ⟨_, rfl⟩
            have e4 : IntKind.i64.wrap (m1 : Int) = (m1 : Int) := by rw [IntWalk.i64_in _ (by omega)]
            have e5 : ((m1 : Int)).tdiv 2 = (m2 : Int) := by rw [Int.tdiv_eq_ediv_of_nonneg (by omega)]; omega
            have e55 : IntKind.i64.wrap (m2 : Int) = (m2 : Int) := by rw [IntWalk.i64_in _ (by omega)]
            have e56 : IntKind.i64.wrap ((IntKind.i64.wrap (m1 : Int)).tdiv 2) = (m2 : Int) := by rw [e4, e5, e55]
            have e6 : (m2 : Int) < (m1 : Int) + 1 := by omega
            have e7 : (0 : Int) ≤ (m2 : Int) := by omega
            rw [hm2] at Hmid Hln
            clear hm2
            clear y1 y2 y3 fz
            go_wp2_with (go_at_call 12; go_loud (rw [Hea.out, Heb.out, Hm1.out]; refine (hS.out _ _ Gx.one).mono ?_; rintro e W2 ⟨gR, cR, rfl, hI⟩; have G2 : ∃ x, W2 = gx wr x := Gx.trans hI.grew Gx.one; have H2 := H'.out.of_gx G2; have d1' : W2.cell? ⟨gD, 1, none⟩ = some (.slice (some ⟨gM, 0, none⟩) n c7) := (by rw [cell_of_row W2 _ _ _ _ _ H2.dd]; rfl); have T2 : At W2 wr.heap.size (.cells #[.int .i64 xt, .int .i64 xn, .int .i64 xm, .int .i64 (sg : Int)] 40 (0, 0)) := (by obtain ⟨x, hx⟩ := hI.grew; rw [hx]; exact (At.new wr _).gx); have t3 : W2.cell? ⟨wr.heap.size, 3, none⟩ = some (.int .i64 (sg : Int)) := (by rw [cell_of_row W2 _ _ _ _ _ T2]; rfl); have rM : W2.cell? ⟨gR, m2, none⟩ = some (.int .i64 (midN g L h q)) := (by rw [Hmid.out]; exact hI.cells _ Hln.out); obtain ⟨gM', eM, lM2, hfz2, y1, y2, y3⟩ := H2.cell hi; obtain rfl : gM = gM' := (by simpa using eM); have fz := hfz2 (sg * 3 + 1); have HP := Lib.hid (H2.putN (v := midN g L h q) hi); have HG2 := Lib.hid (Gx.trans G2 HG.out); have lD2 : gD < W2.heap.size := H2.dd.lt; have lR2 : gR < W2.heap.size := (by obtain ⟨cs, h⟩ := hI.is; exact h.lt); have lT2 : wr.heap.size < W2.heap.size := T2.lt; clear hI H2 T2 hfz2 eM))
            go_region
            all_goals go_wp2
            all_goals go_roundw
            all_goals first
              | (simp [intOf] <;> omega)
              | exact ⟨q + 1, by omega, by first | rfl | go_num, by first | exact Gx.setCell HG2.out HM3.out | exact Gx.drew (Gx.setCell HG2.out HM3.out) | exact Gx.drewN (Gx.setCell HG2.out HM3.out) | exact Gx.setCell (Gx.drewN HG2.out) HM3.out | (trace_state; fail), by rw [hF.out]; first | exact HP.out | exact HP.out.of_gx (Gx.drew (Gx.refl _)) | exact HP.out.of_gx (Gx.drewN (Gx.refl _))⟩
          · obtain rfl : q = L.length := by omega
            have H'' := H
            have r0 : wr.cell? ⟨w.heap.size + 1, 0, none⟩ = some (.int .i64 0) := by rw [cell_of_row wr _ _ _ _ _ H.res]; rfl
            have r1 : wr.cell? ⟨w.heap.size + 1, 1, none⟩ = some (.slice none 0 0) := by rw [cell_of_row wr _ _ _ _ _ H.res]; rfl
            have f0 : wr.frozen? ⟨w.heap.size + 1, 0, none⟩ = false := H.res.frz
            have f1 : wr.frozen? ⟨w.heap.size + 1, 1, none⟩ = false := H.res.frz
            have lR : w.heap.size + 1 < wr.heap.size := H.res.lt
            clear H H''
            go_wp2
            refine bodyPost_ret (v := .tuple #[serV den A7 n c7, .int .i64 0]) (by simp [results, Tryd.results4, go_sem, r0, r1]) rfl ?_
            exact DbSt.fin H'.out
      · have HD := Lib.hid (DbSt.start1 (ob := #[.int .i64 den, .slice A7 n c7]) (w := w) (Gx.trans G7 G1) S7 R7 (by omega) HO.out rfl)
        have HM : Hid (0 < n → ∃ gM, A7 = some ⟨gM, 0, none⟩ ∧ W1.heap.size ≤ gM) := Lib.hid fun hn => by obtain ⟨gM, e, hb, _⟩ := HO.out.rows' hn; exact ⟨gM, e, hb⟩
        have G8 : ∃ x, W7.alloc (.cells #[.int .i64 den, .slice A7 n c7] 24) = gx W1 x := Gx.alloc G7
        clear G7 S7 R7 HO t0 t1 s0 s1 S1 R1
        have G9 := Lib.hid G8
        clear G8
        generalize hW9 : W7.alloc (.cells #[.int .i64 den, .slice A7 n c7] 24) = W9 at *
        generalize W7.heap.size = gD at HD ⊢
        clear hW9
        go_wp2
        go_loopw [61] (fun i wq => ∃ k : Nat, k ≤ L.length ∧ i = .int .i64 k ∧ (∃ x, wq = gx W1 x) ∧ DbSt w wq gD den A n c (medF g L h k) A7 c7) (fun i _ => L.length - (intOf i).toNat)
        case atStart => exact ⟨0, Nat.zero_le _, rfl, G9.out, HD.out⟩
        case round =>
          obtain ⟨q, hq, rfl, hgq, H⟩ := hrel
          have HG := Lib.hid hgq
          have H' := Lib.hid H
          have d0 : wr.cell? ⟨gD, 0, none⟩ = some (.int .i64 den) := by rw [cell_of_row wr _ _ _ _ _ H.dd]; rfl
          have d1 : wr.cell? ⟨gD, 1, none⟩ = some (.slice A7 n c7) := by rw [cell_of_row wr _ _ _ _ _ H.dd]; rfl
          have lD : gD < wr.heap.size := H.dd.lt
          by_cases hlt2 : q < L.length
          · have hqz : (q : Int) < (L.length : Int) := by omega
            obtain ⟨gS, rfl, hgS, hcs⟩ := sol_cells (O1.out.ofx hgq) (by omega)
            obtain ⟨x1, x2, x3, x4⟩ := hcs q hlt2
            have hi := hlt.out q hlt2
            obtain ⟨gM, rfl, hgM, hfz, y1, y2, y3⟩ := H.cell hi
            have fz := hfz (L.getD q 0 * 3 + 1)
            obtain ⟨n1, n2, n3⟩ := near_some (h := h) hlt2
            have hnl := nearL_len g L h q
            have hsh : Hid (Shows (iC (nearL g L h q)) (some ⟨gN, nearA h q, none⟩) wr) := Lib.hid (nearL_shows (N1.out) hgq hlt2)
            obtain ⟨m1, hm1⟩ : ∃ m1, nearB L.length h q - nearA h q = m1 + 1 := ⟨nearB L.length h q - nearA h q - 1, by omega⟩
            have hS := Lib.hid (fun W cap (hW : ∃ x, W = gx wr x) => sortedI_any (nearL g L h q) ⟨gN, nearA h q, none⟩ (m1 + 1) cap (by omega) W (shows_ofx hsh.out hW) (by omega) (by omega))
            have hmid : midN g L h q = (srt (nearL g L h q)).getD (m1 / 2) 0 := by unfold midN; rw [hm1, Nat.add_sub_cancel]
            have hF := Lib.hid (medF_succ g L h q)
            have hln : m1 / 2 < (srt (nearL g L h q)).length := by rw [srt_len, hnl, hm1]; omega
            have HM2 := HM.out (by omega)
            have HM3 : Hid (W1.heap.size ≤ gM) := Lib.hid (by obtain ⟨gM', e, hb⟩ := HM2; obtain rfl : gM = gM' := (by simpa using e); exact hb)
            have iz0 : ((L.getD q 0 : Nat) : Int) < (n : Int) := by omega
            have ea : (max 0 ((q : Int) - (h : Int))).toNat = nearA h q := by unfold nearA; omega
            have eb : (min (L.length : Int) ((q : Int) + (h : Int) + 1)).toNat = nearB L.length h q := by unfold nearB; omega
            have Hea := Lib.hid ea
            have Heb := Lib.hid eb
            have Hm1 := Lib.hid hm1
            have Hmid := Lib.hid hmid
            have Hln := Lib.hid hln
            have hmb : m1 ≤ 20000 := by omega
            clear H hfz hcs hgq HM2 hnl ea eb hm1 hmid hsh hln n1 n2 n3
            generalize L.getD q 0 = sg at *
            generalize hX : g sg = X at *
            obtain ⟨xt, xn, xm⟩ := X
            simp only at x1 x2 x3
            obtain ⟨m2, hm2⟩ : ∃ m2, m1 / 2 = m2 := ⟨_, rfl⟩
            have e4 : IntKind.i64.wrap (m1 : Int) = (m1 : Int) := by rw [IntWalk.i64_in _ (by omega)]
            have e5 : ((m1 : Int)).tdiv 2 = (m2 : Int) := by rw [Int.tdiv_eq_ediv_of_nonneg (by omega)]; omega
            have e55 : IntKind.i64.wrap (m2 : Int) = (m2 : Int) := by rw [IntWalk.i64_in _ (by omega)]
            have e56 : IntKind.i64.wrap ((IntKind.i64.wrap (m1 : Int)).tdiv 2) = (m2 : Int) := by rw [e4, e5, e55]
            have e6 : (m2 : Int) < (m1 : Int) + 1 := by omega
            have e7 : (0 : Int) ≤ (m2 : Int) := by omega
            rw [hm2] at Hmid Hln
            clear hm2
            clear y1 y2 y3 fz
            go_wp2_with (go_at_call 12; go_loud (rw [Hea.out, Heb.out, Hm1.out]; refine (hS.out _ _ Gx.one).mono ?_; rintro e W2 ⟨gR, cR, rfl, hI⟩; have G2 : ∃ x, W2 = gx wr x := Gx.trans hI.grew Gx.one; have H2 := H'.out.of_gx G2; have d1' : W2.cell? ⟨gD, 1, none⟩ = some (.slice (some ⟨gM, 0, none⟩) n c7) := (by rw [cell_of_row W2 _ _ _ _ _ H2.dd]; rfl); have T2 : At W2 wr.heap.size (.cells #[.int .i64 xt, .int .i64 xn, .int .i64 xm, .int .i64 (sg : Int)] 40 (0, 0)) := (by obtain ⟨x, hx⟩ := hI.grew; rw [hx]; exact (At.new wr _).gx); have t3 : W2.cell? ⟨wr.heap.size, 3, none⟩ = some (.int .i64 (sg : Int)) := (by rw [cell_of_row W2 _ _ _ _ _ T2]; rfl); have rM : W2.cell? ⟨gR, m2, none⟩ = some (.int .i64 (midN g L h q)) := (by rw [Hmid.out]; exact hI.cells _ Hln.out); obtain ⟨gM', eM, lM2, hfz2, y1, y2, y3⟩ := H2.cell hi; obtain rfl : gM = gM' := (by simpa using eM); have fz := hfz2 (sg * 3 + 1); have HP := Lib.hid (H2.putN (v := midN g L h q) hi); have HG2 := Lib.hid (Gx.trans G2 HG.out); have lD2 : gD < W2.heap.size := H2.dd.lt; have lR2 : gR < W2.heap.size := (by obtain ⟨cs, h⟩ := hI.is; exact h.lt); have lT2 : wr.heap.size < W2.heap.size := T2.lt; clear hI H2 T2 hfz2 eM))
            go_region
            all_goals go_wp2
            all_goals go_roundw
            all_goals first
              | (simp [intOf] <;> omega)
              | exact ⟨q + 1, by omega, by first | rfl | go_num, by first | exact Gx.setCell HG2.out HM3.out | exact Gx.drew (Gx.setCell HG2.out HM3.out) | exact Gx.drewN (Gx.setCell HG2.out HM3.out) | exact Gx.setCell (Gx.drewN HG2.out) HM3.out | (trace_state; fail), by rw [hF.out]; first | exact HP.out | exact HP.out.of_gx (Gx.drew (Gx.refl _)) | exact HP.out.of_gx (Gx.drewN (Gx.refl _))⟩
          · obtain rfl : q = L.length := by omega
            have H'' := H
            have r0 : wr.cell? ⟨w.heap.size + 1, 0, none⟩ = some (.int .i64 0) := by rw [cell_of_row wr _ _ _ _ _ H.res]; rfl
            have r1 : wr.cell? ⟨w.heap.size + 1, 1, none⟩ = some (.slice none 0 0) := by rw [cell_of_row wr _ _ _ _ _ H.res]; rfl
            have f0 : wr.frozen? ⟨w.heap.size + 1, 0, none⟩ = false := H.res.frz
            have f1 : wr.frozen? ⟨w.heap.size + 1, 1, none⟩ = false := H.res.frz
            have lR : w.heap.size + 1 < wr.heap.size := H.res.lt
            clear H H''
            go_wp2
            refine bodyPost_ret (v := .tuple #[serV den A7 n c7, .int .i64 0]) (by simp [results, Tryd.results4, go_sem, r0, r1]) rfl ?_
            exact DbSt.fin H'.out
end Go.Proofs.YtmpokfbliacmoaaDoor
