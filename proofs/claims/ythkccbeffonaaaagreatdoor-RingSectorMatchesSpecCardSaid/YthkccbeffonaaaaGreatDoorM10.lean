/-
  Texts that this claim leans on, merged: GSectW, GRSect, GRStat, GRHead, GRHead1, GLawS.
-/
import Derived.Laws.BytesArg
import Derived.Test.YthkccbeffonaaaaGreatDoorM5
import Derived.Test.YthkccbeffonaaaaGreatDoorM8
import Derived.Test.YthkccbeffonaaaaGreatDoorM9
import Derived.Test.YthkccbeffonaaaaGreatDoorM7

/-
  Slots of a sector of any length: the program's side.
-/
namespace Go.Proofs.YthkccbeffonaaaaGreatDoor
open Go.RowKit
-- AT2

theorem make_intsW (n : Nat) (hn : n ≤ 1450902972736) (w : World) : (Instr.makeSlice 23 (.int .i64 (n : Int)) (.int .i64 (n : Int))).run Tryz.prog w = .ok (.slice (some ⟨w.heap.size, 0, none⟩) n n) (w.alloc (.cells (ic (zerosI n)) 3)) := by
  obtain ⟨ht, hp, i, z, hi, hz, hsize, hby, hzs⟩ := el_int
  have hzz : z = .int .i64 0 := by
    have h : (Tryz.prog.info? 3).map (·.zero) = some (some (.int .i64 0)) := by kernel_rfl
    rw [hi] at h
    simp only [Option.map_some, Option.some.injEq, hz] at h
    exact h
  have := run_make (P := Tryz.prog) w 23 3 i z ht hi hz .i64 .i64 n n (by omega) (Int.le_refl _) (by rw [hby]; omega) (by omega)
  rw [this, hsize, hzz]
  simp only [Int.toNat_natCast, Value.cells, Nat.mul_one]
  have e : madeCells #[Value.int .i64 0] n = ic (zerosI n) := by
    apply Array.toList_inj.1
    rw [toList_madeCells_one]
    unfold ic zerosI
    simp
  rw [e]

set_option maxHeartbeats 400000 in
set_option maxRecDepth 100000 in
theorem countSlots_w (A : Option Addr) (n c k : Nat) (hn : n = 16 + 97 * k) (hk : 1 ≤ k) (hk' : k ≤ 1450902972736) (w : World) :
    Calls Tryz.prog 93 #[.slice A n c] w fun e w' => e = .returned (.tuple #[.int .i64 k, .int .i64 0]) ∧ w = w' := by
  obtain ⟨r, hr⟩ : ∃ r : Int, r = 97 * (k : Int) := ⟨_, rfl⟩
  have h1 : IntKind.i64.wrap ((n : Int) - 16) = r := by rw [IntWalk.i64_in _ (by omega)]; omega
  have h2 : decide (r < 97) = false := decide_eq_false (by omega)
  have h3 : IntKind.i64.wrap (r.tmod 97) = 0 := by rw [Int.tmod_eq_emod_of_nonneg (by omega), IntKind.wrap_i64]; omega
  have h4 : IntKind.i64.wrap (r.tdiv 97) = (k : Int) := by rw [Int.tdiv_eq_ediv_of_nonneg (by omega), IntKind.wrap_i64]; omega
  have h5 : r % 97 = 0 := by omega
  have h6 : r / 97 = (k : Int) := by omega
  have h7 : (n : Int) - 16 = r := by omega
  clear hr hn
  go_enter Tryz.func93, Tryz.ntmps93
  go_wp2
  go_ret2
  exact ⟨rfl, rfl⟩
set_option maxHeartbeats 400000 in
set_option maxRecDepth 100000 in
theorem slotOf_w (b o n c k i : Nat) (hn : n = 16 + 97 * k) (hnc : n ≤ c) (_hcm : c ≤ 9223372036854775807) (hk' : k ≤ 1450902972736) (hi : i < k) (w : World) :
    Calls Tryz.prog 95 #[.slice (some ⟨b, o, none⟩) n c, .int .i64 i] w fun e w' => e = .returned (.pointer (some ⟨b, o + (16 + 97 * i), none⟩)) ∧ w = w' := by
  have h1 : IntKind.i64.wrap ((i : Int) * 97) = (i : Int) * 97 := IntWalk.i64_in _ (by omega)
  have h2 : IntKind.i64.wrap (16 + (i : Int) * 97) = ((16 + 97 * i : Nat) : Int) := by rw [IntWalk.i64_in _ (by omega)]; omega
  have hs : ∀ W, (Instr.slice 39 (.slice (some ⟨b, o, none⟩) n c) (some (.int .i64 ((16 + 97 * i : Nat) : Int))) none none).run Tryz.prog W = .ok (.slice (some ⟨b, o + (16 + 97 * i), none⟩) (n - (16 + 97 * i)) (c - (16 + 97 * i))) W := fun W => slice_tail b o n c (16 + 97 * i) (by omega) (by omega) W
  have hat : ∀ W, (Instr.arrayAt 257 (.slice (some ⟨b, o + (16 + 97 * i), none⟩) (n - (16 + 97 * i)) (c - (16 + 97 * i)))).run Tryz.prog W = .ok (.pointer (some ⟨b, o + (16 + 97 * i), none⟩)) W := fun W => run_arrayAt _ _ _ _ _ _ _ Tryz.underlying257 (by omega)
  generalize hq : 16 + 97 * i = q at *
  clear hq hn
  go_enter Tryz.func95, Tryz.ntmps95
  go_wp2
  go_ret
  exact ⟨rfl, rfl⟩
set_option maxHeartbeats 600000 in
set_option maxRecDepth 100000 in
theorem States_w (S : List Int) (b o n c k : Nat) (hn : n = 16 + 97 * k) (hnc : n ≤ c) (hcm : c ≤ 9223372036854775807) (hk : 1 ≤ k) (hk' : k ≤ 1450902972736) (w : World) (hc : ∀ j, j < n → w.cell? ⟨b, o + j, none⟩ = some (.int .u8 (gw S j))) :
    Calls Tryz.prog 36 #[.slice (some ⟨b, o, none⟩) n c] w fun e w' => ∃ g x, e = .returned (.tuple #[.slice (some ⟨g, 0, none⟩) k k, .int .i64 0]) ∧ w' = gx w x ∧ w.heap.size ≤ g ∧ At (gx w x) g (.cells (ic (stTo S k k)) 3 (0, 0)) := by
  have hmk := make_intsW k (by omega)
  have E0 := Lib.hid (stTo_0 S k)
  have Hc := Lib.hid hc
  have key : ∀ g W, (∃ x, W = gx w x) → w.heap.size ≤ g → At W g (.cells (ic (stTo S k k)) 3 (0, 0)) → ∃ g' x, Ending.returned (.tuple #[.slice (some ⟨g, 0, none⟩) k k, .int .i64 0]) = .returned (.tuple #[.slice (some ⟨g', 0, none⟩) k k, .int .i64 0]) ∧ W = gx w x ∧ w.heap.size ≤ g' ∧ At (gx w x) g' (.cells (ic (stTo S k k)) 3 (0, 0)) := by
    rintro g _ ⟨x, rfl⟩ hg h
    exact ⟨g, x, rfl, rfl, hg, h⟩
  have Key := Lib.hid key
  have hN := Lib.hid hn
  clear key hc hn
  go_enter Tryz.func36, Tryz.ntmps36
  go_wp2_with (go_at_call 93; go_loud (refine (countSlots_w _ n c k hN.out hk hk' _).mono ?_; rintro e w' ⟨rfl, rfl⟩))
  go_loopw [20] (fun i wr => ∃ j : Nat, j ≤ k ∧ i = .int .i64 j ∧ ∃ y, wr = gx (w.alloc (.cells (ic (stTo S k j)) 3)) y) (fun i _ => k - (intOf i).toNat)
  case atStart => exact ⟨0, by omega, rfl, by rw [E0.out]; exact ⟨_, (gx_none _).symm⟩⟩
  case round =>
    obtain ⟨j, hj, rfl, y, rfl⟩ := hrel
    have hlk := stTo_len S k j
    by_cases hlt : j < k
    · have hs := stTo_succ S k j
      have hcs := Lib.hid (slot_cells Hc.out (16 + 97 * j) 97 (by have := hN.out; omega))
      go_wp2_with (first | (go_at_call 95; go_loud (refine (slotOf_w b o n c k j hN.out hnc hcm hk' hlt _).mono ?_; rintro e w' ⟨rfl, rfl⟩)) | (go_at_call 94; go_loud (refine (stateOf_any (S.drop (16 + 97 * j)) b (o + (16 + 97 * j)) _ ?_).mono ?_; (focus (intro i hi; exact cell_keep_gx (cell_keep_alloc (hcs.out i hi)))); rintro e w' ⟨rfl, z, rfl⟩)))
      go_roundw
      case rel => exact ⟨j + 1, by omega, by go_num, ⟨_, rfl⟩⟩
      case measure => simp [intOf]; omega
    · obtain rfl : j = k := by omega
      go_wp2
      go_ret2
      refine Key.out w.heap.size _ ?_ (Nat.le_refl _) ?_
      · exact (by repeat (first | (with_reducible exact Gx.refl _) | (with_reducible assumption) | (with_reducible refine Gx.gx ?_) | (with_reducible refine Gx.alloc ?_) | (with_reducible refine Gx.drew ?_) | (with_reducible refine Gx.drewN ?_) | (with_reducible refine Gx.setRow ?_ (by simp)) | (with_reducible refine Gx.setCell ?_ (by simp))))
      · (focus (repeat (first | (with_reducible assumption) | (with_reducible exact At.new _ _) | (with_reducible refine At.row ?_) | (with_reducible refine At.app ?_) | (with_reducible refine At.tick ?_) | (with_reducible refine At.gx ?_) | ((with_reducible refine At.new' ?_); focus (simp; done)) | (with_reducible refine At.alloc ?_) | (with_reducible refine At.drew ?_) | (with_reducible exact Is.new _ _ _) | (with_reducible refine Is.row ?_) | (with_reducible refine Is.gx ?_) | ((with_reducible refine Is.new' ?_); focus (simp; done)) | (with_reducible refine Is.alloc ?_) | (with_reducible refine Is.drew ?_))))
set_option maxHeartbeats 600000 in
set_option maxRecDepth 100000 in
theorem SlotFrame_w (S : List Int) (hS : Bs S) (b o n c k i : Nat) (hn : n = 16 + 97 * k) (hnc : n ≤ c) (hcm : c ≤ 9223372036854775807) (hk : 1 ≤ k) (hk' : k ≤ 1450902972736) (hi : i < k) (w : World) (hc : ∀ j, j < n → w.cell? ⟨b, o + j, none⟩ = some (.int .u8 (gw S j))) :
    Calls Tryz.prog 38 #[.slice (some ⟨b, o, none⟩) n c, .int .i64 i] w fun e w' => e = .returned (.tuple #[.agg (fc (rdF (S.drop (16 + 97 * i)))), .int .i64 0]) ∧ ∃ x, w' = gx w x := by
  obtain ⟨q, hq⟩ : ∃ q, q = 16 + 97 * i := ⟨_, rfl⟩
  have hl := zeroF_len
  have hl1 := rdF_len (S.drop q)
  have hbw : b < w.heap.size := World.block_lt_of_cell? w _ (hc 0 (by omega))
  have hbs : Bs (S.drop q) := fun j => by rw [gw_drop]; exact hS _
  have Hc : Hid (∀ j, j < 96 → w.cell? ⟨b, o + q + j, none⟩ = some (.int .u8 (gw (S.drop q) j))) := Lib.hid (fun j hj => by rw [gw_drop, Nat.add_assoc]; exact hc (q + j) (by omega))
  have HN := Lib.hid hn
  have HQ := Lib.hid hq
  have Hk := Lib.hid hk
  have hlt : decide ((i : Int) < 0) = false := decide_eq_false (by omega)
  have hge : decide ((k : Int) ≤ (i : Int)) = false := decide_eq_false (by omega)
  have hsl : ∀ W, (Instr.sliceAt 257 (.pointer (some ⟨b, o + q, none⟩)) none (some (.int .i64 96)) none).run Tryz.prog W = .ok (.slice (some ⟨b, o + q, none⟩) 96 97) W := fun W => by
    have ht' : Tryz.prog.underlying 257 = some (.array (Tryz.prog.arrayLen 257) (Tryz.prog.elem 257)) := by simp [Program.elem, Program.arrayLen, Tryz.underlying257]
    have he : Tryz.prog.elem 257 = 5 := by simp [Program.elem, Tryz.underlying257]
    have hn : Tryz.prog.arrayLen 257 = 97 := by simp [Program.arrayLen, Tryz.underlying257]
    rw [run_sliceAt_array_h W 257 _ ht' .i64 _ (by omega) (by rw [hn]; omega), he, sizeByte, hn]
    simp [slicedAt, Addr.add]
  rw [← hq]
  clear hc hn hq hk
  go_enter Tryz.func38, Tryz.ntmps38
  go_wp2_with (first | (go_at_call 93; go_loud (refine (countSlots_w _ n c k HN.out Hk.out hk' _).mono ?_; rintro e w' ⟨rfl, rfl⟩)) | (go_at_call 95; go_loud (refine (slotOf_w b o n c k i HN.out hnc hcm hk' hi _).mono ?_; rw [← HQ.out]; rintro e w' ⟨rfl, rfl⟩)) | (refine store_fr rfl _ _ rfl _ rfl _ rfl ?_ ?_ ?_ ?_ ?_; rotate_left; (focus (repeat (first | (with_reducible assumption) | (with_reducible exact At.new _ _) | (with_reducible refine At.row ?_) | (with_reducible refine At.app ?_) | (with_reducible refine At.tick ?_) | (with_reducible refine At.gx ?_) | ((with_reducible refine At.new' ?_); focus (simp; done)) | (with_reducible refine At.alloc ?_) | (with_reducible refine At.drew ?_) | (with_reducible exact Is.new _ _ _) | (with_reducible refine Is.row ?_) | (with_reducible refine Is.gx ?_) | ((with_reducible refine Is.new' ?_); focus (simp; done)) | (with_reducible refine Is.alloc ?_) | (with_reducible refine Is.drew ?_)))); (focus (with_reducible (first | exact hl | exact hl1 | exact hl2 | exact hl3 | exact hl4 | exact zeroF_len))); (focus (with_reducible (first | exact hl | exact hl1 | exact hl2 | exact hl3 | exact hl4 | exact zeroF_len)))) | (go_at_call 98; go_loud (refine (FromBytes_good (S.drop q) hbs b (o + q) 96 97 (by decide) (by decide) (by decide) (by decide) _ ?_).mono ?_; (focus (intro j hj; exact cell_keep_alloc (Hc.out j hj))); rintro e w' ⟨rfl, z, rfl⟩)))
  (refine ret_fr_tmp rfl _ _ _ ?_ rfl rfl ?_ ?_ ?_; rotate_left; (focus (repeat (first | (with_reducible assumption) | (with_reducible exact At.new _ _) | (with_reducible refine At.row ?_) | (with_reducible refine At.app ?_) | (with_reducible refine At.tick ?_) | (with_reducible refine At.gx ?_) | ((with_reducible refine At.new' ?_); focus (simp; done)) | (with_reducible refine At.alloc ?_) | (with_reducible refine At.drew ?_) | (with_reducible exact Is.new _ _ _) | (with_reducible refine Is.row ?_) | (with_reducible refine Is.gx ?_) | ((with_reducible refine Is.new' ?_); focus (simp; done)) | (with_reducible refine Is.alloc ?_) | (with_reducible refine Is.drew ?_)))); (focus (with_reducible (first | exact hl | exact hl1 | exact hl2 | exact hl3 | exact hl4 | exact zeroF_len))))
  exact ⟨rfl, (by repeat (first | (with_reducible exact Gx.refl _) | (with_reducible assumption) | (with_reducible refine Gx.gx ?_) | (with_reducible refine Gx.alloc ?_) | (with_reducible refine Gx.drew ?_) | (with_reducible refine Gx.drewN ?_) | (with_reducible refine Gx.setRow ?_ (by simp)) | (with_reducible refine Gx.setCell ?_ (by simp))))⟩
/-- No number of slots fits. -/
def NoSlots (n : Nat) : Prop := ∀ k : Nat, 1 ≤ k → n ≠ 16 + 97 * k
theorem noSlots {n : Nat} (h : NoSlots n) : n < 113 ∨ (113 ≤ n ∧ (n - 16) % 97 ≠ 0) := by
  rcases Nat.lt_or_ge n 113 with h1 | h1
  · exact .inl h1
  · refine .inr ⟨h1, fun e => h ((n - 16) / 97) ?_ ?_⟩ <;> omega
set_option maxHeartbeats 400000 in
set_option maxRecDepth 100000 in
theorem countSlots_bad (A : Option Addr) (n c : Nat) (hm : n ≤ 140737488355328) (h : NoSlots n) (w : World) :
    Calls Tryz.prog 93 #[.slice A n c] w fun e w' => e = .returned (.tuple #[.int .i64 0, .int .i64 3]) ∧ w = w' := by
  obtain ⟨r, hr⟩ : ∃ r : Int, r = (n : Int) - 16 := ⟨_, rfl⟩
  have h1 : IntKind.i64.wrap ((n : Int) - 16) = r := by rw [IntWalk.i64_in _ (by omega)]; omega
  have h7 : (n : Int) - 16 = r := by omega
  rcases noSlots h with h2 | ⟨h2, h3⟩
  · have d1 : decide (r < 97) = true := decide_eq_true (by omega)
    clear hr h h2
    go_enter Tryz.func93, Tryz.ntmps93
    go_wp2
    go_ret2
    exact ⟨rfl, rfl⟩
  · have d1 : decide (r < 97) = false := decide_eq_false (by omega)
    obtain ⟨q, hq⟩ : ∃ q : Int, q = r % 97 := ⟨_, rfl⟩
    have hq0 : q ≠ 0 := by omega
    have h4 : IntKind.i64.wrap (r.tmod 97) = q := by rw [Int.tmod_eq_emod_of_nonneg (by omega), IntKind.wrap_i64]; omega
    have h5 : r % 97 = q := hq.symm
    have d2 : (q != 0) = true := by simpa using hq0
    have h6 : r.tmod 97 = q := by rw [Int.tmod_eq_emod_of_nonneg (by omega)]; omega
    clear hr h h2 h3 hq
    go_enter Tryz.func93, Tryz.ntmps93
    go_wp2
    go_ret2
    exact ⟨rfl, rfl⟩
set_option maxHeartbeats 400000 in
theorem States_bad (A : Option Addr) (n c : Nat) (hm : n ≤ 140737488355328) (h : NoSlots n) (w : World) :
    Calls Tryz.prog 36 #[.slice A n c] w fun e w' => e = .returned (.tuple #[.slice none 0 0, .int .i64 3]) ∧ ∃ x, w' = gx w x := by
  have H := Lib.hid h
  clear h
  go_enter Tryz.func36, Tryz.ntmps36
  go_wp2_with (go_at_call 93; go_loud (refine (countSlots_bad _ n c hm H.out _).mono ?_; rintro e w' ⟨rfl, rfl⟩))
  go_ret2
  exact ⟨rfl, (by repeat (first | (with_reducible exact Gx.refl _) | (with_reducible assumption) | (with_reducible refine Gx.gx ?_) | (with_reducible refine Gx.alloc ?_) | (with_reducible refine Gx.drew ?_) | (with_reducible refine Gx.drewN ?_) | (with_reducible refine Gx.setRow ?_ (by simp)) | (with_reducible refine Gx.setCell ?_ (by simp))))⟩
set_option maxHeartbeats 600000 in
set_option maxRecDepth 100000 in
theorem SlotFrame_bad (A : Option Addr) (n c : Nat) (i : Int) (hm : n ≤ 140737488355328) (h : NoSlots n) (w : World) :
    Calls Tryz.prog 38 #[.slice A n c, .int .i64 i] w fun e w' => e = .returned (.tuple #[.agg (fc zeroF), .int .i64 3]) ∧ ∃ x, w' = gx w x := by
  have hl := zeroF_len
  have H := Lib.hid h
  clear h
  go_enter Tryz.func38, Tryz.ntmps38
  go_wp2_with (first | (go_at_call 93; go_loud (refine (countSlots_bad _ n c hm H.out _).mono ?_; rintro e w' ⟨rfl, rfl⟩)) | (refine store_fr rfl _ _ rfl _ rfl _ rfl ?_ ?_ ?_ ?_ ?_; rotate_left; (focus (repeat (first | (with_reducible assumption) | (with_reducible exact At.new _ _) | (with_reducible refine At.row ?_) | (with_reducible refine At.app ?_) | (with_reducible refine At.tick ?_) | (with_reducible refine At.gx ?_) | ((with_reducible refine At.new' ?_); focus (simp; done)) | (with_reducible refine At.alloc ?_) | (with_reducible refine At.drew ?_) | (with_reducible exact Is.new _ _ _) | (with_reducible refine Is.row ?_) | (with_reducible refine Is.gx ?_) | ((with_reducible refine Is.new' ?_); focus (simp; done)) | (with_reducible refine Is.alloc ?_) | (with_reducible refine Is.drew ?_)))); (focus (with_reducible (first | exact hl | exact hl1 | exact hl2 | exact hl3 | exact hl4 | exact zeroF_len))); (focus (with_reducible (first | exact hl | exact hl1 | exact hl2 | exact hl3 | exact hl4 | exact zeroF_len)))))
  (refine ret_fr_tmp rfl _ _ _ ?_ rfl rfl ?_ ?_ ?_; rotate_left; (focus (repeat (first | (with_reducible assumption) | (with_reducible exact At.new _ _) | (with_reducible refine At.row ?_) | (with_reducible refine At.app ?_) | (with_reducible refine At.tick ?_) | (with_reducible refine At.gx ?_) | ((with_reducible refine At.new' ?_); focus (simp; done)) | (with_reducible refine At.alloc ?_) | (with_reducible refine At.drew ?_) | (with_reducible exact Is.new _ _ _) | (with_reducible refine Is.row ?_) | (with_reducible refine Is.gx ?_) | ((with_reducible refine Is.new' ?_); focus (simp; done)) | (with_reducible refine Is.alloc ?_) | (with_reducible refine Is.drew ?_)))); (focus (with_reducible (first | exact hl | exact hl1 | exact hl2 | exact hl3 | exact hl4 | exact zeroF_len))))
  exact ⟨rfl, (by repeat (first | (with_reducible exact Gx.refl _) | (with_reducible assumption) | (with_reducible refine Gx.gx ?_) | (with_reducible refine Gx.alloc ?_) | (with_reducible refine Gx.drew ?_) | (with_reducible refine Gx.drewN ?_) | (with_reducible refine Gx.setRow ?_ (by simp)) | (with_reducible refine Gx.setCell ?_ (by simp))))⟩
set_option maxHeartbeats 600000 in
set_option maxRecDepth 100000 in
theorem SlotFrame_out (A : Option Addr) (n c k : Nat) (i : Int) (hn : n = 16 + 97 * k) (hk : 1 ≤ k) (hk' : k ≤ 1450902972736) (hi : i < 0 ∨ (k : Int) ≤ i) (w : World) :
    Calls Tryz.prog 38 #[.slice A n c, .int .i64 i] w fun e w' => e = .returned (.tuple #[.agg (fc zeroF), .int .i64 9]) ∧ ∃ x, w' = gx w x := by
  have hl := zeroF_len
  have HN := Lib.hid hn
  have Hk := Lib.hid hk
  clear hn hk
  rcases hi with h | h
  · have d1 : decide (i < 0) = true := decide_eq_true h
    clear h
    go_enter Tryz.func38, Tryz.ntmps38
    go_wp2_with (first | (go_at_call 93; go_loud (refine (countSlots_w _ n c k HN.out Hk.out hk' _).mono ?_; rintro e w' ⟨rfl, rfl⟩)) | (refine store_fr rfl _ _ rfl _ rfl _ rfl ?_ ?_ ?_ ?_ ?_; rotate_left; (focus (repeat (first | (with_reducible assumption) | (with_reducible exact At.new _ _) | (with_reducible refine At.row ?_) | (with_reducible refine At.app ?_) | (with_reducible refine At.tick ?_) | (with_reducible refine At.gx ?_) | ((with_reducible refine At.new' ?_); focus (simp; done)) | (with_reducible refine At.alloc ?_) | (with_reducible refine At.drew ?_) | (with_reducible exact Is.new _ _ _) | (with_reducible refine Is.row ?_) | (with_reducible refine Is.gx ?_) | ((with_reducible refine Is.new' ?_); focus (simp; done)) | (with_reducible refine Is.alloc ?_) | (with_reducible refine Is.drew ?_)))); (focus (with_reducible (first | exact hl | exact hl1 | exact hl2 | exact hl3 | exact hl4 | exact zeroF_len))); (focus (with_reducible (first | exact hl | exact hl1 | exact hl2 | exact hl3 | exact hl4 | exact zeroF_len)))))
    (refine ret_fr_tmp rfl _ _ _ ?_ rfl rfl ?_ ?_ ?_; rotate_left; (focus (repeat (first | (with_reducible assumption) | (with_reducible exact At.new _ _) | (with_reducible refine At.row ?_) | (with_reducible refine At.app ?_) | (with_reducible refine At.tick ?_) | (with_reducible refine At.gx ?_) | ((with_reducible refine At.new' ?_); focus (simp; done)) | (with_reducible refine At.alloc ?_) | (with_reducible refine At.drew ?_) | (with_reducible exact Is.new _ _ _) | (with_reducible refine Is.row ?_) | (with_reducible refine Is.gx ?_) | ((with_reducible refine Is.new' ?_); focus (simp; done)) | (with_reducible refine Is.alloc ?_) | (with_reducible refine Is.drew ?_)))); (focus (with_reducible (first | exact hl | exact hl1 | exact hl2 | exact hl3 | exact hl4 | exact zeroF_len))))
    exact ⟨rfl, (by repeat (first | (with_reducible exact Gx.refl _) | (with_reducible assumption) | (with_reducible refine Gx.gx ?_) | (with_reducible refine Gx.alloc ?_) | (with_reducible refine Gx.drew ?_) | (with_reducible refine Gx.drewN ?_) | (with_reducible refine Gx.setRow ?_ (by simp)) | (with_reducible refine Gx.setCell ?_ (by simp))))⟩
  · have d1 : decide (i < 0) = false := decide_eq_false (by omega)
    have d2 : decide ((k : Int) ≤ i) = true := decide_eq_true h
    clear h
    go_enter Tryz.func38, Tryz.ntmps38
    go_wp2_with (first | (go_at_call 93; go_loud (refine (countSlots_w _ n c k HN.out Hk.out hk' _).mono ?_; rintro e w' ⟨rfl, rfl⟩)) | (refine store_fr rfl _ _ rfl _ rfl _ rfl ?_ ?_ ?_ ?_ ?_; rotate_left; (focus (repeat (first | (with_reducible assumption) | (with_reducible exact At.new _ _) | (with_reducible refine At.row ?_) | (with_reducible refine At.app ?_) | (with_reducible refine At.tick ?_) | (with_reducible refine At.gx ?_) | ((with_reducible refine At.new' ?_); focus (simp; done)) | (with_reducible refine At.alloc ?_) | (with_reducible refine At.drew ?_) | (with_reducible exact Is.new _ _ _) | (with_reducible refine Is.row ?_) | (with_reducible refine Is.gx ?_) | ((with_reducible refine Is.new' ?_); focus (simp; done)) | (with_reducible refine Is.alloc ?_) | (with_reducible refine Is.drew ?_)))); (focus (with_reducible (first | exact hl | exact hl1 | exact hl2 | exact hl3 | exact hl4 | exact zeroF_len))); (focus (with_reducible (first | exact hl | exact hl1 | exact hl2 | exact hl3 | exact hl4 | exact zeroF_len)))))
    (refine ret_fr_tmp rfl _ _ _ ?_ rfl rfl ?_ ?_ ?_; rotate_left; (focus (repeat (first | (with_reducible assumption) | (with_reducible exact At.new _ _) | (with_reducible refine At.row ?_) | (with_reducible refine At.app ?_) | (with_reducible refine At.tick ?_) | (with_reducible refine At.gx ?_) | ((with_reducible refine At.new' ?_); focus (simp; done)) | (with_reducible refine At.alloc ?_) | (with_reducible refine At.drew ?_) | (with_reducible exact Is.new _ _ _) | (with_reducible refine Is.row ?_) | (with_reducible refine Is.gx ?_) | ((with_reducible refine Is.new' ?_); focus (simp; done)) | (with_reducible refine Is.alloc ?_) | (with_reducible refine Is.drew ?_)))); (focus (with_reducible (first | exact hl | exact hl1 | exact hl2 | exact hl3 | exact hl4 | exact zeroF_len))))
    exact ⟨rfl, (by repeat (first | (with_reducible exact Gx.refl _) | (with_reducible assumption) | (with_reducible refine Gx.gx ?_) | (with_reducible refine Gx.alloc ?_) | (with_reducible refine Gx.drew ?_) | (with_reducible refine Gx.drewN ?_) | (with_reducible refine Gx.setRow ?_ (by simp)) | (with_reducible refine Gx.setCell ?_ (by simp))))⟩
end Go.Proofs.YthkccbeffonaaaaGreatDoor

/-
  Slots of a sector: the reference's side.
-/
namespace Go.Proofs.YthkccbeffonaaaaGreatDoor
open Go.RowKit
-- AT2

set_option maxHeartbeats 400000 in
set_option maxRecDepth 100000 in
theorem slots_ok (A : Option Addr) (n c k : Nat) (hn : n = 16 + 97 * k) (hk : 1 ≤ k) (hk' : k ≤ 1450902972736) (w : World) :
    Calls Tryz.prog 96 #[.slice A n c] w fun e w' => e = .returned (.int .i64 k) ∧ w = w' := by
  obtain ⟨r, hr⟩ : ∃ r : Int, r = 97 * (k : Int) := ⟨_, rfl⟩
  have h1 : IntKind.i64.wrap ((n : Int) - 16) = r := by rw [IntWalk.i64_in _ (by omega)]; omega
  have h2 : decide (r ≤ 0) = false := decide_eq_false (by omega)
  have h3 : IntKind.i64.wrap (r.tmod 97) = 0 := by rw [Int.tmod_eq_emod_of_nonneg (by omega), IntKind.wrap_i64]; omega
  have h4 : IntKind.i64.wrap (r.tdiv 97) = (k : Int) := by rw [Int.tdiv_eq_ediv_of_nonneg (by omega), IntKind.wrap_i64]; omega
  have h5 : r % 97 = 0 := by omega
  have h6 : r / 97 = (k : Int) := by omega
  have h7 : (n : Int) - 16 = r := by omega
  have h8 : r.tmod 97 = 0 := by rw [Int.tmod_eq_emod_of_nonneg (by omega)]; omega
  have h9 : r.tdiv 97 = (k : Int) := by rw [Int.tdiv_eq_ediv_of_nonneg (by omega)]; omega
  clear hr hn
  go_enter Tryz.func96, Tryz.ntmps96
  go_wp2
  go_ret
  exact ⟨rfl, rfl⟩
set_option maxHeartbeats 400000 in
set_option maxRecDepth 100000 in
theorem slots_bad (A : Option Addr) (n c : Nat) (hm : n ≤ 140737488355328) (h : NoSlots n) (w : World) :
    Calls Tryz.prog 96 #[.slice A n c] w fun e w' => e = .returned (.int .i64 (-1)) ∧ w = w' := by
  obtain ⟨r, hr⟩ : ∃ r : Int, r = (n : Int) - 16 := ⟨_, rfl⟩
  have h1 : IntKind.i64.wrap ((n : Int) - 16) = r := by rw [IntWalk.i64_in _ (by omega)]; omega
  have h7 : (n : Int) - 16 = r := by omega
  by_cases h0 : r ≤ 0
  · have d1 : decide (r ≤ 0) = true := decide_eq_true h0
    clear hr h h0
    go_enter Tryz.func96, Tryz.ntmps96
    go_wp2
    go_ret
    exact ⟨rfl, rfl⟩
  · have d1 : decide (r ≤ 0) = false := decide_eq_false h0
    obtain ⟨q, hq⟩ : ∃ q : Int, q = r % 97 := ⟨_, rfl⟩
    have hq0 : q ≠ 0 := by
      rcases noSlots h with h2 | ⟨h2, h3⟩ <;> omega
    have h4 : IntKind.i64.wrap (r.tmod 97) = q := by rw [Int.tmod_eq_emod_of_nonneg (by omega), IntKind.wrap_i64]; omega
    have h5 : r % 97 = q := hq.symm
    have h6 : r.tmod 97 = q := by rw [Int.tmod_eq_emod_of_nonneg (by omega)]; omega
    have d2 : (q != 0) = true := by simpa using hq0
    clear hr h h0 hq
    go_enter Tryz.func96, Tryz.ntmps96
    go_wp2
    go_ret
    exact ⟨rfl, rfl⟩
set_option maxHeartbeats 400000 in
set_option maxRecDepth 100000 in
theorem slot_any (b o n c k i : Nat) (hn : n = 16 + 97 * k) (hnc : n ≤ c) (hk' : k ≤ 1450902972736) (hi : i < k) (w : World) :
    Calls Tryz.prog 100 #[.slice (some ⟨b, o, none⟩) n c, .int .i64 i] w fun e w' => e = .returned (.slice (some ⟨b, o + (16 + 97 * i), none⟩) 97 (c - (16 + 97 * i))) ∧ w = w'  := by
  obtain ⟨q, hq⟩ : ∃ q : Nat, q = 16 + 97 * i := ⟨_, rfl⟩
  obtain ⟨z1, hz1⟩ : ∃ z : Int, z = (q : Int) := ⟨_, rfl⟩
  obtain ⟨z2, hz2⟩ : ∃ z : Int, z = ((q + 97 : Nat) : Int) := ⟨_, rfl⟩
  have h1 : IntKind.i64.wrap ((i : Int) * 97) = (i : Int) * 97 := IntWalk.i64_in _ (by omega)
  have h2 : IntKind.i64.wrap (16 + (i : Int) * 97) = z1 := by rw [IntWalk.i64_in _ (by omega)]; omega
  have h3 : IntKind.i64.wrap ((i : Int) + 1) = (i : Int) + 1 := IntWalk.i64_in _ (by omega)
  have h4 : IntKind.i64.wrap (((i : Int) + 1) * 97) = ((i : Int) + 1) * 97 := IntWalk.i64_in _ (by omega)
  have h5 : IntKind.i64.wrap (16 + ((i : Int) + 1) * 97) = z2 := by rw [IntWalk.i64_in _ (by omega)]; omega
  have hs : ∀ W, (Instr.slice 39 (.slice (some ⟨b, o, none⟩) n c) (some (.int .i64 z1)) (some (.int .i64 z2)) none).run Tryz.prog W = .ok (.slice (some ⟨b, o + q, none⟩) 97 (c - q)) W := fun W => by
    have := slice_part b o n c q (q + 97) (by omega) (by omega) (by omega) W
    rw [← hz1, ← hz2, Nat.add_sub_cancel_left] at this
    exact this
  rw [← hq]
  clear hq hn hz1 hz2
  go_enter Tryz.func100, Tryz.ntmps100
  go_wp2
  go_ret
  exact ⟨rfl, rfl⟩
set_option maxHeartbeats 400000 in
set_option maxRecDepth 100000 in
theorem state_any (S : List Int) (b o n c k i : Nat) (hn : n = 16 + 97 * k) (hnc : n ≤ c) (hk' : k ≤ 1450902972736) (hi : i < k) (w : World) (hc : ∀ j, j < n → w.cell? ⟨b, o + j, none⟩ = some (.int .u8 (gw S j))) :
    Calls Tryz.prog 97 #[.slice (some ⟨b, o, none⟩) n c, .int .i64 i] w fun e w' => e = .returned (.int .i64 (stI (S.drop (16 + 97 * i)))) ∧ ∃ x, w' = gx w x := by
  have hcs := slot_cells hc (16 + 97 * i) 97 (by omega)
  have HS := Lib.hid (slot_any b o n c k i hn hnc hk' hi)
  generalize S.drop (16 + 97 * i) = D at *
  generalize c - (16 + 97 * i) = c' at *
  generalize o + (16 + 97 * i) = q at *
  have c96 := hcs 96 (by omega)
  have Hc := Lib.hid hcs
  clear hcs hc hn
  by_cases h0 : gw D 96 = 0
  · have hs := stI_written h0
    rw [h0] at c96
    rw [hs]
    clear hs h0
    go_enter Tryz.func97, Tryz.ntmps97
    go_wp2_with (go_at_call 100; go_loud (refine (HS.out _).mono ?_; rintro e w' ⟨rfl, rfl⟩))
    go_ret
    exact ⟨rfl, (by repeat (first | (with_reducible exact Gx.refl _) | (with_reducible assumption) | (with_reducible refine Gx.gx ?_) | (with_reducible refine Gx.alloc ?_) | (with_reducible refine Gx.drew ?_) | (with_reducible refine Gx.drewN ?_) | (with_reducible refine Gx.setRow ?_ (by simp)) | (with_reducible refine Gx.setCell ?_ (by simp))))⟩
  · have H0 := Lib.hid h0
    have hb0 : (gw D 96 == 0) = false := by simpa using h0
    clear h0
    generalize gw D 96 = v at c96 hb0
    go_enter Tryz.func97, Tryz.ntmps97
    go_wp2_with (go_at_call 100; go_loud (refine (HS.out _).mono ?_; rintro e w' ⟨rfl, rfl⟩))
    go_loopw [17] (fun i wr => ∃ k : Nat, k ≤ 97 ∧ i = .int .i64 k ∧ wr = w ∧ ∀ j, j < k → gw D j = 255) (fun i _ => 97 - (intOf i).toNat)
    case atStart => exact ⟨0, by omega, rfl, rfl, fun j h => absurd h (by omega)⟩
    case round =>
      obtain ⟨k, hk, rfl, rfl, hall⟩ := hrel
      have HA := Lib.hid hall
      clear hall
      by_cases hlt : k < 97
      · have ck := Hc.out k hlt
        by_cases he : gw D k = 255
        · have HE := Lib.hid he
          rw [he] at ck
          clear he
          go_wp2
          go_roundw
          case rel => exact ⟨k + 1, by omega, by go_num, by first | rfl | trivial, fun j hj => by
            rcases Nat.lt_or_ge j k with h | h
            · exact HA.out j h
            · obtain rfl : j = k := by omega
              exact HE.out⟩
          case measure => simp [intOf]; omega
        · have hbe : (gw D k == 255) = false := by simpa using he
          have hbn : (gw D k != 255) = true := by simpa using he
          have hs := Lib.hid (stI_torn H0.out hlt he)
          clear he
          generalize gw D k = u at ck hbe hbn
          go_wp2
          go_ret
          exact ⟨by rw [hs.out]; rfl, (by repeat (first | (with_reducible exact Gx.refl _) | (with_reducible assumption) | (with_reducible refine Gx.gx ?_) | (with_reducible refine Gx.alloc ?_) | (with_reducible refine Gx.drew ?_) | (with_reducible refine Gx.drewN ?_) | (with_reducible refine Gx.setRow ?_ (by simp)) | (with_reducible refine Gx.setCell ?_ (by simp))))⟩
      · obtain rfl : k = 97 := by omega
        have hs := Lib.hid (stI_free H0.out HA.out)
        go_wp2
        go_ret
        exact ⟨by rw [hs.out]; rfl, (by repeat (first | (with_reducible exact Gx.refl _) | (with_reducible assumption) | (with_reducible refine Gx.gx ?_) | (with_reducible refine Gx.alloc ?_) | (with_reducible refine Gx.drew ?_) | (with_reducible refine Gx.drewN ?_) | (with_reducible refine Gx.setRow ?_ (by simp)) | (with_reducible refine Gx.setCell ?_ (by simp))))⟩
end Go.Proofs.YthkccbeffonaaaaGreatDoor

/-
  States and SlotFrame: the reference's side.
-/
namespace Go.Proofs.YthkccbeffonaaaaGreatDoor
open Go.RowKit
-- AT2

/-- The states of the first slots. -/
def sL (S : List Int) (k : Nat) : List Int := (List.range k).map fun i => stI (S.drop (16 + 97 * i))
theorem sL_0 (S : List Int) : sL S 0 = [] := rfl
theorem sL_succ (S : List Int) (k : Nat) : sL S k ++ [stI (S.drop (16 + 97 * k))] = sL S (k + 1) := by unfold sL; rw [List.range_succ, List.map_append]; rfl
theorem sL_len (S : List Int) (k : Nat) : (sL S k).length = k := by unfold sL; simp
theorem sL_is (S : List Int) (k : Nat) : stTo S k k = sL S k := ext_gw (by rw [stTo_len, sL_len]) fun i hi => by
  rw [stTo_len] at hi
  rw [gw_stTo S k k (Nat.le_refl _) i hi]
  unfold sL gw
  simp [List.getD, hi]
attribute [irreducible] sL
set_option maxHeartbeats 600000 in
set_option maxRecDepth 100000 in
theorem RStates_ok (S : List Int) (b o n c k : Nat) (hn : n = 16 + 97 * k) (hnc : n ≤ c) (hk : 1 ≤ k) (hk' : k ≤ 1450902972736) (w : World) (hc : ∀ j, j < n → w.cell? ⟨b, o + j, none⟩ = some (.int .u8 (gw S j))) :
    Calls Tryz.prog 37 #[.slice (some ⟨b, o, none⟩) n c] w fun e w' => ∃ v x, e = .returned (.tuple #[v, .int .i64 0]) ∧ w' = gx w x ∧ Own w.heap.size (gx w x) 3 1 v k (iC (sL S k)) := by
  have key : ∀ v W, (∃ x, W = gx w x) → Own w.heap.size W 3 1 v k (iC (sL S k)) → ∃ v' x, Ending.returned (.tuple #[v, .int .i64 0]) = .returned (.tuple #[v', .int .i64 0]) ∧ W = gx w x ∧ Own w.heap.size (gx w x) 3 1 v' k (iC (sL S k)) := by
    rintro v _ ⟨x, rfl⟩ h
    exact ⟨v, x, rfl, rfl, h⟩
  have Key := Lib.hid key
  have E0 : Hid (iC (sL S 0) = []) := Lib.hid (by rw [sL_0]; rfl)
  have Hc := Lib.hid hc
  have HN := Lib.hid hn
  have Hk := Lib.hid hk
  have d1 : decide ((k : Int) < 0) = false := decide_eq_false (by omega)
  clear key hc hn hk
  go_enter Tryz.func37, Tryz.ntmps37
  go_wp2_with (go_at_call 96; go_loud (refine (slots_ok _ n c k HN.out Hk.out hk' _).mono ?_; rintro e w' ⟨rfl, rfl⟩))
  go_loopw [12, 5] (fun i v wr => ∃ j : Nat, j ≤ k ∧ i = .int .i64 j ∧ (∃ x, wr = gx w x) ∧ Own w.heap.size wr 3 1 v j (iC (sL S j))) (fun i _ _ => k - (intOf i).toNat)
  case atStart => exact ⟨0, by omega, rfl, Gx.refl _, by rw [E0.out]; exact Own.nil _ _ _ _⟩
  case round =>
    obtain ⟨j, hj, rfl, ⟨y, rfl⟩, hO⟩ := hrel
    by_cases hlt : j < k
    · have hs : Hid (iC (sL S j) ++ [.int .i64 (stI (S.drop (16 + 97 * j)))] = iC (sL S (j + 1))) := Lib.hid (by rw [← sL_succ]; unfold iC; simp)
      have HT := Lib.hid (fun W hW => state_any S b o n c k j HN.out hnc hk' hlt W hW)
      generalize stI (S.drop (16 + 97 * j)) = s at *
      go_wp2_with (first | (go_at_call 97; go_loud (refine (HT.out _ ?_).mono ?_; (focus (intro i hi; exact cell_keep_gx (Hc.out i hi))); rintro e w' ⟨rfl, z, rfl⟩)) | (at_builtin; (with_reducible apply append_new (o := ⟨some 20, _, _, _, _, _⟩) el_int w w.heap.size (v := u5) (n := j) (xs := iC (sL S j)) (m := 1) (news := [.int .i64 s])); go_loud ((exact rfl; exact rfl; exact rfl; exact rfl; (focus (exact Nat.le_refl _)); (focus (repeat (first | (with_reducible assumption) | (with_reducible exact Own.nil _ _ _ _) | (with_reducible refine Own.app ?_) | (with_reducible refine Own.tick ?_) | (with_reducible refine Own.gx ?_) | (with_reducible refine Own.alloc ?_) | (with_reducible refine Own.drew ?_) | (with_reducible refine Own.row ?_ (by omega))))); exact (by repeat (first | (with_reducible exact Gx.refl _) | (with_reducible assumption) | (with_reducible refine Gx.gx ?_) | (with_reducible refine Gx.alloc ?_) | (with_reducible refine Gx.drew ?_) | (with_reducible refine Gx.drewN ?_) | (with_reducible refine Gx.setRow ?_ (by simp)) | (with_reducible refine Gx.setCell ?_ (by simp)))); (focus (simp <;> omega)); exact rfl; (focus (repeat (first | (with_reducible assumption) | ((with_reducible apply Shows.whole); focus ((focus (repeat (first | (with_reducible assumption) | (with_reducible exact At.new _ _) | (with_reducible refine At.row ?_) | (with_reducible refine At.app ?_) | (with_reducible refine At.tick ?_) | (with_reducible refine At.gx ?_) | ((with_reducible refine At.new' ?_); focus (simp; done)) | (with_reducible refine At.alloc ?_) | (with_reducible refine At.drew ?_) | (with_reducible exact Is.new _ _ _) | (with_reducible refine Is.row ?_) | (with_reducible refine Is.gx ?_) | ((with_reducible refine Is.new' ?_); focus (simp; done)) | (with_reducible refine Is.alloc ?_) | (with_reducible refine Is.drew ?_)))); done)) | (with_reducible refine Shows.app ?_) | (with_reducible refine Shows.tick ?_) | (with_reducible refine Shows.gx ?_) | (with_reducible refine Shows.alloc ?_) | (with_reducible refine Shows.drew ?_)))); (focus (simp [Value.oneCell']; done)); (focus (simp only [maxLen]; omega)); (focus omega); (rintro v' W' hW' hO' hg')))))
      go_roundw
      case rel => exact ⟨j + 1, by omega, by go_num, hW', by rw [← hs.out]; exact hO'⟩
      case measure => simp [intOf]; omega
    · obtain rfl : j = k := by omega
      go_wp2
      go_ret2
      exact Key.out _ _ (by repeat (first | (with_reducible exact Gx.refl _) | (with_reducible assumption) | (with_reducible refine Gx.gx ?_) | (with_reducible refine Gx.alloc ?_) | (with_reducible refine Gx.drew ?_) | (with_reducible refine Gx.drewN ?_) | (with_reducible refine Gx.setRow ?_ (by simp)) | (with_reducible refine Gx.setCell ?_ (by simp)))) hO
set_option maxHeartbeats 400000 in
theorem RStates_bad (A : Option Addr) (n c : Nat) (hm : n ≤ 140737488355328) (h : NoSlots n) (w : World) :
    Calls Tryz.prog 37 #[.slice A n c] w fun e w' => e = .returned (.tuple #[.slice none 0 0, .int .i64 3]) ∧ ∃ x, w' = gx w x := by
  have H := Lib.hid h
  clear h
  go_enter Tryz.func37, Tryz.ntmps37
  go_wp2_with (go_at_call 96; go_loud (refine (slots_bad _ n c hm H.out _).mono ?_; rintro e w' ⟨rfl, rfl⟩))
  go_ret2
  exact ⟨rfl, (by repeat (first | (with_reducible exact Gx.refl _) | (with_reducible assumption) | (with_reducible refine Gx.gx ?_) | (with_reducible refine Gx.alloc ?_) | (with_reducible refine Gx.drew ?_) | (with_reducible refine Gx.drewN ?_) | (with_reducible refine Gx.setRow ?_ (by simp)) | (with_reducible refine Gx.setCell ?_ (by simp))))⟩
set_option maxHeartbeats 600000 in
set_option maxRecDepth 100000 in
theorem RSlotFrame_bad (A : Option Addr) (n c : Nat) (i : Int) (hm : n ≤ 140737488355328) (h : NoSlots n) (w : World) :
    Calls Tryz.prog 39 #[.slice A n c, .int .i64 i] w fun e w' => e = .returned (.tuple #[.agg (fc zeroF), .int .i64 3]) ∧ ∃ x, w' = gx w x := by
  have hl := zeroF_len
  have H := Lib.hid h
  clear h
  go_enter Tryz.func39, Tryz.ntmps39
  go_wp2_with (first | (go_at_call 96; go_loud (refine (slots_bad _ n c hm H.out _).mono ?_; rintro e w' ⟨rfl, rfl⟩)) | (refine store_fr rfl _ _ rfl _ rfl _ rfl ?_ ?_ ?_ ?_ ?_; rotate_left; (focus (repeat (first | (with_reducible assumption) | (with_reducible exact At.new _ _) | (with_reducible refine At.row ?_) | (with_reducible refine At.app ?_) | (with_reducible refine At.tick ?_) | (with_reducible refine At.gx ?_) | ((with_reducible refine At.new' ?_); focus (simp; done)) | (with_reducible refine At.alloc ?_) | (with_reducible refine At.drew ?_) | (with_reducible exact Is.new _ _ _) | (with_reducible refine Is.row ?_) | (with_reducible refine Is.gx ?_) | ((with_reducible refine Is.new' ?_); focus (simp; done)) | (with_reducible refine Is.alloc ?_) | (with_reducible refine Is.drew ?_)))); (focus (with_reducible (first | exact hl | exact hl1 | exact hl2 | exact hl3 | exact hl4 | exact zeroF_len))); (focus (with_reducible (first | exact hl | exact hl1 | exact hl2 | exact hl3 | exact hl4 | exact zeroF_len)))))
  (refine ret_fr_tmp rfl _ _ _ ?_ rfl rfl ?_ ?_ ?_; rotate_left; (focus (repeat (first | (with_reducible assumption) | (with_reducible exact At.new _ _) | (with_reducible refine At.row ?_) | (with_reducible refine At.app ?_) | (with_reducible refine At.tick ?_) | (with_reducible refine At.gx ?_) | ((with_reducible refine At.new' ?_); focus (simp; done)) | (with_reducible refine At.alloc ?_) | (with_reducible refine At.drew ?_) | (with_reducible exact Is.new _ _ _) | (with_reducible refine Is.row ?_) | (with_reducible refine Is.gx ?_) | ((with_reducible refine Is.new' ?_); focus (simp; done)) | (with_reducible refine Is.alloc ?_) | (with_reducible refine Is.drew ?_)))); (focus (with_reducible (first | exact hl | exact hl1 | exact hl2 | exact hl3 | exact hl4 | exact zeroF_len))))
  exact ⟨rfl, (by repeat (first | (with_reducible exact Gx.refl _) | (with_reducible assumption) | (with_reducible refine Gx.gx ?_) | (with_reducible refine Gx.alloc ?_) | (with_reducible refine Gx.drew ?_) | (with_reducible refine Gx.drewN ?_) | (with_reducible refine Gx.setRow ?_ (by simp)) | (with_reducible refine Gx.setCell ?_ (by simp))))⟩
theorem outside_yes (n a b : Int) (h : n < a ∨ b < n) (w : World) :
    Calls Tryz.prog 76 #[.int .i64 n, .int .i64 a, .int .i64 b] w fun e w' => e = .returned (.bool true) ∧ w = w' := by
  refine (outside_any n a b w).mono ?_
  rintro e w' ⟨rfl, rfl⟩
  refine ⟨?_, rfl⟩
  rcases h with h | h
  · rw [decide_eq_true h, Bool.true_or]
  · rw [decide_eq_true h, Bool.or_true]
set_option maxHeartbeats 600000 in
set_option maxRecDepth 100000 in
theorem RSlotFrame_out (A : Option Addr) (n c k : Nat) (i : Int) (hn : n = 16 + 97 * k) (hk : 1 ≤ k) (hk' : k ≤ 1450902972736) (hi : i < 0 ∨ (k : Int) ≤ i) (w : World) :
    Calls Tryz.prog 39 #[.slice A n c, .int .i64 i] w fun e w' => e = .returned (.tuple #[.agg (fc zeroF), .int .i64 9]) ∧ ∃ x, w' = gx w x := by
  have hl := zeroF_len
  have HN := Lib.hid hn
  have Hk := Lib.hid hk
  have d1 : decide ((k : Int) < 0) = false := decide_eq_false (by omega)
  have hw : IntKind.i64.wrap ((k : Int) - 1) = (k : Int) - 1 := IntWalk.i64_in _ (by omega)
  have HO : Hid (i < 0 ∨ (k : Int) - 1 < i) := Lib.hid (by omega)
  clear hn hk hi
  go_enter Tryz.func39, Tryz.ntmps39
  go_wp2_with (first | (go_at_call 96; go_loud (refine (slots_ok _ n c k HN.out Hk.out hk' _).mono ?_; rintro e w' ⟨rfl, rfl⟩)) | (go_at_call 76; go_loud (refine (outside_yes _ _ _ HO.out _).mono ?_; rintro e w' ⟨rfl, rfl⟩)) | (refine store_fr rfl _ _ rfl _ rfl _ rfl ?_ ?_ ?_ ?_ ?_; rotate_left; (focus (repeat (first | (with_reducible assumption) | (with_reducible exact At.new _ _) | (with_reducible refine At.row ?_) | (with_reducible refine At.app ?_) | (with_reducible refine At.tick ?_) | (with_reducible refine At.gx ?_) | ((with_reducible refine At.new' ?_); focus (simp; done)) | (with_reducible refine At.alloc ?_) | (with_reducible refine At.drew ?_) | (with_reducible exact Is.new _ _ _) | (with_reducible refine Is.row ?_) | (with_reducible refine Is.gx ?_) | ((with_reducible refine Is.new' ?_); focus (simp; done)) | (with_reducible refine Is.alloc ?_) | (with_reducible refine Is.drew ?_)))); (focus (with_reducible (first | exact hl | exact hl1 | exact hl2 | exact hl3 | exact hl4 | exact zeroF_len))); (focus (with_reducible (first | exact hl | exact hl1 | exact hl2 | exact hl3 | exact hl4 | exact zeroF_len)))))
  (refine ret_fr_tmp rfl _ _ _ ?_ rfl rfl ?_ ?_ ?_; rotate_left; (focus (repeat (first | (with_reducible assumption) | (with_reducible exact At.new _ _) | (with_reducible refine At.row ?_) | (with_reducible refine At.app ?_) | (with_reducible refine At.tick ?_) | (with_reducible refine At.gx ?_) | ((with_reducible refine At.new' ?_); focus (simp; done)) | (with_reducible refine At.alloc ?_) | (with_reducible refine At.drew ?_) | (with_reducible exact Is.new _ _ _) | (with_reducible refine Is.row ?_) | (with_reducible refine Is.gx ?_) | ((with_reducible refine Is.new' ?_); focus (simp; done)) | (with_reducible refine Is.alloc ?_) | (with_reducible refine Is.drew ?_)))); (focus (with_reducible (first | exact hl | exact hl1 | exact hl2 | exact hl3 | exact hl4 | exact zeroF_len))))
  exact ⟨rfl, (by repeat (first | (with_reducible exact Gx.refl _) | (with_reducible assumption) | (with_reducible refine Gx.gx ?_) | (with_reducible refine Gx.alloc ?_) | (with_reducible refine Gx.drew ?_) | (with_reducible refine Gx.drewN ?_) | (with_reducible refine Gx.setRow ?_ (by simp)) | (with_reducible refine Gx.setCell ?_ (by simp))))⟩
set_option maxHeartbeats 600000 in
set_option maxRecDepth 100000 in
theorem RSlotFrame_w (S : List Int) (hS : Bs S) (b o n c k i : Nat) (hn : n = 16 + 97 * k) (hnc : n ≤ c) (hk : 1 ≤ k) (hk' : k ≤ 1450902972736) (hi : i < k) (w : World) (hc : ∀ j, j < n → w.cell? ⟨b, o + j, none⟩ = some (.int .u8 (gw S j))) :
    Calls Tryz.prog 39 #[.slice (some ⟨b, o, none⟩) n c, .int .i64 i] w fun e w' => e = .returned (.tuple #[.agg (fc (rdF (S.drop (16 + 97 * i)))), .int .i64 0]) ∧ ∃ x, w' = gx w x := by
  have HS := Lib.hid (slot_any b o n c k i hn hnc hk' hi)
  obtain ⟨q, hq⟩ : ∃ q, q = 16 + 97 * i := ⟨_, rfl⟩
  rw [← hq] at HS
  have hl := zeroF_len
  have hl1 := rdF_len (S.drop q)
  have hbs : Bs (S.drop q) := fun j => by rw [gw_drop]; exact hS _
  have Hc : Hid (∀ j, j < 96 → w.cell? ⟨b, o + q + j, none⟩ = some (.int .u8 (gw (S.drop q) j))) := Lib.hid (fun j hj => by rw [gw_drop, Nat.add_assoc]; exact hc (q + j) (by omega))
  have HN := Lib.hid hn
  have Hk := Lib.hid hk
  have d1 : decide ((k : Int) < 0) = false := decide_eq_false (by omega)
  have hw : IntKind.i64.wrap ((k : Int) - 1) = (k : Int) - 1 := IntWalk.i64_in _ (by omega)
  have hi0 : (0 : Int) ≤ i := by omega
  have hi1 : (i : Int) ≤ (k : Int) - 1 := by omega
  rw [← hq]
  clear hc hn hq hk
  go_enter Tryz.func39, Tryz.ntmps39
  go_wp2_with (first | (go_at_call 96; go_loud (refine (slots_ok _ n c k HN.out Hk.out hk' _).mono ?_; rintro e w' ⟨rfl, rfl⟩)) | (go_at_call 76; go_loud (refine (outside_no _ _ _ hi0 hi1 _).mono ?_; rintro e w' ⟨rfl, rfl⟩)) | (go_at_call 100; go_loud (refine (HS.out _).mono ?_; rintro e w' ⟨rfl, rfl⟩)) | (refine store_fr rfl _ _ rfl _ rfl _ rfl ?_ ?_ ?_ ?_ ?_; rotate_left; (focus (repeat (first | (with_reducible assumption) | (with_reducible exact At.new _ _) | (with_reducible refine At.row ?_) | (with_reducible refine At.app ?_) | (with_reducible refine At.tick ?_) | (with_reducible refine At.gx ?_) | ((with_reducible refine At.new' ?_); focus (simp; done)) | (with_reducible refine At.alloc ?_) | (with_reducible refine At.drew ?_) | (with_reducible exact Is.new _ _ _) | (with_reducible refine Is.row ?_) | (with_reducible refine Is.gx ?_) | ((with_reducible refine Is.new' ?_); focus (simp; done)) | (with_reducible refine Is.alloc ?_) | (with_reducible refine Is.drew ?_)))); (focus (with_reducible (first | exact hl | exact hl1 | exact hl2 | exact hl3 | exact hl4 | exact zeroF_len))); (focus (with_reducible (first | exact hl | exact hl1 | exact hl2 | exact hl3 | exact hl4 | exact zeroF_len)))) | (go_at_call 99; go_loud (refine (RFromBytes_good (S.drop q) hbs b (o + q) 97 _ (by decide) (by decide) _ ?_).mono ?_; (focus (intro j hj; exact cell_keep_alloc (Hc.out j hj))); rintro e w' ⟨rfl, z, rfl⟩)))
  (refine ret_fr_tmp rfl _ _ _ ?_ rfl rfl ?_ ?_ ?_; rotate_left; (focus (repeat (first | (with_reducible assumption) | (with_reducible exact At.new _ _) | (with_reducible refine At.row ?_) | (with_reducible refine At.app ?_) | (with_reducible refine At.tick ?_) | (with_reducible refine At.gx ?_) | ((with_reducible refine At.new' ?_); focus (simp; done)) | (with_reducible refine At.alloc ?_) | (with_reducible refine At.drew ?_) | (with_reducible exact Is.new _ _ _) | (with_reducible refine Is.row ?_) | (with_reducible refine Is.gx ?_) | ((with_reducible refine Is.new' ?_); focus (simp; done)) | (with_reducible refine Is.alloc ?_) | (with_reducible refine Is.drew ?_)))); (focus (with_reducible (first | exact hl | exact hl1 | exact hl2 | exact hl3 | exact hl4 | exact zeroF_len))))
  exact ⟨rfl, (by repeat (first | (with_reducible exact Gx.refl _) | (with_reducible assumption) | (with_reducible refine Gx.gx ?_) | (with_reducible refine Gx.alloc ?_) | (with_reducible refine Gx.drew ?_) | (with_reducible refine Gx.drewN ?_) | (with_reducible refine Gx.setRow ?_ (by simp)) | (with_reducible refine Gx.setCell ?_ (by simp))))⟩
end Go.Proofs.YthkccbeffonaaaaGreatDoor

/-
  Head of a sector: the reference's side.
-/
namespace Go.Proofs.YthkccbeffonaaaaGreatDoor
open Go.RowKit
-- AT2

/-- The bytes by which a sector is headed, one by one. -/
def hdB (s : Int) (j : Nat) : Int := if j < 4 then sgB s j else 255 - sgB s (j - 4)
def hdsL (s : Int) (m : Nat) : List Int := [79, 66] ++ (List.range m).map (hdB s)
theorem hdsL_0 (s : Int) : hdsL s 0 = [79, 66] := rfl
theorem hdsL_succ (s : Int) (m : Nat) : hdsL s m ++ [hdB s m] = hdsL s (m + 1) := by unfold hdsL; rw [List.range_succ, List.map_append, List.append_assoc]; rfl
theorem hdsL_all (s : Int) : hdsL s 8 = sgTo s 4 := by
  unfold sgTo sgTo sgTo sgTo sgTo sign0
  rfl
attribute [irreducible] hdsL
theorem xor32 : ∀ b : Nat, b < 4294967296 → 4294967295 ^^^ b = 4294967295 - b := by
  intro b hb
  have h : (4294967295 : Nat) ^^^ b = (4294967295#32 ^^^ BitVec.ofNat 32 b).toNat := by
    rw [BitVec.toNat_xor, BitVec.toNat_ofNat, BitVec.toNat_ofNat, Nat.mod_eq_of_lt hb]
  have h2 : (4294967295#32 ^^^ BitVec.ofNat 32 b) = 4294967295#32 - BitVec.ofNat 32 b := by
    have : (4294967295#32 : BitVec 32) = BitVec.allOnes 32 := by decide
    rw [this, BitVec.allOnes_xor, BitVec.allOnes_sub_eq_not]
  rw [h, h2, BitVec.toNat_sub, BitVec.toNat_ofNat, BitVec.toNat_ofNat]
  omega
theorem u32_not (s : Int) (h0 : 0 ≤ s) (h1 : s < 4294967296) : bits .xor .u32 IntKind.u32.max s = 4294967295 - s := by
  have e : IntKind.u32.max = 4294967295 := by decide
  rw [e, u32_xor 4294967295 s (by decide) (by decide) h0 h1]
  have := xor32 s.toNat (by omega)
  have e2 : (4294967295 : Int).toNat = 4294967295 := rfl
  rw [e2, this]
  omega
theorem hdB_lo (s : Int) (k : Nat) (hk : k < 4) : s / 2 ^ (24 - 8 * k) % 256 = hdB s (0 + k) := by
  unfold hdB sgB
  rw [Nat.zero_add, if_pos hk]
theorem hdB_hi (s x : Int) (hx : x = 4294967295 - s) (k : Nat) (hk : k < 4) : x / 2 ^ (24 - 8 * k) % 256 = hdB s (4 + k) := by
  subst hx
  unfold hdB sgB
  rw [if_neg (by omega), Nat.add_sub_cancel_left]
  rcases (by omega : k = 0 ∨ k = 1 ∨ k = 2 ∨ k = 3) with rfl | rfl | rfl | rfl <;> simp <;> omega
theorem two_cells {W : World} (v0 v1 : Value) (t : TypeId) (o2 : Obj) : At ((W.alloc (.cells #[v0, v1] t)).alloc o2) W.heap.size (.cells #[v0, v1] t (0, 0)) := At.alloc (At.new W _)
set_option maxHeartbeats 2000000 in
set_option maxRecDepth 100000 in
theorem RheadOf_any (s : Int) (hs : 1 ≤ s) (hs' : s ≤ 1073741824) (w : World) :
    Calls Tryz.prog 92 #[.int .i64 s] w fun e w' => ∃ v x, e = .returned v ∧ w' = gx w x ∧ Own w.heap.size (gx w x) 5 1 v 10 (uC (sgTo s 4)) := by
  obtain ⟨N, hN⟩ : ∃ N, N = 4294967295 - s := ⟨_, rfl⟩
  have hx := u32_not s (by omega) (by omega)
  rw [← hN] at hx
  have HX := Lib.hid hN
  clear hN
  have key : ∀ v W, (∃ x, W = gx w x) → Own w.heap.size W 5 1 v 10 (uC (hdsL s 8)) → ∃ v' x, Ending.returned v = .returned v' ∧ W = gx w x ∧ Own w.heap.size (gx w x) 5 1 v' 10 (uC (sgTo s 4)) := by
    rintro v _ ⟨x, rfl⟩ h
    rw [hdsL_all] at h
    exact ⟨v, x, rfl, rfl, h⟩
  have Key := Lib.hid key
  clear key
  have E0 : Hid (uC (hdsL s 0) = [.int .u8 79, .int .u8 66]) := Lib.hid (by rw [hdsL_0]; unfold uC; rfl)
  go_enter Tryz.func92, Tryz.ntmps92
  go_wp2
  clear hx
  go_loopw [15, 3] (fun i v wr => ∃ a : Nat, a ≤ 2 ∧ i = .int .i64 a ∧ (∃ x, wr = gx w x) ∧ At wr (w.heap.size + 1) (.cells #[.int .u32 s, .int .u32 N] 180 (0, 0)) ∧ Own w.heap.size wr 5 1 v (2 + 4 * a) (uC (hdsL s (4 * a)))) (fun i _ _ => 2 - (intOf i).toNat)
  case atStart => exact ⟨0, by omega, rfl, (by repeat (first | (with_reducible exact Gx.refl _) | (with_reducible assumption) | (with_reducible refine Gx.gx ?_) | (with_reducible refine Gx.alloc ?_) | (with_reducible refine Gx.drew ?_) | (with_reducible refine Gx.drewN ?_) | (with_reducible refine Gx.setRow ?_ (by simp)) | (with_reducible refine Gx.setCell ?_ (by simp)))), At.new' (by simp), by rw [Nat.mul_zero, E0.out]; exact own_whole (two_cells _ _ _ _) rfl (Nat.le_refl _) (by simp only [maxLen]; omega)⟩
  case round =>
    obtain ⟨a, ha, rfl, hG, hA, hO⟩ := hrel
    by_cases hlt : a < 2
    · obtain ⟨x, hc, hx0, hx1, hb⟩ : ∃ x : Int, wr.cell? ⟨w.heap.size + 1, a, none⟩ = some (.int .u32 x) ∧ 0 ≤ x ∧ x < 4294967296 ∧ ∀ k : Nat, k < 4 → x / 2 ^ (24 - 8 * k) % 256 = hdB s (4 * a + k) := by
        rcases (by omega : a = 0 ∨ a = 1) with rfl | rfl
        · exact ⟨s, by rw [cell_of_row _ _ _ _ _ _ hA]; rfl, by omega, by omega, fun k hk => hdB_lo s k hk⟩
        · exact ⟨N, by rw [cell_of_row _ _ _ _ _ _ hA]; rfl, by have := HX.out; omega, by have := HX.out; omega, fun k hk => hdB_hi s N HX.out k hk⟩
      have HB := Lib.hid hb
      have HA := Lib.hid hA
      clear hb hA
      have hd : decide ((a : Int) < 2) = true := decide_eq_true (by omega)
      go_wp2
      try rw [hd]
      go_loopw [6, 3] (fun c v wr => ∃ k : Nat, k ≤ 4 ∧ c = .int .i64 (24 - 8 * (k : Int)) ∧ (∃ x, wr = gx w x) ∧ At wr (w.heap.size + 1) (.cells #[.int .u32 s, .int .u32 N] 180 (0, 0)) ∧ Own w.heap.size wr 5 1 v (2 + (4 * a + k)) (uC (hdsL s (4 * a + k)))) (fun c _ _ => (intOf c + 8).toNat)
      case atStart => exact ⟨0, by omega, rfl, hG, HA.out, hO⟩
      case round =>
        obtain ⟨k, hk, rfl, hG2, hA2, hO2⟩ := hrel
        have hz2 := size_of_gx hG2
        by_cases hlt2 : k < 4
        · have hst : Hid (uC (hdsL s (4 * a + k)) ++ [.int .u8 (hdB s (4 * a + k))] = uC (hdsL s (4 * a + k + 1))) := Lib.hid (by rw [← hdsL_succ]; unfold uC; simp)
          have hbk := HB.out k hlt2
          have hb0 : 0 ≤ hdB s (4 * a + k) := by omega
          have hb1 : hdB s (4 * a + k) < 256 := by omega
          generalize hdB s (4 * a + k) = y at *
          have key2 : ∀ (v' : Value) (W' : World), (∃ x, W' = gx w x) → At W' (w.heap.size + 1) (.cells #[.int .u32 s, .int .u32 N] 180 (0, 0)) → Own w.heap.size W' 5 1 v' (2 + (4 * a + k) + 1) (uC (hdsL s (4 * a + k)) ++ [.int .u8 y]) → ∃ k' : Nat, k' ≤ 4 ∧ k' = k + 1 ∧ (∃ x, W' = gx w x) ∧ At W' (w.heap.size + 1) (.cells #[.int .u32 s, .int .u32 N] 180 (0, 0)) ∧ Own w.heap.size W' 5 1 v' (2 + (4 * a + k')) (uC (hdsL s (4 * a + k'))) := by
            intro v' W' h1 h2 h3
            rw [hst.out] at h3
            exact ⟨k + 1, by omega, rfl, h1, h2, h3⟩
          have Key2 := Lib.hid key2
          clear key2
          rcases (by omega : k = 0 ∨ k = 1 ∨ k = 2 ∨ k = 3) with rfl | rfl | rfl | rfl
          · have e1 : x / 16777216 = y := by simp at hbk; omega
            clear hbk
            go_wp2_with (at_builtin; (with_reducible apply append_new (o := ⟨some 29, _, _, _, _, _⟩) el_byte w w.heap.size (v := u3) (n := 2 + (4 * a + 0)) (xs := uC (hdsL s (4 * a + 0))) (m := 1) (news := [.int .u8 y])); go_loud ((exact rfl; exact rfl; exact rfl; exact rfl; (focus (exact Nat.le_refl _)); (focus (repeat (first | (with_reducible assumption) | (with_reducible exact Own.nil _ _ _ _) | (with_reducible refine Own.app ?_) | (with_reducible refine Own.tick ?_) | (with_reducible refine Own.gx ?_) | (with_reducible refine Own.alloc ?_) | (with_reducible refine Own.drew ?_) | (with_reducible refine Own.row ?_ (by omega))))); exact (by repeat (first | (with_reducible exact Gx.refl _) | (with_reducible assumption) | (with_reducible refine Gx.gx ?_) | (with_reducible refine Gx.alloc ?_) | (with_reducible refine Gx.drew ?_) | (with_reducible refine Gx.drewN ?_) | (with_reducible refine Gx.setRow ?_ (by simp)) | (with_reducible refine Gx.setCell ?_ (by simp)))); (focus (simp <;> omega)); exact rfl; (focus (repeat (first | (with_reducible assumption) | ((with_reducible apply Shows.whole); focus ((focus (repeat (first | (with_reducible assumption) | (with_reducible exact At.new _ _) | (with_reducible refine At.row ?_) | (with_reducible refine At.app ?_) | (with_reducible refine At.tick ?_) | (with_reducible refine At.gx ?_) | ((with_reducible refine At.new' ?_); focus (simp; done)) | (with_reducible refine At.alloc ?_) | (with_reducible refine At.drew ?_) | (with_reducible exact Is.new _ _ _) | (with_reducible refine Is.row ?_) | (with_reducible refine Is.gx ?_) | ((with_reducible refine Is.new' ?_); focus (simp; done)) | (with_reducible refine Is.alloc ?_) | (with_reducible refine Is.drew ?_)))); done)) | (with_reducible refine Shows.app ?_) | (with_reducible refine Shows.tick ?_) | (with_reducible refine Shows.gx ?_) | (with_reducible refine Shows.alloc ?_) | (with_reducible refine Shows.drew ?_)))); (focus (simp [Value.oneCell']; done)); (focus (simp only [maxLen]; omega)); (focus omega); (rintro v' W' hW' hO' hg'))))
            go_roundw
            case rel =>
              obtain ⟨k', q1, q2, q3, q4, q5⟩ := Key2.out v' W' hW' (At.grown (At.alloc hA2) hg' (hO2.ne_of hA2 (by decide))) hO'
              subst q2
              exact ⟨_, q1, by go_num, q3, q4, q5⟩
            case measure => simp [intOf]
          · have e1 : x / 65536 % 256 = y := by simp at hbk; omega
            have e2 : IntKind.u8.wrap (x / 65536) = y := by rw [IntKind.wrap_u8]; exact e1
            clear hbk
            go_wp2_with (at_builtin; (with_reducible apply append_new (o := ⟨some 29, _, _, _, _, _⟩) el_byte w w.heap.size (v := u3) (n := 2 + (4 * a + 1)) (xs := uC (hdsL s (4 * a + 1))) (m := 1) (news := [.int .u8 y])); go_loud ((exact rfl; exact rfl; exact rfl; exact rfl; (focus (exact Nat.le_refl _)); (focus (repeat (first | (with_reducible assumption) | (with_reducible exact Own.nil _ _ _ _) | (with_reducible refine Own.app ?_) | (with_reducible refine Own.tick ?_) | (with_reducible refine Own.gx ?_) | (with_reducible refine Own.alloc ?_) | (with_reducible refine Own.drew ?_) | (with_reducible refine Own.row ?_ (by omega))))); exact (by repeat (first | (with_reducible exact Gx.refl _) | (with_reducible assumption) | (with_reducible refine Gx.gx ?_) | (with_reducible refine Gx.alloc ?_) | (with_reducible refine Gx.drew ?_) | (with_reducible refine Gx.drewN ?_) | (with_reducible refine Gx.setRow ?_ (by simp)) | (with_reducible refine Gx.setCell ?_ (by simp)))); (focus (simp <;> omega)); exact rfl; (focus (repeat (first | (with_reducible assumption) | ((with_reducible apply Shows.whole); focus ((focus (repeat (first | (with_reducible assumption) | (with_reducible exact At.new _ _) | (with_reducible refine At.row ?_) | (with_reducible refine At.app ?_) | (with_reducible refine At.tick ?_) | (with_reducible refine At.gx ?_) | ((with_reducible refine At.new' ?_); focus (simp; done)) | (with_reducible refine At.alloc ?_) | (with_reducible refine At.drew ?_) | (with_reducible exact Is.new _ _ _) | (with_reducible refine Is.row ?_) | (with_reducible refine Is.gx ?_) | ((with_reducible refine Is.new' ?_); focus (simp; done)) | (with_reducible refine Is.alloc ?_) | (with_reducible refine Is.drew ?_)))); done)) | (with_reducible refine Shows.app ?_) | (with_reducible refine Shows.tick ?_) | (with_reducible refine Shows.gx ?_) | (with_reducible refine Shows.alloc ?_) | (with_reducible refine Shows.drew ?_)))); (focus (simp [Value.oneCell']; done)); (focus (simp only [maxLen]; omega)); (focus omega); (rintro v' W' hW' hO' hg'))))
            go_roundw
            case rel =>
              obtain ⟨k', q1, q2, q3, q4, q5⟩ := Key2.out v' W' hW' (At.grown (At.alloc hA2) hg' (hO2.ne_of hA2 (by decide))) hO'
              subst q2
              exact ⟨_, q1, by go_num, q3, q4, q5⟩
            case measure => simp [intOf]
          · have e1 : x / 256 % 256 = y := by simp at hbk; omega
            have e2 : IntKind.u8.wrap (x / 256) = y := by rw [IntKind.wrap_u8]; exact e1
            clear hbk
            go_wp2_with (at_builtin; (with_reducible apply append_new (o := ⟨some 29, _, _, _, _, _⟩) el_byte w w.heap.size (v := u3) (n := 2 + (4 * a + 2)) (xs := uC (hdsL s (4 * a + 2))) (m := 1) (news := [.int .u8 y])); go_loud ((exact rfl; exact rfl; exact rfl; exact rfl; (focus (exact Nat.le_refl _)); (focus (repeat (first | (with_reducible assumption) | (with_reducible exact Own.nil _ _ _ _) | (with_reducible refine Own.app ?_) | (with_reducible refine Own.tick ?_) | (with_reducible refine Own.gx ?_) | (with_reducible refine Own.alloc ?_) | (with_reducible refine Own.drew ?_) | (with_reducible refine Own.row ?_ (by omega))))); exact (by repeat (first | (with_reducible exact Gx.refl _) | (with_reducible assumption) | (with_reducible refine Gx.gx ?_) | (with_reducible refine Gx.alloc ?_) | (with_reducible refine Gx.drew ?_) | (with_reducible refine Gx.drewN ?_) | (with_reducible refine Gx.setRow ?_ (by simp)) | (with_reducible refine Gx.setCell ?_ (by simp)))); (focus (simp <;> omega)); exact rfl; (focus (repeat (first | (with_reducible assumption) | ((with_reducible apply Shows.whole); focus ((focus (repeat (first | (with_reducible assumption) | (with_reducible exact At.new _ _) | (with_reducible refine At.row ?_) | (with_reducible refine At.app ?_) | (with_reducible refine At.tick ?_) | (with_reducible refine At.gx ?_) | ((with_reducible refine At.new' ?_); focus (simp; done)) | (with_reducible refine At.alloc ?_) | (with_reducible refine At.drew ?_) | (with_reducible exact Is.new _ _ _) | (with_reducible refine Is.row ?_) | (with_reducible refine Is.gx ?_) | ((with_reducible refine Is.new' ?_); focus (simp; done)) | (with_reducible refine Is.alloc ?_) | (with_reducible refine Is.drew ?_)))); done)) | (with_reducible refine Shows.app ?_) | (with_reducible refine Shows.tick ?_) | (with_reducible refine Shows.gx ?_) | (with_reducible refine Shows.alloc ?_) | (with_reducible refine Shows.drew ?_)))); (focus (simp [Value.oneCell']; done)); (focus (simp only [maxLen]; omega)); (focus omega); (rintro v' W' hW' hO' hg'))))
            go_roundw
            case rel =>
              obtain ⟨k', q1, q2, q3, q4, q5⟩ := Key2.out v' W' hW' (At.grown (At.alloc hA2) hg' (hO2.ne_of hA2 (by decide))) hO'
              subst q2
              exact ⟨_, q1, by go_num, q3, q4, q5⟩
            case measure => simp [intOf]
          · have e1 : x % 256 = y := by simp at hbk; omega
            have e2 : IntKind.u8.wrap x = y := by rw [IntKind.wrap_u8]; exact e1
            clear hbk
            go_wp2_with (at_builtin; (with_reducible apply append_new (o := ⟨some 29, _, _, _, _, _⟩) el_byte w w.heap.size (v := u3) (n := 2 + (4 * a + 3)) (xs := uC (hdsL s (4 * a + 3))) (m := 1) (news := [.int .u8 y])); go_loud ((exact rfl; exact rfl; exact rfl; exact rfl; (focus (exact Nat.le_refl _)); (focus (repeat (first | (with_reducible assumption) | (with_reducible exact Own.nil _ _ _ _) | (with_reducible refine Own.app ?_) | (with_reducible refine Own.tick ?_) | (with_reducible refine Own.gx ?_) | (with_reducible refine Own.alloc ?_) | (with_reducible refine Own.drew ?_) | (with_reducible refine Own.row ?_ (by omega))))); exact (by repeat (first | (with_reducible exact Gx.refl _) | (with_reducible assumption) | (with_reducible refine Gx.gx ?_) | (with_reducible refine Gx.alloc ?_) | (with_reducible refine Gx.drew ?_) | (with_reducible refine Gx.drewN ?_) | (with_reducible refine Gx.setRow ?_ (by simp)) | (with_reducible refine Gx.setCell ?_ (by simp)))); (focus (simp <;> omega)); exact rfl; (focus (repeat (first | (with_reducible assumption) | ((with_reducible apply Shows.whole); focus ((focus (repeat (first | (with_reducible assumption) | (with_reducible exact At.new _ _) | (with_reducible refine At.row ?_) | (with_reducible refine At.app ?_) | (with_reducible refine At.tick ?_) | (with_reducible refine At.gx ?_) | ((with_reducible refine At.new' ?_); focus (simp; done)) | (with_reducible refine At.alloc ?_) | (with_reducible refine At.drew ?_) | (with_reducible exact Is.new _ _ _) | (with_reducible refine Is.row ?_) | (with_reducible refine Is.gx ?_) | ((with_reducible refine Is.new' ?_); focus (simp; done)) | (with_reducible refine Is.alloc ?_) | (with_reducible refine Is.drew ?_)))); done)) | (with_reducible refine Shows.app ?_) | (with_reducible refine Shows.tick ?_) | (with_reducible refine Shows.gx ?_) | (with_reducible refine Shows.alloc ?_) | (with_reducible refine Shows.drew ?_)))); (focus (simp [Value.oneCell']; done)); (focus (simp only [maxLen]; omega)); (focus omega); (rintro v' W' hW' hO' hg'))))
            go_roundw
            case rel =>
              obtain ⟨k', q1, q2, q3, q4, q5⟩ := Key2.out v' W' hW' (At.grown (At.alloc hA2) hg' (hO2.ne_of hA2 (by decide))) hO'
              subst q2
              exact ⟨_, q1, by go_num, q3, q4, q5⟩
            case measure => simp [intOf]
        · obtain rfl : k = 4 := by omega
          go_wp2
          go_roundw
          case rel => exact ⟨a + 1, by omega, by go_num, hG2, hA2, hO2⟩
          case measure => simp [intOf]; omega
    · obtain rfl : a = 2 := by omega
      go_wp2
      go_ret
      exact Key.out _ _ hG hO
end Go.Proofs.YthkccbeffonaaaaGreatDoor

/-
  Head: the reference's contract.
-/
namespace Go.Proofs.YthkccbeffonaaaaGreatDoor
open Go.RowKit
-- AT2

theorem ofNat_inj {a b : Int} (ha : 0 ≤ a) (ha' : a ≤ 255) (hb : 0 ≤ b) (hb' : b ≤ 255) (h : UInt8.ofNat a.toNat = UInt8.ofNat b.toNat) : a = b := by
  have h2 := congrArg UInt8.toNat h
  rw [UInt8.toNat_ofNat', UInt8.toNat_ofNat', Nat.mod_eq_of_lt (by omega), Nat.mod_eq_of_lt (by omega)] at h2
  omega
theorem str_inj {F G : List Int} (hF : Bs F) (hG : Bs G) (hl : F.length = G.length) (h : (strOfNums F).toList = (strOfNums G).toList) : F = G := by
  have h2 := h
  rw [ByteArray.toList_eq, ByteArray.toList_eq] at h2
  simp only [strOfNums_data] at h2
  refine ext_gw hl fun k hk => ?_
  have h3 := congrArg (fun l : List UInt8 => l[k]?) h2
  simp only [List.getElem?_map, List.getElem?_eq_getElem hk, List.getElem?_eq_getElem (hl ▸ hk : k < G.length), Option.map_some, Option.some.injEq] at h3
  have hf := hF k
  have hg := hG k
  unfold gw at *
  simp only [List.getD, List.getElem?_eq_getElem hk, List.getElem?_eq_getElem (hl ▸ hk : k < G.length), Option.getD_some] at *
  exact ofNat_inj hf.1 hf.2 hg.1 hg.2 h3
theorem heldB_cells {B : List Int} {A : Option Addr} {n : Nat} {W : World} (h : HeldB B A n W) (h0 : 0 < n) : ∃ g o, A = some ⟨g, o, none⟩ ∧ ∀ j, j < n → W.cell? ⟨g, o + j, none⟩ = some (.int .u8 (gw B j)) := by
  unfold HeldB at h
  exact h h0
theorem cell_gx_of {w W : World} {a : Addr} {v : Value} (hW : ∃ x, W = gx w x) (h : w.cell? a = some v) : W.cell? a = some v := by
  obtain ⟨x, rfl⟩ := hW
  exact cell_keep_gx h
theorem conv10 (B : List Int) (hl : B.length = 10) (b o c : Nat) (W : World) (hc : ∀ j, j < 10 → W.cell? ⟨b, o + j, none⟩ = some (.int .u8 (gw B j))) : (convert 39 9 (.slice (some ⟨b, o, none⟩) 10 c)).run Tryz.prog W = .ok (.string (strOfNums B)) W :=
  run_convert_bytes_arg W 39 5 Tryz.underlying39 Tryz.underlying5 b o 10 c B hl (fun i hi => by have := hc i hi; unfold gw at this; exact this) 9 Tryz.underlying9
theorem sgTo_bs (s : Int) : Bs (sgTo s 4) := by
  rw [← hdsL_all]
  intro k
  have hlen : (hdsL s 8).length = 10 := by rw [hdsL_all, sgTo_len]
  rcases Nat.lt_or_ge k 10 with h | h
  · rcases (by omega : k = 0 ∨ k = 1 ∨ k = 2 ∨ k = 3 ∨ k = 4 ∨ k = 5 ∨ k = 6 ∨ k = 7 ∨ k = 8 ∨ k = 9) with rfl | rfl | rfl | rfl | rfl | rfl | rfl | rfl | rfl | rfl <;> (unfold hdsL gw hdB sgB; simp [List.range, List.range.loop]; try omega)
  · unfold gw
    rw [List.getD, List.getElem?_eq_none (by omega)]
    simp
set_option maxHeartbeats 400000 in
set_option maxRecDepth 100000 in
theorem RHead_no (A : Option Addr) (n c : Nat) (hn : n < 16) (w : World) :
    Calls Tryz.prog 35 #[.slice A n c] w fun e w' => e = .returned (.tuple #[.int .i64 0, .bool false, .bool false]) ∧ ∃ x, w' = gx w x := by
  have hd : decide ((n : Int) < 16) = true := decide_eq_true (by omega)
  go_enter Tryz.func35, Tryz.ntmps35
  go_wp2
  go_ret3
  exact ⟨rfl, (by repeat (first | (with_reducible exact Gx.refl _) | (with_reducible assumption) | (with_reducible refine Gx.gx ?_) | (with_reducible refine Gx.alloc ?_) | (with_reducible refine Gx.drew ?_) | (with_reducible refine Gx.drewN ?_) | (with_reducible refine Gx.setRow ?_ (by simp)) | (with_reducible refine Gx.setCell ?_ (by simp))))⟩
set_option maxHeartbeats 600000 in
set_option maxRecDepth 100000 in
theorem RHead_off (D : List Int) (hD : Bs D) (b o n c : Nat) (hn : 16 ≤ n) (w : World) (hc : ∀ j, j < 16 → w.cell? ⟨b, o + j, none⟩ = some (.int .u8 (gw D j))) (hs : hsTo D 4 < 1 ∨ 1073741824 < hsTo D 4) :
    Calls Tryz.prog 35 #[.slice (some ⟨b, o, none⟩) n c] w fun e w' => e = .returned (.tuple #[.int .i64 0, .bool false, .bool false]) ∧ ∃ x, w' = gx w x := by
  have Hc := Lib.hid hc
  have E0 := Lib.hid (hsTo_0 D)
  have Hs := Lib.hid hs
  have hd : decide ((n : Int) < 16) = false := decide_eq_false (by omega)
  clear hc hs
  go_enter Tryz.func35, Tryz.ntmps35
  go_wp2
  go_loopw [5, 2] (fun i v wr => ∃ k : Nat, k ≤ 4 ∧ i = .int .i64 (2 + (k : Int)) ∧ v = .int .i64 (hsTo D k) ∧ wr = w) (fun i _ _ => 6 - (intOf i).toNat)
  case atStart => exact ⟨0, by omega, rfl, by rw [E0.out], rfl⟩
  case round =>
    obtain ⟨k, hk, rfl, rfl, rfl⟩ := hrel
    by_cases hlt : k < 4
    · have ck := Hc.out (2 + k) (by omega)
      have hb := hsTo_bd hD k hk
      have hx := hsTo_succ D k
      have hdb := hD (2 + k)
      have hb4 : hsTo D k < 16777216 := by
        have := hb.2
        rcases (by omega : k = 0 ∨ k = 1 ∨ k = 2 ∨ k = 3) with rfl | rfl | rfl | rfl <;> simp at this <;> omega
      have hb0 := hb.1
      clear hb
      obtain ⟨y, hy⟩ : ∃ y, y = hsTo D (k + 1) := ⟨_, rfl⟩
      rw [← hy] at hx
      have HY := Lib.hid hy
      clear hy
      generalize gw D (2 + k) = v at *
      generalize hsTo D k = z at *
      have e1 : IntKind.i64.wrap (z * 256) = z * 256 := IntWalk.i64_in _ (by omega)
      have e2 : IntKind.i64.wrap (z * 256 + v) = y := by rw [IntWalk.i64_in _ (by omega)]; exact hx
      have e3 : IntKind.i64.wrap v = v := IntWalk.i64_in _ (by omega)
      obtain ⟨m, hm⟩ : ∃ m : Nat, m = 2 + k := ⟨_, rfl⟩
      obtain ⟨t, ht⟩ : ∃ t : Int, t = 2 + (k : Int) := ⟨_, rfl⟩
      rw [← hm] at ck
      rw [← ht]
      obtain rfl : t = (m : Int) := by omega
      have d6 : decide ((m : Int) < 6) = true := decide_eq_true (by omega)
      have hmn : m < n := by omega
      have e4 : IntKind.i64.wrap ((m : Int) + 1) = (m : Int) + 1 := IntWalk.i64_in _ (by omega)
      have HM := Lib.hid hm
      clear hm ht hx
      go_wp2
      go_roundw
      case rel => exact ⟨k + 1, by omega, by have := HM.out; go_num, by rw [← HY.out], by first | rfl | trivial⟩
      case measure => have := HM.out; simp [intOf]; omega
    · obtain rfl : k = 4 := by omega
      have h2 : (2 : Int) + ((4 : Nat) : Int) = 6 := rfl
      rw [h2]
      have HO := Lib.hid (fun W => outside_yes (hsTo D 4) 1 1073741824 Hs.out W)
      generalize hsTo D 4 = s at *
      go_wp2
      first | (with_reducible refine region_gxx (by kernel_rfl) (by kernel_rfl) ?_) | (with_reducible refine region_gx (by kernel_rfl) (by kernel_rfl) ?_)
      repeat (any_goals (first | go_big_quiet_step ((go_at_call 76; exact calls_gx_same (HO.out _))) | quiet_step ((go_at_call 76; exact calls_gx_same (HO.out _)))))
      refine wpQuiet_nil ?_
      rintro _ ⟨x, rfl⟩
      go_wp2
      go_ret3
      exact ⟨rfl, (by repeat (first | (with_reducible exact Gx.refl _) | (with_reducible assumption) | (with_reducible refine Gx.gx ?_) | (with_reducible refine Gx.alloc ?_) | (with_reducible refine Gx.drew ?_) | (with_reducible refine Gx.drewN ?_) | (with_reducible refine Gx.setRow ?_ (by simp)) | (with_reducible refine Gx.setCell ?_ (by simp))))⟩
set_option maxHeartbeats 1000000 in
set_option maxRecDepth 100000 in
theorem RHead_in (D : List Int) (hD : Bs D) (b o n c : Nat) (hn : 16 ≤ n) (hnc : n ≤ c) (w : World) (hc : ∀ j, j < 16 → w.cell? ⟨b, o + j, none⟩ = some (.int .u8 (gw D j))) (h1 : 1 ≤ hsTo D 4) (h2 : hsTo D 4 ≤ 1073741824) (D10 : List Int) (hl10 : D10.length = 10) (h10 : ∀ j, j < 10 → gw D10 j = gw D j) (p : Bool) (hp : eqT D10 (sgTo (hsTo D 4) 4) = p) (v : Int × Bool × Bool) (hv : v = if p then (hsTo D 4, !(gw D 10 == 255), true) else (0, false, false)) :
    Calls Tryz.prog 35 #[.slice (some ⟨b, o, none⟩) n c] w fun e w' => e = .returned (.tuple #[.int .i64 v.1, .bool v.2.1, .bool v.2.2]) ∧ ∃ x, w' = gx w x := by
  have Hc := Lib.hid hc
  have hT : Hid (∀ j, j < 10 → w.cell? ⟨b, o + j, none⟩ = some (.int .u8 (gw D10 j))) := Lib.hid (fun j hj => by rw [h10 j hj]; exact hc j (by omega))
  have hb10 : Bs D10 := fun j => by
    rcases Nat.lt_or_ge j 10 with h | h
    · rw [h10 j h]; exact hD j
    · unfold gw
      rw [List.getD, List.getElem?_eq_none (by omega)]
      simp
  have hY : Hid (((strOfNums (sgTo (hsTo D 4) 4)).toList == (strOfNums D10).toList) = p) := Lib.hid (by
    rw [← hp]
    cases he : eqT D10 (sgTo (hsTo D 4) 4)
    · refine Bool.eq_false_iff.2 fun h => ?_
      have := str_inj (sgTo_bs (hsTo D 4)) hb10 (by rw [sgTo_len, hl10]) (by simpa using h)
      rw [← this, eqT_self (sgTo_len _ _)] at he
      cases he
    · have := (eqT_iff hl10 (sgTo_len _ _)).1 he
      rw [this]
      simp)
  have c10 := hc 10 (by omega)
  have E0 := Lib.hid (hsTo_0 D)
  have hd : decide ((n : Int) < 16) = false := decide_eq_false (by omega)
  have hs10 : ∀ W, (Instr.slice 39 (.slice (some ⟨b, o, none⟩) n c) none (some (.int .i64 10)) none).run Tryz.prog W = .ok (.slice (some ⟨b, o, none⟩) 10 c) W := fun W => slice_head b o n c 10 (by omega) (by omega) W
  have HO := Lib.hid (fun W => outside_no (hsTo D 4) 1 1073741824 h1 h2 W)
  have HB := Lib.hid (fun W => RheadOf_any (hsTo D 4) h1 h2 W)
  clear hc h1 h2
  go_enter Tryz.func35, Tryz.ntmps35
  go_wp2
  go_loopw [5, 2] (fun i v wr => ∃ k : Nat, k ≤ 4 ∧ i = .int .i64 (2 + (k : Int)) ∧ v = .int .i64 (hsTo D k) ∧ wr = w) (fun i _ _ => 6 - (intOf i).toNat)
  case atStart => exact ⟨0, by omega, rfl, by rw [E0.out], rfl⟩
  case round =>
    obtain ⟨k, hk, rfl, rfl, rfl⟩ := hrel
    by_cases hlt : k < 4
    · have ck := Hc.out (2 + k) (by omega)
      have hb := hsTo_bd hD k hk
      have hx := hsTo_succ D k
      have hdb := hD (2 + k)
      have hb4 : hsTo D k < 16777216 := by
        have := hb.2
        rcases (by omega : k = 0 ∨ k = 1 ∨ k = 2 ∨ k = 3) with rfl | rfl | rfl | rfl <;> simp at this <;> omega
      have hb0 := hb.1
      clear hb
      obtain ⟨y, hy⟩ : ∃ y, y = hsTo D (k + 1) := ⟨_, rfl⟩
      rw [← hy] at hx
      have HY := Lib.hid hy
      clear hy
      generalize gw D (2 + k) = v at *
      generalize hsTo D k = z at *
      have e1 : IntKind.i64.wrap (z * 256) = z * 256 := IntWalk.i64_in _ (by omega)
      have e2 : IntKind.i64.wrap (z * 256 + v) = y := by rw [IntWalk.i64_in _ (by omega)]; exact hx
      have e3 : IntKind.i64.wrap v = v := IntWalk.i64_in _ (by omega)
      obtain ⟨m, hm⟩ : ∃ m : Nat, m = 2 + k := ⟨_, rfl⟩
      obtain ⟨t, ht⟩ : ∃ t : Int, t = 2 + (k : Int) := ⟨_, rfl⟩
      rw [← hm] at ck
      rw [← ht]
      obtain rfl : t = (m : Int) := by omega
      have d6 : decide ((m : Int) < 6) = true := decide_eq_true (by omega)
      have hmn : m < n := by omega
      have e4 : IntKind.i64.wrap ((m : Int) + 1) = (m : Int) + 1 := IntWalk.i64_in _ (by omega)
      have HM := Lib.hid hm
      clear hm ht hx HO HB hp hv c10 hs10
      go_wp2
      go_roundw
      case rel => exact ⟨k + 1, by omega, by have := HM.out; go_num, by rw [← HY.out], by first | rfl | trivial⟩
      case measure => have := HM.out; simp [intOf]; omega
    · obtain rfl : k = 4 := by omega
      have h2 : (2 : Int) + ((4 : Nat) : Int) = 6 := rfl
      rw [h2]
      have Hv := Lib.hid hv
      clear hv hp
      generalize hsTo D 4 = s at *
      have hXd := conv10 D10 hl10 b o c wr.drew hT.out
      generalize hXX : strOfNums D10 = X at *
      have HXX := Lib.hid hXX
      have hS10 : (sgTo s 4).length = 10 := sgTo_len s 4
      generalize sgTo s 4 = S10 at *
      have hY2 := hY.out
      generalize hYY : strOfNums S10 = Y at *
      have HYY := Lib.hid hYY
      clear hXX hYY hY
      go_wp2
      cases p
      · go_region_with (first | (go_at_call 76; go_loud (refine (HO.out _).mono ?_; rintro e w' ⟨rfl, rfl⟩)) | (go_at_call 92; go_loud (refine (HB.out _).mono ?_; rintro e W1 ⟨v1, x1, rfl, hW1, hO1⟩; rw [← hW1] at hO1; have hG1 : ∃ x, W1 = gx wr x := (hW1 ▸ Gx.gx (Gx.drew (Gx.refl wr))); obtain ⟨A1, c1, hv1, -, -, -, hSS⟩ := hO1.is; subst hv1; have hHH := held_shows (n := 10) (B := S10) hS10 hSS; obtain ⟨g1, o1, hA1, hcc⟩ := heldB_cells hHH (by decide); subst hA1; have hcv := conv10 S10 hS10 g1 o1 c1 W1 hcc; rw [HYY.out] at hcv; have hcd := conv10 D10 hl10 b o c W1 (fun j hj => cell_gx_of hG1 (hT.out j hj)); rw [HXX.out] at hcd; clear hW1 hO1 hHH hSS hcc)))
        all_goals
          go_wp2
          go_ret3
          exact ⟨by rw [Hv.out]; rfl, (by repeat (first | (with_reducible exact Gx.refl _) | (with_reducible assumption) | (with_reducible refine Gx.gx ?_) | (with_reducible refine Gx.alloc ?_) | (with_reducible refine Gx.drew ?_) | (with_reducible refine Gx.drewN ?_) | (with_reducible refine Gx.setRow ?_ (by simp)) | (with_reducible refine Gx.setCell ?_ (by simp))))⟩
      · go_region_with (first | (go_at_call 76; go_loud (refine (HO.out _).mono ?_; rintro e w' ⟨rfl, rfl⟩)) | (go_at_call 92; go_loud (refine (HB.out _).mono ?_; rintro e W1 ⟨v1, x1, rfl, hW1, hO1⟩; rw [← hW1] at hO1; have hG1 : ∃ x, W1 = gx wr x := (hW1 ▸ Gx.gx (Gx.drew (Gx.refl wr))); obtain ⟨A1, c1, hv1, -, -, -, hSS⟩ := hO1.is; subst hv1; have hHH := held_shows (n := 10) (B := S10) hS10 hSS; obtain ⟨g1, o1, hA1, hcc⟩ := heldB_cells hHH (by decide); subst hA1; have hcv := conv10 S10 hS10 g1 o1 c1 W1 hcc; rw [HYY.out] at hcv; have hcd := conv10 D10 hl10 b o c W1 (fun j hj => cell_gx_of hG1 (hT.out j hj)); rw [HXX.out] at hcd; clear hW1 hO1 hHH hSS hcc)))
        all_goals
          have c10' := cell_gx_of hG1 c10
          have hn10 : 10 < n := by omega
          have hi10 : (10 : Int) < (n : Int) := by omega
          have hd10 : decide ((10 : Int) < (n : Int)) = true := decide_eq_true hi10
          go_wp2
          go_region
          go_wp2
          go_ret3
          exact ⟨by rw [Hv.out]; rfl, (by repeat (first | (with_reducible exact Gx.refl _) | (with_reducible assumption) | (with_reducible refine Gx.gx ?_) | (with_reducible refine Gx.alloc ?_) | (with_reducible refine Gx.drew ?_) | (with_reducible refine Gx.drewN ?_) | (with_reducible refine Gx.setRow ?_ (by simp)) | (with_reducible refine Gx.setCell ?_ (by simp))))⟩
end Go.Proofs.YthkccbeffonaaaaGreatDoor

/-
  RingSectorMatchesSpec: the walk.
-/
namespace Go.Proofs.YthkccbeffonaaaaGreatDoor
open Go.RowKit
-- AT2

set_option maxHeartbeats 2000000 in
set_option maxRecDepth 100000 in
theorem sectCore (A : Option Addr) (n c : Nat) (i : Int) (w : World) (hT : Tab w) (v0 : Int) (v1 v2 : Bool) (P : List Int) (m : Nat) (hP : P.length = m) (hm : m ≤ 9223372036854775807) (E G : Int) (F : List Int) (hl : F.length = 64)
    (HHG : Hid (∀ (W : World), (∃ x, W = gx w x) → Calls Tryz.prog 34 #[.slice A n c] W fun e w' => e = .returned (.tuple #[.int .i64 v0, .bool v1, .bool v2]) ∧ ∃ x, w' = gx W x)) (HHR : Hid (∀ (W : World), (∃ x, W = gx w x) → Calls Tryz.prog 35 #[.slice A n c] W fun e w' => e = .returned (.tuple #[.int .i64 v0, .bool v1, .bool v2]) ∧ ∃ x, w' = gx W x))
    (HSG : Hid (∀ (W : World), (∃ x, W = gx w x) → Calls Tryz.prog 36 #[.slice A n c] W fun e w' => ∃ A' c', e = .returned (.tuple #[.slice A' m c', .int .i64 E]) ∧ Shows (iC P) A' w' ∧ ∃ x, w' = gx W x)) (HSR : Hid (∀ (W : World), (∃ x, W = gx w x) → Calls Tryz.prog 37 #[.slice A n c] W fun e w' => ∃ A' c', e = .returned (.tuple #[.slice A' m c', .int .i64 E]) ∧ Shows (iC P) A' w' ∧ ∃ x, w' = gx W x))
    (HFG : Hid (∀ (W : World), (∃ x, W = gx w x) → Calls Tryz.prog 38 #[.slice A n c, .int .i64 i] W fun e w' => e = .returned (.tuple #[.agg (fc F), .int .i64 G]) ∧ ∃ x, w' = gx W x)) (HFR : Hid (∀ (W : World), (∃ x, W = gx w x) → Calls Tryz.prog 39 #[.slice A n c, .int .i64 i] W fun e w' => e = .returned (.tuple #[.agg (fc F), .int .i64 G]) ∧ ∃ x, w' = gx W x)) :
    Calls Tryz.prog 7 #[.slice A n c, .int .i64 i] w fun e w' => e = .returned (.bool true) ∧ ∃ x, w' = gx w x := by
  have e1 : (v0 == v0) = true := by simp
  have e2 : (v1 == v1) = true := by simp
  have e3 : (v2 == v2) = true := by simp
  have e4 : (E == E) = true := by simp
  have e5 : (G == G) = true := by simp
  have he := eqF_self F
  have HP := Lib.hid hP
  have hG0 : ∃ x, w = gx w x := Gx.refl w
  clear hP
  go_enter Tryz.func7, Tryz.ntmps7
  go_wp2_with (first | (go_at_call 34; go_loud (refine (HHG.out _ hG0).mono ?_; rintro e W1 ⟨rfl, hW1⟩; have hG1 : ∃ x, W1 = gx w x := Gx.trans hW1 hG0; clear hW1)) | (go_at_call 35; go_loud (refine (HHR.out _ hG1).mono ?_; rintro e W2 ⟨rfl, hW2⟩; have hG2 : ∃ x, W2 = gx w x := Gx.trans hW2 hG1; clear hW2)) | (go_at_call 36; go_loud (refine (HSG.out _ hG2).mono ?_; rintro e W3 ⟨A3, c3, rfl, hS3, hW3⟩; have hG3 : ∃ x, W3 = gx w x := Gx.trans hW3 hG2; have HS3 := Lib.hid hS3; clear hW3 hS3)) | (go_at_call 37; go_loud (refine (HSR.out _ hG3).mono ?_; rintro e W4 ⟨A4, c4, rfl, hS4, hW4⟩; have hG4 : ∃ x, W4 = gx w x := Gx.trans hW4 hG3; have HS4 := Lib.hid hS4; have HS3' := Lib.hid (Shows.of_gx HS3.out hW4); clear hW4 hS4)) | (go_at_call 23; go_loud (refine (EqualI_shows P m HP.out hm A3 A4 c3 c4 _ HS3'.out HS4.out).mono ?_; rintro e W5 ⟨rfl, hW5⟩; have hG5 : ∃ x, W5 = gx w x := Gx.trans hW5 hG4; clear hW5)) | (go_at_call 38; go_loud (refine (HFG.out _ hG5).mono ?_; rintro e W6 ⟨rfl, hW6⟩; have hG6 : ∃ x, W6 = gx w x := Gx.trans hW6 hG5; clear hW6)) | (go_at_call 39; go_loud (refine (HFR.out _ ?_).mono ?_; (focus (exact (by repeat (first | (with_reducible exact Gx.refl _) | (with_reducible assumption) | (with_reducible refine Gx.gx ?_) | (with_reducible refine Gx.alloc ?_) | (with_reducible refine Gx.drew ?_) | (with_reducible refine Gx.drewN ?_) | (with_reducible refine Gx.setRow ?_ (by simp)) | (with_reducible refine Gx.setCell ?_ (by simp)))))); rintro e W7 ⟨rfl, hW7⟩; have hG7 : ∃ x, W7 = gx w x := Gx.trans hW7 (by repeat (first | (with_reducible exact Gx.refl _) | (with_reducible assumption) | (with_reducible refine Gx.gx ?_) | (with_reducible refine Gx.alloc ?_) | (with_reducible refine Gx.drew ?_) | (with_reducible refine Gx.drewN ?_) | (with_reducible refine Gx.setRow ?_ (by simp)) | (with_reducible refine Gx.setCell ?_ (by simp)))); have hA7 : At W7 W6.heap.size (.cells (fc F) 57 (0, 0)) := (hW7.elim fun x hx => hx ▸ (by (focus (repeat (first | (with_reducible assumption) | (with_reducible exact At.new _ _) | (with_reducible refine At.row ?_) | (with_reducible refine At.app ?_) | (with_reducible refine At.tick ?_) | (with_reducible refine At.gx ?_) | ((with_reducible refine At.new' ?_); focus (simp; done)) | (with_reducible refine At.alloc ?_) | (with_reducible refine At.drew ?_) | (with_reducible exact Is.new _ _ _) | (with_reducible refine Is.row ?_) | (with_reducible refine Is.gx ?_) | ((with_reducible refine Is.new' ?_); focus (simp; done)) | (with_reducible refine Is.alloc ?_) | (with_reducible refine Is.drew ?_)))))); have hl7 := hA7.lt; clear hW7)) | (refine store_fr rfl _ _ rfl _ rfl _ rfl ?_ ?_ ?_ ?_ ?_; rotate_left; (focus (repeat (first | (with_reducible assumption) | (with_reducible exact At.new _ _) | (with_reducible refine At.row ?_) | (with_reducible refine At.app ?_) | (with_reducible refine At.tick ?_) | (with_reducible refine At.gx ?_) | ((with_reducible refine At.new' ?_); focus (simp; done)) | (with_reducible refine At.alloc ?_) | (with_reducible refine At.drew ?_) | (with_reducible exact Is.new _ _ _) | (with_reducible refine Is.row ?_) | (with_reducible refine Is.gx ?_) | ((with_reducible refine Is.new' ?_); focus (simp; done)) | (with_reducible refine Is.alloc ?_) | (with_reducible refine Is.drew ?_)))); (focus (with_reducible (first | exact hl | exact hl1 | exact hl2 | exact hl3 | exact hl4 | exact zeroF_len))); (focus (with_reducible (first | exact hl | exact hl1 | exact hl2 | exact hl3 | exact hl4 | exact zeroF_len)))) | (refine load_fr rfl _ rfl _ rfl ?_ ?_ ?_ ?_; rotate_left; (focus (repeat (first | (with_reducible assumption) | (with_reducible exact At.new _ _) | (with_reducible refine At.row ?_) | (with_reducible refine At.app ?_) | (with_reducible refine At.tick ?_) | (with_reducible refine At.gx ?_) | ((with_reducible refine At.new' ?_); focus (simp; done)) | (with_reducible refine At.alloc ?_) | (with_reducible refine At.drew ?_) | (with_reducible exact Is.new _ _ _) | (with_reducible refine Is.row ?_) | (with_reducible refine Is.gx ?_) | ((with_reducible refine Is.new' ?_); focus (simp; done)) | (with_reducible refine Is.alloc ?_) | (with_reducible refine Is.drew ?_)))); (focus (with_reducible (first | exact hl | exact hl1 | exact hl2 | exact hl3 | exact hl4 | exact zeroF_len)))) | (refine load_fr rfl _ rfl _ rfl ?_ ?_ ?_ ?_; rotate_left; (focus (first | exact At.alloc hA7 | exact At.row_other (At.alloc hA7) (by omega))); (focus (with_reducible (first | exact hl | exact hl1 | exact hl2 | exact hl3 | exact hl4 | exact zeroF_len)))) | (go_at_call 18; go_loud (refine (keptGuard _ (Tab.of_gx' hT (by repeat (first | (with_reducible exact Gx.refl _) | (with_reducible assumption) | (with_reducible refine Gx.gx ?_) | (with_reducible refine Gx.alloc ?_) | (with_reducible refine Gx.drew ?_) | (with_reducible refine Gx.drewN ?_) | (with_reducible refine Gx.setRow ?_ (by simp)) | (with_reducible refine Gx.setCell ?_ (by simp)))))).mono ?_; rintro e w' ⟨rfl, z4, rfl⟩)))
  go_ret
  exact ⟨rfl, (by repeat (first | (with_reducible exact Gx.refl _) | (with_reducible assumption) | (with_reducible refine Gx.gx ?_) | (with_reducible refine Gx.alloc ?_) | (with_reducible refine Gx.drew ?_) | (with_reducible refine Gx.drewN ?_) | (with_reducible refine Gx.setRow ?_ (by simp)) | (with_reducible refine Gx.setCell ?_ (by simp))))⟩
theorem headBoth (D : List Int) (hD : Bs D) (A : Option Addr) (c : Nat) (w : World) (hH : HeldB D A D.length w) (hlc : D.length ≤ c) (_hcm : c ≤ 9223372036854775807) (hm : D.length ≤ 140737488355328) : ∃ v0 v1 v2, (∀ (W : World), (∃ x, W = gx w x) → Calls Tryz.prog 34 #[.slice A D.length c] W fun e w' => e = .returned (.tuple #[.int .i64 v0, .bool v1, .bool v2]) ∧ ∃ x, w' = gx W x) ∧ (∀ (W : World), (∃ x, W = gx w x) → Calls Tryz.prog 35 #[.slice A D.length c] W fun e w' => e = .returned (.tuple #[.int .i64 v0, .bool v1, .bool v2]) ∧ ∃ x, w' = gx W x) := by
  rcases Nat.lt_or_ge D.length 16 with hn | hn
  · exact ⟨0, false, false, fun W _ => Head_no A D.length c hn W, fun W _ => RHead_no A D.length c hn W⟩
  · obtain ⟨b, o, rfl, hc⟩ := heldB_cells hH (by omega)
    have hcW : ∀ W, (∃ x, W = gx w x) → ∀ j, j < 16 → W.cell? ⟨b, o + j, none⟩ = some (.int .u8 (gw D j)) := fun W hW j hj => cell_gx_of hW (hc j (by omega))
    by_cases hs : hsTo D 4 < 1 ∨ 1073741824 < hsTo D 4
    · exact ⟨0, false, false, fun W hW => Head_off D hD b o D.length c hn W (hcW W hW) hs, fun W hW => RHead_off D hD b o D.length c hn W (hcW W hW) hs⟩
    · obtain ⟨v, hv⟩ : ∃ v : Int × Bool × Bool, v = if eqT (D.take 10) (sgTo (hsTo D 4) 4) then (hsTo D 4, !(gw D 10 == 255), true) else (0, false, false) := ⟨_, rfl⟩
      have hl10 : (D.take 10).length = 10 := by rw [List.length_take]; omega
      have h10 : ∀ j, j < 10 → gw (D.take 10) j = gw D j := fun j hj => by
        unfold gw
        simp [List.getD, hj]
      exact ⟨v.1, v.2.1, v.2.2, fun W hW => Head_in D hD b o D.length c hn W (hcW W hW) (by omega) (by omega) _ hl10 h10 _ rfl v hv, fun W hW => RHead_in D hD b o D.length c hn hlc W (hcW W hW) (by omega) (by omega) _ hl10 h10 _ rfl v hv⟩
theorem statesBoth (D : List Int) (_hD : Bs D) (A : Option Addr) (c : Nat) (w : World) (hH : HeldB D A D.length w) (hlc : D.length ≤ c) (hcm : c ≤ 9223372036854775807) (hm : D.length ≤ 140737488355328) : ∃ (P : List Int) (m : Nat) (E : Int), P.length = m ∧ m ≤ 9223372036854775807 ∧ (∀ (W : World), (∃ x, W = gx w x) → Calls Tryz.prog 36 #[.slice A D.length c] W fun e w' => ∃ A' c', e = .returned (.tuple #[.slice A' m c', .int .i64 E]) ∧ Shows (iC P) A' w' ∧ ∃ x, w' = gx W x) ∧ (∀ (W : World), (∃ x, W = gx w x) → Calls Tryz.prog 37 #[.slice A D.length c] W fun e w' => ∃ A' c', e = .returned (.tuple #[.slice A' m c', .int .i64 E]) ∧ Shows (iC P) A' w' ∧ ∃ x, w' = gx W x) := by
  by_cases h : ∃ k : Nat, 1 ≤ k ∧ D.length = 16 + 97 * k
  · obtain ⟨k, hk, hn⟩ := h
    obtain ⟨b, o, rfl, hc⟩ := heldB_cells hH (by omega)
    have hk' : k ≤ 1450902972736 := by omega
    refine ⟨sL D k, k, 0, sL_len D k, by omega, fun W hW => ?_, fun W hW => ?_⟩
    · refine (States_w D b o D.length c k hn hlc hcm hk hk' W (fun j hj => cell_gx_of hW (hc j hj))).mono ?_
      rintro e w' ⟨g, x, rfl, rfl, hg, hA⟩
      rw [sL_is] at hA
      exact ⟨_, _, rfl, Shows.whole (xs := iC (sL D k)) hA, _, rfl⟩
    · refine (RStates_ok D b o D.length c k hn hlc hk hk' W (fun j hj => cell_gx_of hW (hc j hj))).mono ?_
      rintro e w' ⟨v, x, rfl, rfl, hO⟩
      obtain ⟨A', c', rfl, -, -, -, hS⟩ := hO.is
      exact ⟨_, _, rfl, hS, _, rfl⟩
  · have hno : NoSlots D.length := fun k hk hn => h ⟨k, hk, hn⟩
    refine ⟨[], 0, 3, rfl, by omega, fun W hW => ?_, fun W hW => ?_⟩
    · refine (States_bad A D.length c hm hno W).mono ?_
      rintro e w' ⟨rfl, hx⟩
      exact ⟨_, _, rfl, by unfold Shows; intro h0; simp [iC] at h0, hx⟩
    · refine (RStates_bad A D.length c hm hno W).mono ?_
      rintro e w' ⟨rfl, hx⟩
      exact ⟨_, _, rfl, by unfold Shows; intro h0; simp [iC] at h0, hx⟩
theorem slotBoth (D : List Int) (hD : Bs D) (A : Option Addr) (c : Nat) (w : World) (hH : HeldB D A D.length w) (hlc : D.length ≤ c) (hcm : c ≤ 9223372036854775807) (hm : D.length ≤ 140737488355328) (i : Int) : ∃ (F : List Int) (G : Int), F.length = 64 ∧ (∀ (W : World), (∃ x, W = gx w x) → Calls Tryz.prog 38 #[.slice A D.length c, .int .i64 i] W fun e w' => e = .returned (.tuple #[.agg (fc F), .int .i64 G]) ∧ ∃ x, w' = gx W x) ∧ (∀ (W : World), (∃ x, W = gx w x) → Calls Tryz.prog 39 #[.slice A D.length c, .int .i64 i] W fun e w' => e = .returned (.tuple #[.agg (fc F), .int .i64 G]) ∧ ∃ x, w' = gx W x) := by
  by_cases h : ∃ k : Nat, 1 ≤ k ∧ D.length = 16 + 97 * k
  · obtain ⟨k, hk, hn⟩ := h
    obtain ⟨b, o, rfl, hc⟩ := heldB_cells hH (by omega)
    have hk' : k ≤ 1450902972736 := by omega
    by_cases hi : i < 0 ∨ (k : Int) ≤ i
    · exact ⟨zeroF, 9, zeroF_len, fun W _ => SlotFrame_out _ D.length c k i hn hk hk' hi W, fun W _ => RSlotFrame_out _ D.length c k i hn hk hk' hi W⟩
    · obtain ⟨j, rfl⟩ : ∃ j : Nat, i = j := ⟨i.toNat, by omega⟩
      exact ⟨rdF (D.drop (16 + 97 * j)), 0, rdF_len _, fun W hW => SlotFrame_w D hD b o D.length c k j hn hlc hcm hk hk' (by omega) W (fun q hq => cell_gx_of hW (hc q hq)), fun W hW => RSlotFrame_w D hD b o D.length c k j hn hlc hk hk' (by omega) W (fun q hq => cell_gx_of hW (hc q hq))⟩
  · have hno : NoSlots D.length := fun k hk hn => h ⟨k, hk, hn⟩
    exact ⟨zeroF, 3, zeroF_len, fun W _ => SlotFrame_bad A D.length c i hm hno W, fun W _ => RSlotFrame_bad A D.length c i hm hno W⟩
theorem sectLaw (D : List Int) (hD : Bs D) (A : Option Addr) (c : Nat) (w : World) (hH : HeldB D A D.length w) (hlc : D.length ≤ c) (hcm : c ≤ 9223372036854775807) (hm : D.length ≤ 140737488355328) (i : Int) (hT : Tab w) :
    Calls Tryz.prog 7 #[.slice A D.length c, .int .i64 i] w fun e w' => e = .returned (.bool true) ∧ ∃ x, w' = gx w x := by
  obtain ⟨v0, v1, v2, h1, h2⟩ := headBoth D hD A c w hH hlc hcm hm
  obtain ⟨P, m, E, hP, hm9, h3, h4⟩ := statesBoth D hD A c w hH hlc hcm hm
  obtain ⟨F, G, hl, h5, h6⟩ := slotBoth D hD A c w hH hlc hcm hm i
  exact sectCore A D.length c i w hT v0 v1 v2 P m hP hm9 E G F hl (Lib.hid h1) (Lib.hid h2) (Lib.hid h3) (Lib.hid h4) (Lib.hid h5) (Lib.hid h6)
end Go.Proofs.YthkccbeffonaaaaGreatDoor
