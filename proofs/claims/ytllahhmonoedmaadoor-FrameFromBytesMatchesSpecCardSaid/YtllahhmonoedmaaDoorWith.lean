/-
  The reference's helpers for writing: Place, with.
-/
import Derived.Test.YtllahhmonoedmaaDoorInside
namespace Go.Proofs.YtllahhmonoedmaaDoor
open Go.RowKit
-- AT2

set_option maxHeartbeats 400000 in
theorem Place_any (A : Option Addr) (n c : Nat) (at_ k : Int) (hm : n ≤ 9223372036854775807) (ha : at_ ≤ 9223372036854775807) (hk : 0 ≤ k) (w : World) :
    Calls Tryd.prog 108 #[.slice A n c, .int .i64 at_, .int .i64 k] w fun e w' => e = .returned (.int .i64 (placeE n at_ k)) ∧ w = w' := by
  have hp : placeE n at_ k = if at_ < 0 then 9 else if (n : Int) - at_ < k then 3 else 0 := rfl
  have Hp := Lib.hid hp
  clear hp
  by_cases h0 : at_ < 0
  · go_enter Tryd.func108, Tryd.ntmps108
    go_wp2
    go_ret
    exact ⟨by rw [Hp.out, if_pos h0]; rfl, rfl⟩
  · by_cases h2 : (n : Int) < at_
    · have h1 : (n : Int) - at_ < k := by omega
      go_enter Tryd.func108, Tryd.ntmps108
      go_wp2
      go_ret
      exact ⟨by rw [Hp.out, if_neg (by omega), if_pos h1]; rfl, rfl⟩
    · by_cases h1 : (n : Int) - at_ < k
      · go_enter Tryd.func108, Tryd.ntmps108
        go_wp2
        go_ret
        exact ⟨by rw [Hp.out, if_neg (by omega), if_pos h1]; rfl, rfl⟩
      · go_enter Tryd.func108, Tryd.ntmps108
        go_wp2
        go_ret
        exact ⟨by rw [Hp.out, if_neg (by omega), if_neg (by omega)]; rfl, rfl⟩

theorem size1 : (Tryd.prog.info? 5).map (·.size) = some 1 := by
  obtain ⟨i, h1, h2, _⟩ := infoByte0
  simp [h1, h2]
set_option maxRecDepth 100000 in
/-- Bytes copied into the call's own memory. -/
theorem copy_own {ops : Array Oper} {rest : List Oper} {o : Oper} {a : Act} {Q : Exit → Act → World → Prop} {W : World} (w : World) (C L : List Int) (g q dn dc : Nat) (A : Option Addr) (c' : Nat) (hg : o.guard = none) (s x : Operand)
    (hop : o.op = Op.call { callee := Callee.builtin Builtin.copy, args := #[s, x], argTypes := #[61, 61] }) (hs : a.eval s = .slice (some ⟨g, q, none⟩) dn dc) (hx : a.eval x = .slice A L.length c')
    (hA : At W g (.cells (bc C) 5 (0, 0))) (hW : ∃ x, W = gx w x) (hgw : w.heap.size ≤ g) (hd : L.length ≤ dn) (hC : q + L.length ≤ C.length) (h0 : 0 < L.length) (hH : HeldB L A L.length W)
    (h : ∀ W', (∃ x, W' = gx w x) → At W' g (.cells (bc (putAt C q L)) 5 (0, 0)) → wpList Tryd.prog ops Q rest (a.put o.dst (.int .i64 L.length)) W') :
    wpList Tryd.prog ops Q (o :: rest) a W := by
  refine wpList_plain hg fun K hK => ?_
  unfold HeldB at hH
  obtain ⟨b, off, rfl, hc⟩ := hH h0
  have hrun := run_copy_cells (P := Tryd.prog) W 61 61 o.type 5 g q dn dc ⟨b, off, none⟩ L.length c' (L.map (Value.int .u8)) Tryd.underlying61 size1 (by simp [Nat.min_eq_left hd]) (fun j v hj => by
      rw [List.getElem?_map] at hj
      obtain ⟨y, hy1, rfl⟩ := Option.map_eq_some_iff.1 hj
      obtain ⟨hj', e⟩ := List.getElem?_eq_some_iff.1 hy1
      rw [Addr.add_lit, hc j hj', ← e]
      simp [gw, List.getD, hj']) (fun j hj => by
      rw [List.length_map] at hj
      rw [cell_of_row W g _ _ _ _ hA, bc_get C _ (by omega)]; rfl) (fun j hj => frozen_of_row _ g _ _ _ hA) (fun u hu => by
      obtain ⟨y, _, rfl⟩ := List.mem_map.1 hu
      rfl)
  rw [setCells_row g L C q W hA] at hrun
  unfold Oper.wp
  simp [execOp, hop, resolve, invoke, builtin, hs, hx, hrun, Result.andThen, goInt]
  obtain ⟨y, rfl⟩ := hW
  exact hK _ _ (h _ (gx_row hgw) (At.row ⟨_, hA⟩))

/-- What with gives. -/
structure With (M L : List Int) (q : Nat) (C : List Int) : Prop where
  len : M.length ≤ C.length
  max : C.length ≤ maxLen
  at_ : ∀ j, j < M.length → gw C j = gw (putAt M q L) j

theorem nil_bs : Bs [] := lit_bs _ (by decide)
theorem with_key {M L C : List Int} {q : Nat} (h : q + L.length ≤ M.length) (hl : M.length ≤ C.length) (hm : C.length ≤ maxLen) (hC : ∀ j, j < M.length → gw C j = gw M j) : With M L q (putAt C q L) :=
  ⟨by rw [putAt_len]; exact hl, by rw [putAt_len]; exact hm, fun j hj => by
    rw [gw_putAt L C q j (by omega), gw_putAt L M q j h, hC j hj]⟩

set_option maxHeartbeats 1000000 in
set_option maxRecDepth 100000 in
theorem with_any (M L : List Int) (hM : Bs M) (q : Nat) (h : q + L.length ≤ M.length) (h0 : 0 < L.length) (A A' : Option Addr) (c c' : Nat) (w : World) (hH : HeldB M A M.length w) (hH' : HeldB L A' L.length w) (hm : M.length ≤ 140737488355328) :
    Calls Tryd.prog 112 #[.slice A M.length c, .int .i64 q, .slice A' L.length c'] w fun e w' => ∃ g C x, e = .returned (.slice (some ⟨g, 0, none⟩) M.length C.length) ∧
      w' = gx w x ∧ w.heap.size ≤ g ∧ At (gx w x) g (.cells (bc C) 5 (0, 0)) ∧ With M L q C := by
  go_enter Tryd.func112, Tryd.ntmps112
  go_wp2_with (first | (refine append_own w [] M _ 0 A c rfl _ _ rfl rfl rfl rfl ?_ ?_ ?_ (by decide) (by decide) nil_bs hM ?_ (by omega) ?_; (focus (exact At.new w (.cells #[] 5))); exact (by repeat (first | (with_reducible exact Gx.refl _) | (with_reducible assumption) | (with_reducible refine Gx.gx ?_) | (with_reducible refine Gx.alloc ?_) | (with_reducible refine Gx.drew ?_) | (with_reducible refine Gx.drewN ?_) | (with_reducible refine Gx.setRow ?_ (by simp)) | (with_reducible refine Gx.setCell ?_ (by simp)))); (focus (simp)); (focus (repeat (first | (with_reducible assumption) | (with_reducible refine HeldB.gx ?_) | (with_reducible refine HeldB.alloc ?_) | (with_reducible refine HeldB.drew ?_)))); rintro g1 C1 W1 ⟨x1, rfl⟩ hg1 hA1 hl1 hm1 hb1 hp1 hq1) | (refine copy_own w C1 L g1 q (M.length - q) (C1.length - q) A' c' rfl _ _ rfl rfl rfl hA1 (by repeat (first | (with_reducible exact Gx.refl _) | (with_reducible assumption) | (with_reducible refine Gx.gx ?_) | (with_reducible refine Gx.alloc ?_) | (with_reducible refine Gx.drew ?_) | (with_reducible refine Gx.drewN ?_) | (with_reducible refine Gx.setRow ?_ (by simp)) | (with_reducible refine Gx.setCell ?_ (by simp)))) hg1 (by omega) (by omega) h0 ?_ ?_; (focus (repeat (first | (with_reducible assumption) | (with_reducible refine HeldB.gx ?_) | (with_reducible refine HeldB.alloc ?_) | (with_reducible refine HeldB.drew ?_)))); rintro W2 ⟨x2, rfl⟩ hA2))
  have hl1' : M.length ≤ C1.length := by omega
  go_ret
  exact ⟨g1, _, _, by rw [putAt_len]; rfl, rfl, hg1, hA2, with_key h hl1' hm1 fun j hj => by have := hq1 j hj; rwa [Nat.zero_add] at this⟩

theorem with_pack (M : List Int) (hM : Bs M) (F : List Int) (q : Nat) (h : q + 96 ≤ M.length) (A A' : Option Addr) (c c' : Nat) (w : World) (hH : HeldB M A M.length w) (hH' : HeldB (packF F) A' 96 w) (hm : M.length ≤ 140737488355328) :
    Calls Tryd.prog 112 #[.slice A M.length c, .int .i64 q, .slice A' 96 c'] w fun e w' => ∃ g C x, e = .returned (.slice (some ⟨g, 0, none⟩) M.length C.length) ∧
      w' = gx w x ∧ w.heap.size ≤ g ∧ At (gx w x) g (.cells (bc C) 5 (0, 0)) ∧ With M (packF F) q C := by
  have := with_any M (packF F) hM q (by rw [packF_len]; exact h) (by rw [packF_len]; decide) A A' c c' w hH (by rw [packF_len]; exact hH') hm
  rw [packF_len] at this
  exact this

set_option maxHeartbeats 600000 in
set_option maxRecDepth 100000 in
theorem RPut_bad (A : Option Addr) (n c : Nat) (at_ : Int) (F : List Int) (hm : n ≤ 9223372036854775807) (ha : at_ ≤ 9223372036854775807) (w : World) (E : Int) (he : placeE n at_ 96 = E) (hE : E ≠ 0) :
    Calls Tryd.prog 62 #[.slice A n c, .int .i64 at_, .agg (fc F)] w fun e w' => e = .returned (.tuple #[.slice A n c, .int .i64 E]) ∧ ∃ x, w' = gx w x := by
  have hb : (E != 0) = true := by rw [bne_iff_ne]; exact hE
  clear hE
  go_enter Tryd.func62, Tryd.ntmps62
  go_wp2_with (go_at_call 108; refine (Place_any A n c at_ 96 hm ha (by decide) _).mono ?_; rintro e w' ⟨rfl, rfl⟩)
  go_ret2
  exact ⟨rfl, (by repeat (first | (with_reducible exact Gx.refl _) | (with_reducible assumption) | (with_reducible refine Gx.gx ?_) | (with_reducible refine Gx.alloc ?_) | (with_reducible refine Gx.drew ?_) | (with_reducible refine Gx.drewN ?_) | (with_reducible refine Gx.setRow ?_ (by simp)) | (with_reducible refine Gx.setCell ?_ (by simp))))⟩

set_option maxHeartbeats 600000 in
set_option maxRecDepth 100000 in
theorem RPut_wide (A : Option Addr) (n c q : Nat) (F : List Int) (hF : Fr F) (hw : wideB F = true) (hm : n ≤ 9223372036854775807) (h : q + 96 ≤ n) (w : World) :
    Calls Tryd.prog 62 #[.slice A n c, .int .i64 q, .agg (fc F)] w fun e w' => e = .returned (.tuple #[.slice A n c, .int .i64 9]) ∧ ∃ x, w' = gx w x := by
  have hl := hF.len
  have he : placeE n q 96 = 0 := by unfold placeE; rw [if_neg (by omega), if_neg (by omega)]
  go_enter Tryd.func62, Tryd.ntmps62
  go_wp2_with (first | (refine load_fr rfl _ rfl _ rfl ?_ ?_ ?_ ?_; rotate_left; (focus (repeat (first | (with_reducible assumption) | (with_reducible exact At.new _ _) | (with_reducible refine At.row ?_) | (with_reducible refine At.app ?_) | (with_reducible refine At.tick ?_) | (with_reducible refine At.gx ?_) | ((with_reducible refine At.new' ?_); focus (simp; done)) | (with_reducible refine At.alloc ?_) | (with_reducible refine At.drew ?_) | (with_reducible exact Is.new _ _ _) | (with_reducible refine Is.row ?_) | (with_reducible refine Is.gx ?_) | ((with_reducible refine Is.new' ?_); focus (simp; done)) | (with_reducible refine Is.alloc ?_) | (with_reducible refine Is.drew ?_)))); (focus (with_reducible (first | exact hl | exact hl1 | exact hl2 | exact hl3 | exact hl4 | exact zeroF_len)))) | (go_at_call 108; refine (Place_any A n c q 96 hm (by omega) (by decide) _).mono ?_; rintro e w' ⟨rfl, rfl⟩) | (go_at_call 96; refine (Wide_any F hF _).mono ?_; rintro e w' ⟨rfl, z, rfl⟩))
  go_ret2
  exact ⟨rfl, (by repeat (first | (with_reducible exact Gx.refl _) | (with_reducible assumption) | (with_reducible refine Gx.gx ?_) | (with_reducible refine Gx.alloc ?_) | (with_reducible refine Gx.drew ?_) | (with_reducible refine Gx.drewN ?_) | (with_reducible refine Gx.setRow ?_ (by simp)) | (with_reducible refine Gx.setCell ?_ (by simp))))⟩

set_option maxHeartbeats 600000 in
set_option maxRecDepth 100000 in
theorem RPut_good (M : List Int) (hM : Bs M) (A : Option Addr) (c q : Nat) (F : List Int) (hF : Fr F) (hw : wideB F = false) (h : q + 96 ≤ M.length) (w : World) (hH : HeldB M A M.length w) (hm : M.length ≤ 140737488355328) :
    Calls Tryd.prog 62 #[.slice A M.length c, .int .i64 q, .agg (fc F)] w fun e w' => ∃ g C x, e = .returned (.tuple #[.slice (some ⟨g, 0, none⟩) M.length C.length, .int .i64 0]) ∧
      w' = gx w x ∧ w.heap.size ≤ g ∧ At (gx w x) g (.cells (bc C) 5 (0, 0)) ∧ With M (packF F) q C := by
  have hl := hF.len
  have hn := wideB_false.1 hw
  have he : placeE M.length q 96 = 0 := by unfold placeE; rw [if_neg (by omega), if_neg (by omega)]
  have key : ∀ W g C, (∃ x, W = gx w x) → w.heap.size ≤ g → At W g (.cells (bc C) 5 (0, 0)) → With M (packF F) q C → ∃ g' C' x, Ending.returned (.tuple #[.slice (some ⟨g, 0, none⟩) M.length C.length, .int .i64 0]) = .returned (.tuple #[.slice (some ⟨g', 0, none⟩) M.length C'.length, .int .i64 0]) ∧
      W = gx w x ∧ w.heap.size ≤ g' ∧ At (gx w x) g' (.cells (bc C') 5 (0, 0)) ∧ With M (packF F) q C' := fun W g C ⟨x, h⟩ h1 hA h2 => ⟨g, C, x, rfl, h, h1, h ▸ hA, h2⟩
  have Key := Lib.hid key
  clear key
  go_enter Tryd.func62, Tryd.ntmps62
  go_wp2_with (first | (refine load_fr rfl _ rfl _ rfl ?_ ?_ ?_ ?_; rotate_left; (focus (repeat (first | (with_reducible assumption) | (with_reducible exact At.new _ _) | (with_reducible refine At.row ?_) | (with_reducible refine At.app ?_) | (with_reducible refine At.tick ?_) | (with_reducible refine At.gx ?_) | ((with_reducible refine At.new' ?_); focus (simp; done)) | (with_reducible refine At.alloc ?_) | (with_reducible refine At.drew ?_) | (with_reducible exact Is.new _ _ _) | (with_reducible refine Is.row ?_) | (with_reducible refine Is.gx ?_) | ((with_reducible refine Is.new' ?_); focus (simp; done)) | (with_reducible refine Is.alloc ?_) | (with_reducible refine Is.drew ?_)))); (focus (with_reducible (first | exact hl | exact hl1 | exact hl2 | exact hl3 | exact hl4 | exact zeroF_len)))) | (go_at_call 108; refine (Place_any A M.length c q 96 (by omega) (by omega) (by decide) _).mono ?_; rintro e w' ⟨rfl, rfl⟩) | (go_at_call 96; refine (Wide_any F hF _).mono ?_; rintro e w' ⟨rfl, z, rfl⟩) | (go_at_call 104; refine (bytes_any F hF hn _).mono ?_; rintro e w' ⟨g, z, rfl, rfl, hA⟩; (try simp only [gx_gx] at hA)) | (go_at_call 112; refine (with_pack M hM F q h A _ _ _ _ ?_ (HeldB.of_at (B := packF F) ?_ (by rw [packF_len]; decide)) hm).mono ?_; (focus (repeat (first | (with_reducible assumption) | (with_reducible refine HeldB.gx ?_) | (with_reducible refine HeldB.alloc ?_) | (with_reducible refine HeldB.drew ?_)))); (focus (repeat (first | (with_reducible assumption) | (with_reducible exact At.new _ _) | (with_reducible refine At.row ?_) | (with_reducible refine At.app ?_) | (with_reducible refine At.tick ?_) | (with_reducible refine At.gx ?_) | ((with_reducible refine At.new' ?_); focus (simp; done)) | (with_reducible refine At.alloc ?_) | (with_reducible refine At.drew ?_) | (with_reducible exact Is.new _ _ _) | (with_reducible refine Is.row ?_) | (with_reducible refine Is.gx ?_) | ((with_reducible refine Is.new' ?_); focus (simp; done)) | (with_reducible refine Is.alloc ?_) | (with_reducible refine Is.drew ?_)))); rintro e w' ⟨g2, C2, z2, rfl, rfl, hg2, hA2, hw2⟩; (try simp only [gx_gx] at hA2)))
  go_ret2
  exact Key.out _ _ _ (by repeat (first | (with_reducible exact Gx.refl _) | (with_reducible assumption) | (with_reducible refine Gx.gx ?_) | (with_reducible refine Gx.alloc ?_) | (with_reducible refine Gx.drew ?_) | (with_reducible refine Gx.drewN ?_) | (with_reducible refine Gx.setRow ?_ (by simp)) | (with_reducible refine Gx.setCell ?_ (by simp)))) (by simp at hg2; omega) (by (focus (repeat (first | (with_reducible assumption) | (with_reducible exact At.new _ _) | (with_reducible refine At.row ?_) | (with_reducible refine At.app ?_) | (with_reducible refine At.tick ?_) | (with_reducible refine At.gx ?_) | ((with_reducible refine At.new' ?_); focus (simp; done)) | (with_reducible refine At.alloc ?_) | (with_reducible refine At.drew ?_) | (with_reducible exact Is.new _ _ _) | (with_reducible refine Is.row ?_) | (with_reducible refine Is.gx ?_) | ((with_reducible refine Is.new' ?_); focus (simp; done)) | (with_reducible refine Is.alloc ?_) | (with_reducible refine Is.drew ?_))))) hw2
end Go.Proofs.YtllahhmonoedmaaDoor
