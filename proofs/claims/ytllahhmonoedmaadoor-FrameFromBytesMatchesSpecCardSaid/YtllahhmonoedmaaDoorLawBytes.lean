/-
  FrameBytesRoundTrip: the walk.
-/
import Derived.Test.YtllahhmonoedmaaDoorToBytes
import Derived.ArgAppend
namespace Go.Proofs.YtllahhmonoedmaaDoor
open Go.RowKit
-- AT2

theorem FromBytes_any (B : List Int) (hB : Bs B) (b n c : Nat) (hnc : n ≤ c) (hcm : c ≤ 9223372036854775807) (h : 96 ≤ n) (w : World) (hH : HeldB B (some ⟨b, 0, none⟩) 96 w) :
    Calls Tryd.prog 47 #[.slice (some ⟨b, 0, none⟩) n c] w fun e w' => e = .returned (.tuple #[.agg (fc (rdF B)), .int .i64 0]) ∧ ∃ x, w' = gx w x := by
  have hl := zeroF_len
  have hl1 := rdF_len B
  unfold HeldB at hH
  obtain ⟨b', o', e, hc⟩ := hH (by omega)
  obtain ⟨rfl, rfl⟩ : b' = b ∧ o' = 0 := by simpa using (Option.some.inj e).symm
  have hg : ∀ w, (∀ j, j < 96 → w.cell? ⟨b', 0 + j, none⟩ = some (.int .u8 (gw B j))) → Calls Tryd.prog 50 #[.slice (some ⟨b', 0, none⟩) n c, .int .i64 0] w fun e w' => e = .returned (.tuple #[.agg (fc (rdF B)), .int .i64 0]) ∧ ∃ x, w' = gx w x := fun w hc =>
    Get_good B hB b' 0 n c 0 (by omega) hnc hcm (by omega) w hc
  have Hg := Lib.hid hg
  have hc' := Lib.hid hc
  clear hc hg
  go_enter Tryd.func47, Tryd.ntmps47
  go_wp2_with (first | (refine load_fr rfl _ rfl _ rfl ?_ ?_ ?_ ?_; rotate_left; (focus (repeat (first | (with_reducible assumption) | (with_reducible exact At.new _ _) | (with_reducible refine At.row ?_) | (with_reducible refine At.app ?_) | (with_reducible refine At.tick ?_) | (with_reducible refine At.gx ?_) | ((with_reducible refine At.new' ?_); focus (simp; done)) | (with_reducible refine At.alloc ?_) | (with_reducible refine At.drew ?_) | (with_reducible exact Is.new _ _ _) | (with_reducible refine Is.row ?_) | (with_reducible refine Is.gx ?_) | ((with_reducible refine Is.new' ?_); focus (simp; done)) | (with_reducible refine Is.alloc ?_) | (with_reducible refine Is.drew ?_)))); (focus (with_reducible (first | exact hl | exact hl1 | exact hl2 | exact hl3 | exact hl4 | exact zeroF_len)))) | (refine store_fr rfl _ _ rfl _ rfl _ rfl ?_ ?_ ?_ ?_ ?_; rotate_left; (focus (repeat (first | (with_reducible assumption) | (with_reducible exact At.new _ _) | (with_reducible refine At.row ?_) | (with_reducible refine At.app ?_) | (with_reducible refine At.tick ?_) | (with_reducible refine At.gx ?_) | ((with_reducible refine At.new' ?_); focus (simp; done)) | (with_reducible refine At.alloc ?_) | (with_reducible refine At.drew ?_) | (with_reducible exact Is.new _ _ _) | (with_reducible refine Is.row ?_) | (with_reducible refine Is.gx ?_) | ((with_reducible refine Is.new' ?_); focus (simp; done)) | (with_reducible refine Is.alloc ?_) | (with_reducible refine Is.drew ?_)))); (focus (with_reducible (first | exact hl | exact hl1 | exact hl2 | exact hl3 | exact hl4 | exact zeroF_len))); (focus (with_reducible (first | exact hl | exact hl1 | exact hl2 | exact hl3 | exact hl4 | exact zeroF_len)))) | (go_at_call 50; refine (Hg.out _ ?_).mono ?_; (focus (intro j hj; repeat (first | (with_reducible exact hc'.out j hj) | (with_reducible refine cell_keep_gx ?_) | (with_reducible refine cell_keep_alloc ?_)))); rintro e w' ⟨rfl, z, rfl⟩))
  (refine ret_fr_tmp rfl _ _ _ ?_ rfl rfl ?_ ?_ ?_; rotate_left; (focus (repeat (first | (with_reducible assumption) | (with_reducible exact At.new _ _) | (with_reducible refine At.row ?_) | (with_reducible refine At.app ?_) | (with_reducible refine At.tick ?_) | (with_reducible refine At.gx ?_) | ((with_reducible refine At.new' ?_); focus (simp; done)) | (with_reducible refine At.alloc ?_) | (with_reducible refine At.drew ?_) | (with_reducible exact Is.new _ _ _) | (with_reducible refine Is.row ?_) | (with_reducible refine Is.gx ?_) | ((with_reducible refine Is.new' ?_); focus (simp; done)) | (with_reducible refine Is.alloc ?_) | (with_reducible refine Is.drew ?_)))); (focus (with_reducible (first | exact hl | exact hl1 | exact hl2 | exact hl3 | exact hl4 | exact zeroF_len))))
  exact ⟨rfl, (by repeat (first | (with_reducible exact Gx.refl _) | (with_reducible assumption) | (with_reducible refine Gx.gx ?_) | (with_reducible refine Gx.alloc ?_) | (with_reducible refine Gx.drew ?_) | (with_reducible refine Gx.drewN ?_) | (with_reducible refine Gx.setRow ?_ (by simp)) | (with_reducible refine Gx.setCell ?_ (by simp))))⟩

theorem infoByte : ∃ i z, Tryd.prog.info? 5 = some i ∧ i.size = 1 ∧ i.bytes = 1 ∧ i.zero = some z ∧ z.cells.size = 1 := by
  have h : (Tryd.prog.info? 5).map (fun i => (i.size, i.bytes, i.zero.map fun z => z.cells.size)) = some (1, 1, some 1) := by kernel_rfl
  obtain ⟨i, h1, h2⟩ := Option.map_eq_some_iff.1 h
  simp only [Prod.mk.injEq] at h2
  obtain ⟨z, h3, h4⟩ := Option.map_eq_some_iff.1 h2.2.2
  exact ⟨i, z, h1, h2.1, h2.2.1, h3, h4⟩

theorem append_zero (g : Nat) (A : Option Addr) (n c c' : Nat) (hc : n ≤ c) (w : World) :
    (Builtin.append_ #[61, 61] 61 #[.slice (some ⟨g, 0, none⟩) n c, .slice A 0 c']).run Tryd.prog w = .ok (.slice (some ⟨g, 0, none⟩) n c) w := by
  obtain ⟨i, z, h1, h2, h3, h4, h5⟩ := infoByte
  cases A with
  | none => simp [Builtin.append_, run_underlying Tryd.underlying61, sizeOf, typeInfo, h1, Builtin.lenOf, hc, run_firstCells_none, storeCells]
  | some a =>
    have hf := run_firstCells_some (P := Tryd.prog) w i.size 0 a 0 c' [] (by simp) (by simp)
    simp [Builtin.append_, run_underlying Tryd.underlying61, sizeOf, typeInfo, h1, Builtin.lenOf, hc, hf, storeCells]

/-- Bytes appended to a full slice of the call's own. -/
theorem append_more {ops : Array Oper} {rest : List Oper} {o : Oper} {a : Act} {Q : Exit → Act → World → Prop} {w : World} (B M : List Int) (g : Nat) (A : Option Addr) (c : Nat) (hg : o.guard = none) (s x : Operand)
    (hop : o.op = Op.call { callee := Callee.builtin Builtin.append, args := #[s, x], argTypes := #[61, 61] }) (hty : o.type = 61) (hs : a.eval s = .slice (some ⟨g, 0, none⟩) 96 96) (hx : a.eval x = .slice A M.length c)
    (hB : B.length = 96) (hA : At w g (.cells (bc B) 5 (0, 0))) (hH : HeldB M A M.length w) (hm : 96 + M.length ≤ 140737488355328)
    (h : ∀ b' cap w', (∃ x, w' = gx w x) → 96 + M.length ≤ cap → cap ≤ maxLen → HeldB B (some ⟨b', 0, none⟩) 96 w' → wpList Tryd.prog ops Q rest (a.put o.dst (.slice (some ⟨b', 0, none⟩) (96 + M.length) cap)) w') :
    wpList Tryd.prog ops Q (o :: rest) a w := by
  have hHB := HeldB.of_at hA (show 96 ≤ B.length by omega)
  refine wpList_plain hg fun K hK => ?_
  by_cases h0 : M.length = 0
  · have hrun := append_zero g A 96 96 c (Nat.le_refl _) w
    unfold Oper.wp
    rw [h0] at hx h
    simp [execOp, hop, resolve, invoke, builtin, hs, hx, hty, hrun, Result.andThen]
    exact hK _ _ (h g 96 w (Gx.refl w) (by omega) (by decide) hHB)
  · unfold HeldB at hH
    obtain ⟨b, off, rfl, hc⟩ := hH (by omega)
    obtain ⟨i, z, h1, h2, h3, h4, h5⟩ := infoByte
    have hrun := run_append_grow (P := Tryd.prog) w 61 61 5 i z Tryd.underlying61 h1 h4 ⟨g, 0, none⟩ 96 96 (B.map (Value.int .u8)) (by simp [hB, h2]) (fun j v hj => by
        rw [List.getElem?_map] at hj
        obtain ⟨y, hy1, rfl⟩ := Option.map_eq_some_iff.1 hj
        obtain ⟨hj', e⟩ := List.getElem?_eq_some_iff.1 hy1
        rw [Addr.add_lit, Nat.zero_add, cell_of_row w g j _ _ _ hA, bc_get B j hj', ← e]
        simp [gw, List.getD, hj']) ⟨b, off, none⟩ M.length c (M.map (Value.int .u8)) (by simp [h2]) (fun j v hj => by
        rw [List.getElem?_map] at hj
        obtain ⟨y, hy1, rfl⟩ := Option.map_eq_some_iff.1 hj
        obtain ⟨hj', e⟩ := List.getElem?_eq_some_iff.1 hy1
        rw [Addr.add_lit, hc j hj', ← e]
        simp [gw, List.getD, hj']) (by omega) (by omega) (growslice_fits (by omega) (by rw [h3]; omega))
    have hge := grownCap_ge w (96 + M.length) 96 5
    have hle : grownCap w (96 + M.length) 96 5 ≤ maxLen := grownCap_le_maxLen w _ _ _ (by simp only [maxLen]; omega)
    unfold Oper.wp
    simp [execOp, hop, resolve, invoke, builtin, hs, hx, hty, hrun, Result.andThen]
    refine hK _ _ (h w.heap.size _ _ (Gx.alloc (Gx.drew (Gx.refl w))) hge hle ?_)
    unfold HeldB
    intro _
    refine ⟨_, _, rfl, fun j hj => ?_⟩
    rw [Nat.zero_add, cell_of_row (w.drew.alloc _) w.heap.size j _ _ _ (At.new w.drew _), Array.getElem?_append_left (by simp; omega), List.getElem?_toArray, List.getElem?_append_left (by simp; omega)]
    simpa [bc] using bc_get B j (by omega)

theorem FrBs {F : List Int} (hF : Fr F) (hn : Narrow F) : Bs (packF F) := by
  intro k
  rcases Nat.lt_or_ge k 96 with h | h
  · rw [gw_packF F k h]; exact byI_bd hF hn k h
  · have : gw (packF F) k = 0 := by unfold gw; simp [List.getD, List.getElem?_eq_none (show (packF F).length ≤ k by rw [packF_len]; exact h)]
    rw [this]; decide

set_option maxHeartbeats 1000000 in
set_option maxRecDepth 100000 in
theorem bytesLaw_wide (F : List Int) (hF : Fr F) (hw : wideB F = true) (n : Nat) (A : Option Addr) (c : Nat) (w : World) (hT : Tab w) :
    Calls Tryd.prog 10 #[.agg (fc F), .slice A n c] w fun e w' => e = .returned (.bool true) ∧ ∃ x, w' = gx w x := by
  have hl := hF.len
  go_enter Tryd.func10, Tryd.ntmps10
  go_wp2_with (first | (refine load_fr rfl _ rfl _ rfl ?_ ?_ ?_ ?_; rotate_left; (focus (repeat (first | (with_reducible assumption) | (with_reducible exact At.new _ _) | (with_reducible refine At.row ?_) | (with_reducible refine At.app ?_) | (with_reducible refine At.tick ?_) | (with_reducible refine At.gx ?_) | ((with_reducible refine At.new' ?_); focus (simp; done)) | (with_reducible refine At.alloc ?_) | (with_reducible refine At.drew ?_) | (with_reducible exact Is.new _ _ _) | (with_reducible refine Is.row ?_) | (with_reducible refine Is.gx ?_) | ((with_reducible refine Is.new' ?_); focus (simp; done)) | (with_reducible refine Is.alloc ?_) | (with_reducible refine Is.drew ?_)))); (focus (with_reducible (first | exact hl | exact hl1 | exact hl2 | exact hl3 | exact hl4 | exact zeroF_len)))) | (refine store_fr rfl _ _ rfl _ rfl _ rfl ?_ ?_ ?_ ?_ ?_; rotate_left; (focus (repeat (first | (with_reducible assumption) | (with_reducible exact At.new _ _) | (with_reducible refine At.row ?_) | (with_reducible refine At.app ?_) | (with_reducible refine At.tick ?_) | (with_reducible refine At.gx ?_) | ((with_reducible refine At.new' ?_); focus (simp; done)) | (with_reducible refine At.alloc ?_) | (with_reducible refine At.drew ?_) | (with_reducible exact Is.new _ _ _) | (with_reducible refine Is.row ?_) | (with_reducible refine Is.gx ?_) | ((with_reducible refine Is.new' ?_); focus (simp; done)) | (with_reducible refine Is.alloc ?_) | (with_reducible refine Is.drew ?_)))); (focus (with_reducible (first | exact hl | exact hl1 | exact hl2 | exact hl3 | exact hl4 | exact zeroF_len))); (focus (with_reducible (first | exact hl | exact hl1 | exact hl2 | exact hl3 | exact hl4 | exact zeroF_len)))) | (go_at_call 44; refine (ToBytes_wide F hF hw _).mono ?_; rintro e w' ⟨rfl, z, rfl⟩) | (go_at_call 45; refine (RToBytes_wide F hF hw _).mono ?_; rintro e w' ⟨rfl, z, rfl⟩) | (go_at_call 46; refine (EqualB_same [] 0 none none 0 0 _ HeldB.none_zero (fun _ => rfl) HeldB.none_zero (fun _ => rfl)).mono ?_; rintro e w' ⟨rfl, rfl⟩) | (go_at_call 22; refine (framed_any _ ?_).mono ?_; (focus (repeat (first | (with_reducible exact hT) | (with_reducible assumption) | (with_reducible refine Tab.gx ?_ _) | (with_reducible refine Tab.alloc ?_ _)))); rintro e w' ⟨rfl, z, rfl⟩))
  go_ret
  exact ⟨rfl, (by repeat (first | (with_reducible exact Gx.refl _) | (with_reducible assumption) | (with_reducible refine Gx.gx ?_) | (with_reducible refine Gx.alloc ?_) | (with_reducible refine Gx.drew ?_) | (with_reducible refine Gx.drewN ?_) | (with_reducible refine Gx.setRow ?_ (by simp)) | (with_reducible refine Gx.setCell ?_ (by simp))))⟩

set_option maxHeartbeats 2000000 in
set_option maxRecDepth 100000 in
theorem bytesLaw_good (F : List Int) (hF : Fr F) (hw : wideB F = false) (M : List Int) (A : Option Addr) (c : Nat) (w : World) (hT : Tab w) (hH : HeldB M A M.length w) (hm : 96 + M.length ≤ 140737488355328) :
    Calls Tryd.prog 10 #[.agg (fc F), .slice A M.length c] w fun e w' => e = .returned (.bool true) ∧ ∃ x, w' = gx w x := by
  have hl := hF.len
  have hn := wideB_false.1 hw
  have hr : rdF (packF F) = F := rdF_by hF hn fun j hj => gw_packF F j hj
  have q := eqF_self F
  have lp := packF_len F
  have Hm := Lib.hid hm
  clear hm
  go_enter Tryd.func10, Tryd.ntmps10
  go_wp2_with (first | (refine load_fr rfl _ rfl _ rfl ?_ ?_ ?_ ?_; rotate_left; (focus (repeat (first | (with_reducible assumption) | (with_reducible exact At.new _ _) | (with_reducible refine At.row ?_) | (with_reducible refine At.app ?_) | (with_reducible refine At.tick ?_) | (with_reducible refine At.gx ?_) | ((with_reducible refine At.new' ?_); focus (simp; done)) | (with_reducible refine At.alloc ?_) | (with_reducible refine At.drew ?_) | (with_reducible exact Is.new _ _ _) | (with_reducible refine Is.row ?_) | (with_reducible refine Is.gx ?_) | ((with_reducible refine Is.new' ?_); focus (simp; done)) | (with_reducible refine Is.alloc ?_) | (with_reducible refine Is.drew ?_)))); (focus (with_reducible (first | exact hl | exact hl1 | exact hl2 | exact hl3 | exact hl4 | exact zeroF_len)))) | (refine store_fr rfl _ _ rfl _ rfl _ rfl ?_ ?_ ?_ ?_ ?_; rotate_left; (focus (repeat (first | (with_reducible assumption) | (with_reducible exact At.new _ _) | (with_reducible refine At.row ?_) | (with_reducible refine At.app ?_) | (with_reducible refine At.tick ?_) | (with_reducible refine At.gx ?_) | ((with_reducible refine At.new' ?_); focus (simp; done)) | (with_reducible refine At.alloc ?_) | (with_reducible refine At.drew ?_) | (with_reducible exact Is.new _ _ _) | (with_reducible refine Is.row ?_) | (with_reducible refine Is.gx ?_) | ((with_reducible refine Is.new' ?_); focus (simp; done)) | (with_reducible refine Is.alloc ?_) | (with_reducible refine Is.drew ?_)))); (focus (with_reducible (first | exact hl | exact hl1 | exact hl2 | exact hl3 | exact hl4 | exact zeroF_len))); (focus (with_reducible (first | exact hl | exact hl1 | exact hl2 | exact hl3 | exact hl4 | exact zeroF_len)))) | (go_at_call 44; refine (ToBytes_good F hF hw _).mono ?_; rintro e w' ⟨g, z, rfl, rfl, hA⟩; (try simp only [gx_gx] at hA)) | (go_at_call 45; refine (RToBytes_good F hF hw _).mono ?_; rintro e w' ⟨g, z, rfl, rfl, hA⟩; (try simp only [gx_gx] at hA)) | (go_at_call 46; refine (EqualB_same (packF F) 96 _ _ _ _ _ (HeldB.of_at (B := packF F) ?_ (by rw [packF_len]; decide)) (fun h => by cases h) (HeldB.of_at (B := packF F) ?_ (by rw [packF_len]; decide)) (fun h => by cases h)).mono ?_; (focus (repeat (first | (with_reducible assumption) | (with_reducible exact At.new _ _) | (with_reducible refine At.row ?_) | (with_reducible refine At.app ?_) | (with_reducible refine At.tick ?_) | (with_reducible refine At.gx ?_) | ((with_reducible refine At.new' ?_); focus (simp; done)) | (with_reducible refine At.alloc ?_) | (with_reducible refine At.drew ?_) | (with_reducible exact Is.new _ _ _) | (with_reducible refine Is.row ?_) | (with_reducible refine Is.gx ?_) | ((with_reducible refine Is.new' ?_); focus (simp; done)) | (with_reducible refine Is.alloc ?_) | (with_reducible refine Is.drew ?_)))); (focus (repeat (first | (with_reducible assumption) | (with_reducible exact At.new _ _) | (with_reducible refine At.row ?_) | (with_reducible refine At.app ?_) | (with_reducible refine At.tick ?_) | (with_reducible refine At.gx ?_) | ((with_reducible refine At.new' ?_); focus (simp; done)) | (with_reducible refine At.alloc ?_) | (with_reducible refine At.drew ?_) | (with_reducible exact Is.new _ _ _) | (with_reducible refine Is.row ?_) | (with_reducible refine Is.gx ?_) | ((with_reducible refine Is.new' ?_); focus (simp; done)) | (with_reducible refine Is.alloc ?_) | (with_reducible refine Is.drew ?_)))); rintro e w' ⟨rfl, rfl⟩) | (refine append_more (packF F) M _ A c rfl _ _ rfl rfl rfl rfl (packF_len F) ?_ ?_ Hm.out ?_; (focus (repeat (first | (with_reducible assumption) | (with_reducible exact At.new _ _) | (with_reducible refine At.row ?_) | (with_reducible refine At.app ?_) | (with_reducible refine At.tick ?_) | (with_reducible refine At.gx ?_) | ((with_reducible refine At.new' ?_); focus (simp; done)) | (with_reducible refine At.alloc ?_) | (with_reducible refine At.drew ?_) | (with_reducible exact Is.new _ _ _) | (with_reducible refine Is.row ?_) | (with_reducible refine Is.gx ?_) | ((with_reducible refine Is.new' ?_); focus (simp; done)) | (with_reducible refine Is.alloc ?_) | (with_reducible refine Is.drew ?_)))); (focus (repeat (first | (with_reducible assumption) | (with_reducible refine HeldB.gx ?_) | (with_reducible refine HeldB.alloc ?_)))); rintro b' cap w' ⟨z, rfl⟩ hk1 hk2 hHB; (try simp only [gx_gx] at hHB)) | (go_at_call 47; refine (FromBytes_any (packF F) (FrBs hF hn) _ _ _ hk1 (by simp only [maxLen] at hk2; omega) (by omega) _ ?_).mono ?_; (focus (repeat (first | (with_reducible assumption) | (with_reducible refine HeldB.gx ?_) | (with_reducible refine HeldB.alloc ?_)))); rintro e w' ⟨rfl, z, rfl⟩) | (go_at_call 22; refine (framed_any _ ?_).mono ?_; (focus (repeat (first | (with_reducible exact hT) | (with_reducible assumption) | (with_reducible refine Tab.gx ?_ _) | (with_reducible refine Tab.alloc ?_ _)))); rintro e w' ⟨rfl, z, rfl⟩))
  go_ret
  exact ⟨rfl, (by repeat (first | (with_reducible exact Gx.refl _) | (with_reducible assumption) | (with_reducible refine Gx.gx ?_) | (with_reducible refine Gx.alloc ?_) | (with_reducible refine Gx.drew ?_) | (with_reducible refine Gx.drewN ?_) | (with_reducible refine Gx.setRow ?_ (by simp)) | (with_reducible refine Gx.setCell ?_ (by simp))))⟩

theorem bytesLaw (F : List Int) (hF : Fr F) (M : List Int) (A : Option Addr) (c : Nat) (w : World) (hT : Tab w) (hH : HeldB M A M.length w) (hm : 96 + M.length ≤ 140737488355328) :
    Calls Tryd.prog 10 #[.agg (fc F), .slice A M.length c] w fun e w' => e = .returned (.bool true) ∧ ∃ x, w' = gx w x := by
  cases hw : wideB F
  · exact bytesLaw_good F hF hw M A c w hT hH hm
  · exact bytesLaw_wide F hF hw M.length A c w hT
end Go.Proofs.YtllahhmonoedmaaDoor
