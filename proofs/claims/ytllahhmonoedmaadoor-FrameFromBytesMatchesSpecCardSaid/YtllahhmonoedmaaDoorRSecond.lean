/-
  PutSecond, the reference's: contracts.
-/
import Derived.Test.YtllahhmonoedmaaDoorSecond
import Derived.Test.YtllahhmonoedmaaDoorRow
namespace Go.Proofs.YtllahhmonoedmaaDoor
open Go.RowKit
-- AT2

/-- The bytes of the first k frames. -/
def pk8 (L : List Int) : Nat → List Int
  | 0 => []
  | k + 1 => pk8 L k ++ packF (sub L k)
theorem pk8_len (L : List Int) : ∀ k, (pk8 L k).length = 96 * k
  | 0 => rfl
  | k + 1 => by unfold pk8; rw [List.length_append, pk8_len L k, packF_len]; omega
theorem gw_pk8 (L : List Int) : ∀ k, ∀ j, j < 96 * k → gw (pk8 L k) j = by8 L j
  | k + 1, j, hj => by
    unfold pk8
    rw [gw_append, pk8_len]
    by_cases c : j < 96 * k
    · rw [if_pos c, gw_pk8 L k j c]
    · rw [if_neg c, gw_packF _ _ (by omega)]
      unfold by8
      rw [show j / 96 = k by omega, show j % 96 = j - 96 * k by omega]

theorem infoFr : ∃ i, Tryd.prog.info? 32 = some i ∧ i.size = 64 := by
  have h : (Tryd.prog.info? 32).map (·.size) = some 64 := by kernel_rfl
  obtain ⟨i, h1, h2⟩ := Option.map_eq_some_iff.1 h
  exact ⟨i, h1, h2⟩
theorem extract_sub (L : List Int) (k : Nat) : (fc L).extract (k * 64) (k * 64 + 64) = fc (sub L k) := by
  apply Array.toList_inj.1
  unfold fc sub
  simp [Nat.mul_comm k 64]
@[go_sem high] theorem index_sub (L : List Int) (k : Nat) (hl : L.length = 512) (hk : k < 8) (w : World) : (Instr.index 76 (.agg (fc L)) (.int .i64 (k : Int))).run Tryd.prog w = .ok (.agg (fc (sub L k))) w := by
  have e1 : Tryd.prog.underlying 76 = some (.array 8 32) := Tryd.underlying76
  have e2 : Tryd.prog.underlying 32 = some (.array 64 30) := Tryd.underlying32
  obtain ⟨i, h1, h2⟩ := infoFr
  have hagg : (isAgg 32).run Tryd.prog w = .ok true w := by
    unfold isAgg
    rw [Sem.run_bind, run_underlying e2 w]
    simp
  have hs : (sizeOf 32).run Tryd.prog w = .ok 64 w := by simp [sizeOf, typeInfo, h1, h2]
  have hb : (0 : Int) ≤ (k : Int) ∧ (k : Int) < 8 := by omega
  simp [Instr.index, asIntOf, run_underlying e1 w, hb, part, hagg, hs, extract_sub]
  intro h
  omega

set_option maxHeartbeats 600000 in
set_option maxRecDepth 100000 in
theorem RPutSecond_bad (A : Option Addr) (n c : Nat) (at_ : Int) (L : List Int) (hm : n ≤ 9223372036854775807) (ha : at_ ≤ 9223372036854775807) (w : World) (E : Int) (he : placeE n at_ 768 = E) (hE : E ≠ 0) :
    Calls Tryd.prog 71 #[.slice A n c, .int .i64 at_, .agg (fc L)] w fun e w' => e = .returned (.tuple #[.slice A n c, .int .i64 E]) ∧ ∃ x, w' = gx w x := by
  have hb : (E != 0) = true := by rw [bne_iff_ne]; exact hE
  have HE := Lib.hid he
  clear hE he
  go_enter Tryd.func71, Tryd.ntmps71
  go_wp2_with (go_at_call 108; refine (Place_any A n c at_ 768 hm ha (by decide) _).mono ?_; rw [HE.out]; rintro e w' ⟨rfl, rfl⟩)
  go_ret2
  exact ⟨rfl, (by repeat (first | (with_reducible exact Gx.refl _) | (with_reducible assumption) | (with_reducible refine Gx.gx ?_) | (with_reducible refine Gx.alloc ?_) | (with_reducible refine Gx.drew ?_) | (with_reducible refine Gx.drewN ?_) | (with_reducible refine Gx.setRow ?_ (by simp)) | (with_reducible refine Gx.setCell ?_ (by simp))))⟩

theorem el_byte : Elem 61 5 1 1 := elem_of Tryd.underlying61 (by decide) (z := .int .u8 0) (by kernel_rfl) rfl
def uC (B : List Int) : List Value := B.map (Value.int .u8)
theorem uC_nil : uC [] = [] := rfl
theorem uC_app (B D : List Int) : uC (B ++ D) = uC B ++ uC D := by unfold uC; simp
theorem uC_len (B : List Int) : (uC B).length = B.length := by unfold uC; simp
theorem uC_one (B : List Int) : ∀ u ∈ uC B, u.oneCell' = true := by
  unfold uC
  intro u hu
  obtain ⟨n, _, rfl⟩ := List.mem_map.1 hu
  rfl
theorem bc_uC (B : List Int) : bc B = (uC B).toArray := by unfold bc uC; rfl
theorem shows_bc {B : List Int} {g : Nat} {w : World} {t : TypeId} (hA : At w g (.cells (bc B) t (0, 0))) : Shows (uC B) (some ⟨g, 0, none⟩) w := by rw [bc_uC] at hA; exact Shows.whole hA
theorem held_uC {B : List Int} {A : Option Addr} {n : Nat} {w : World} (hl : B.length = n) (h : Shows (uC B) A w) : HeldB B A n w := by
  unfold HeldB
  intro h0
  unfold Shows at h
  obtain ⟨g, o, e, hc⟩ := h (by rw [uC_len]; omega)
  refine ⟨g, o, e, fun j hj => hc j _ ?_⟩
  unfold uC gw
  simp [List.getD_eq_getElem?_getD, List.getElem?_eq_getElem (show j < B.length by omega)]
attribute [irreducible] uC pk8

set_option maxHeartbeats 1000000 in
set_option maxRecDepth 100000 in
theorem RPutSecond_wide (A : Option Addr) (n c a : Nat) (L : List Int) (hL : Ss L) (hw : wide8 L 8 = true) (hm : n ≤ 9223372036854775807) (h : a + 768 ≤ n) (w : World) :
    Calls Tryd.prog 71 #[.slice A n c, .int .i64 a, .agg (fc L)] w fun e w' => e = .returned (.tuple #[.slice A n c, .int .i64 9]) ∧ ∃ x, w' = gx w x := by
  have hl := hL.len
  have hp : placeE n (a : Int) 768 = 0 := by unfold placeE; rw [if_neg (by omega), if_neg (by omega)]
  have HP := Lib.hid hp
  clear hp
  go_enter Tryd.func71, Tryd.ntmps71
  go_wp2_with (first | (refine load_eight rfl _ rfl _ rfl L ?_ hl ?_; (focus (repeat (first | (with_reducible assumption) | (with_reducible exact At.new _ _) | (with_reducible refine At.row ?_) | (with_reducible refine At.app ?_) | (with_reducible refine At.tick ?_) | (with_reducible refine At.gx ?_) | ((with_reducible refine At.new' ?_); focus (simp; done)) | (with_reducible refine At.alloc ?_) | (with_reducible refine At.drew ?_) | (with_reducible exact Is.new _ _ _) | (with_reducible refine Is.row ?_) | (with_reducible refine Is.gx ?_) | ((with_reducible refine Is.new' ?_); focus (simp; done)) | (with_reducible refine Is.alloc ?_) | (with_reducible refine Is.drew ?_))))) | (go_at_call 108; refine (Place_any A n c a 768 hm (by omega) (by decide) _).mono ?_; rw [HP.out]; rintro e w' ⟨rfl, rfl⟩))
  go_loopw [9, 20] (fun v i wr => ∃ k : Nat, k < 8 ∧ i = .int .i64 k ∧ wide8 L k = false ∧ (∃ x, wr = gx (w.alloc (.cells (fc L) 76)) x) ∧ Own (w.heap.size + 1) wr 5 1 v (96 * k) (uC (pk8 L k))) (fun _ i _ => 8 - (intOf i).toNat)
  case atStart => exact ⟨0, by decide, rfl, rfl, Gx.refl _, by unfold pk8; rw [uC_nil]; exact Own.nil _ _ _ _⟩
  case round =>
    obtain ⟨k, hk, rfl, hf, ⟨x, rfl⟩, hO⟩ := hrel
    have hfr := hL.fr hk
    have hl1 := hfr.len
    have hpl := packF_len (sub L k)
    cases hc : wideB (sub L k)
    · skip
      have hnn := wideB_false.1 hc
      have hs : ∀ v W, Own (w.heap.size + 1) W 5 1 v (96 * k + 96) (uC (pk8 L k) ++ uC (packF (sub L k))) → Own (w.heap.size + 1) W 5 1 v (96 * (k + 1)) (uC (pk8 L (k + 1))) := fun v W h => by
        unfold pk8; rw [uC_app]; exact h
      have Hs := Lib.hid hs
      have hf1 : wide8 L (k + 1) = false := by unfold wide8; rw [hf, hc]; rfl
      have hk1 : k + 1 < 8 := by
        by_cases e : k + 1 = 8
        · rw [e, hw] at hf1; exact absurd hf1 (by decide)
        · omega
      clear hs
      go_wp2_with (first | (refine store_fr rfl _ _ rfl _ rfl _ rfl ?_ ?_ ?_ ?_ ?_; rotate_left; (focus (repeat (first | (with_reducible assumption) | (with_reducible exact At.new _ _) | (with_reducible refine At.row ?_) | (with_reducible refine At.app ?_) | (with_reducible refine At.tick ?_) | (with_reducible refine At.gx ?_) | ((with_reducible refine At.new' ?_); focus (simp; done)) | (with_reducible refine At.alloc ?_) | (with_reducible refine At.drew ?_) | (with_reducible exact Is.new _ _ _) | (with_reducible refine Is.row ?_) | (with_reducible refine Is.gx ?_) | ((with_reducible refine Is.new' ?_); focus (simp; done)) | (with_reducible refine Is.alloc ?_) | (with_reducible refine Is.drew ?_)))); (focus (with_reducible (first | exact hl | exact hl1 | exact hl2 | exact hl3 | exact hl4 | exact zeroF_len))); (focus (with_reducible (first | exact hl | exact hl1 | exact hl2 | exact hl3 | exact hl4 | exact zeroF_len)))) | (refine load_fr rfl _ rfl _ rfl ?_ ?_ ?_ ?_; rotate_left; (focus (repeat (first | (with_reducible assumption) | (with_reducible exact At.new _ _) | (with_reducible refine At.row ?_) | (with_reducible refine At.app ?_) | (with_reducible refine At.tick ?_) | (with_reducible refine At.gx ?_) | ((with_reducible refine At.new' ?_); focus (simp; done)) | (with_reducible refine At.alloc ?_) | (with_reducible refine At.drew ?_) | (with_reducible exact Is.new _ _ _) | (with_reducible refine Is.row ?_) | (with_reducible refine Is.gx ?_) | ((with_reducible refine Is.new' ?_); focus (simp; done)) | (with_reducible refine Is.alloc ?_) | (with_reducible refine Is.drew ?_)))); (focus (with_reducible (first | exact hl | exact hl1 | exact hl2 | exact hl3 | exact hl4 | exact zeroF_len)))) | (go_at_call 96; refine (Wide_any _ hfr _).mono ?_; rw [hc]; rintro e w' ⟨rfl, z, rfl⟩) | (go_at_call 104; refine (bytes_any _ hfr hnn _).mono ?_; rintro e w' ⟨g2, z, rfl, rfl, hA2⟩; have hS2 := shows_bc hA2; clear hA2; (try simp only [gx_gx] at hS2)) | (at_builtin; (with_reducible apply append_all (o := ⟨some 29, _, _, _, _, _⟩) el_byte (w.alloc (.cells (fc L) 76)) (w.heap.size + 1) (v := u9) (n := 96 * k) (xs := uC (pk8 L k)) (A := some ⟨g2, 0, none⟩) (m := 96) (c := 96) (news := uC (packF (sub L k)))); exact rfl; exact rfl; exact rfl; exact rfl; exact (fun h => by cases h); (focus (simp; done)); (focus (repeat (first | (with_reducible assumption) | (with_reducible exact Own.nil _ _ _ _) | (with_reducible refine Own.app ?_) | (with_reducible refine Own.tick ?_) | (with_reducible refine Own.gx ?_) | (with_reducible refine Own.alloc ?_) | (with_reducible refine Own.drew ?_) | (with_reducible refine Own.row ?_ (by omega))))); exact (by repeat (first | (with_reducible exact Gx.refl _) | (with_reducible assumption) | (with_reducible refine Gx.gx ?_) | (with_reducible refine Gx.alloc ?_) | (with_reducible refine Gx.drew ?_) | (with_reducible refine Gx.drewN ?_) | (with_reducible refine Gx.setRow ?_ (by simp)) | (with_reducible refine Gx.setCell ?_ (by simp)))); (focus (simp <;> omega)); exact (by rw [uC_len, packF_len]); (focus (repeat (first | (with_reducible assumption) | ((with_reducible apply Shows.whole); focus ((focus (repeat (first | (with_reducible assumption) | (with_reducible exact At.new _ _) | (with_reducible refine At.row ?_) | (with_reducible refine At.app ?_) | (with_reducible refine At.tick ?_) | (with_reducible refine At.gx ?_) | ((with_reducible refine At.new' ?_); focus (simp; done)) | (with_reducible refine At.alloc ?_) | (with_reducible refine At.drew ?_) | (with_reducible exact Is.new _ _ _) | (with_reducible refine Is.row ?_) | (with_reducible refine Is.gx ?_) | ((with_reducible refine Is.new' ?_); focus (simp; done)) | (with_reducible refine Is.alloc ?_) | (with_reducible refine Is.drew ?_)))); done)) | (with_reducible refine Shows.app ?_) | (with_reducible refine Shows.tick ?_) | (with_reducible refine Shows.gx ?_) | (with_reducible refine Shows.alloc ?_) | (with_reducible refine Shows.drew ?_)))); exact uC_one _; (focus (simp only [maxLen]; omega)); (focus omega); (rintro v' _ ⟨y', rfl⟩ hO' _); have hO2 := Hs.out _ _ hO'; clear hO'))
      go_roundw
      case rel => exact ⟨k + 1, by omega, by go_num, hf1, by exact (by repeat (first | (with_reducible exact Gx.refl _) | (with_reducible assumption) | (with_reducible refine Gx.gx ?_) | (with_reducible refine Gx.alloc ?_) | (with_reducible refine Gx.drew ?_) | (with_reducible refine Gx.drewN ?_) | (with_reducible refine Gx.setRow ?_ (by simp)) | (with_reducible refine Gx.setCell ?_ (by simp)))), by (focus (repeat (first | (with_reducible assumption) | (with_reducible exact Own.nil _ _ _ _) | (with_reducible refine Own.app ?_) | (with_reducible refine Own.tick ?_) | (with_reducible refine Own.gx ?_) | (with_reducible refine Own.alloc ?_) | (with_reducible refine Own.drew ?_) | (with_reducible refine Own.row ?_ (by omega)))))⟩
      case measure => simp [intOf]; omega
    · go_wp2_with (first | (refine store_fr rfl _ _ rfl _ rfl _ rfl ?_ ?_ ?_ ?_ ?_; rotate_left; (focus (repeat (first | (with_reducible assumption) | (with_reducible exact At.new _ _) | (with_reducible refine At.row ?_) | (with_reducible refine At.app ?_) | (with_reducible refine At.tick ?_) | (with_reducible refine At.gx ?_) | ((with_reducible refine At.new' ?_); focus (simp; done)) | (with_reducible refine At.alloc ?_) | (with_reducible refine At.drew ?_) | (with_reducible exact Is.new _ _ _) | (with_reducible refine Is.row ?_) | (with_reducible refine Is.gx ?_) | ((with_reducible refine Is.new' ?_); focus (simp; done)) | (with_reducible refine Is.alloc ?_) | (with_reducible refine Is.drew ?_)))); (focus (with_reducible (first | exact hl | exact hl1 | exact hl2 | exact hl3 | exact hl4 | exact zeroF_len))); (focus (with_reducible (first | exact hl | exact hl1 | exact hl2 | exact hl3 | exact hl4 | exact zeroF_len)))) | (refine load_fr rfl _ rfl _ rfl ?_ ?_ ?_ ?_; rotate_left; (focus (repeat (first | (with_reducible assumption) | (with_reducible exact At.new _ _) | (with_reducible refine At.row ?_) | (with_reducible refine At.app ?_) | (with_reducible refine At.tick ?_) | (with_reducible refine At.gx ?_) | ((with_reducible refine At.new' ?_); focus (simp; done)) | (with_reducible refine At.alloc ?_) | (with_reducible refine At.drew ?_) | (with_reducible exact Is.new _ _ _) | (with_reducible refine Is.row ?_) | (with_reducible refine Is.gx ?_) | ((with_reducible refine Is.new' ?_); focus (simp; done)) | (with_reducible refine Is.alloc ?_) | (with_reducible refine Is.drew ?_)))); (focus (with_reducible (first | exact hl | exact hl1 | exact hl2 | exact hl3 | exact hl4 | exact zeroF_len)))) | (go_at_call 96; refine (Wide_any _ hfr _).mono ?_; rw [hc]; rintro e w' ⟨rfl, z, rfl⟩))
      go_ret2
      exact ⟨rfl, (by repeat (first | (with_reducible exact Gx.refl _) | (with_reducible assumption) | (with_reducible refine Gx.gx ?_) | (with_reducible refine Gx.alloc ?_) | (with_reducible refine Gx.drew ?_) | (with_reducible refine Gx.drewN ?_) | (with_reducible refine Gx.setRow ?_ (by simp)) | (with_reducible refine Gx.setCell ?_ (by simp))))⟩

theorem with_second (M : List Int) (hM : Bs M) (L : List Int) (q : Nat) (h : q + 768 ≤ M.length) (A A' : Option Addr) (c c' : Nat) (w : World) (hH : HeldB M A M.length w) (hH' : HeldB (pk8 L 8) A' 768 w) (hm : M.length ≤ 140737488355328) :
    Calls Tryd.prog 112 #[.slice A M.length c, .int .i64 q, .slice A' 768 c'] w fun e w' => ∃ g C x, e = .returned (.slice (some ⟨g, 0, none⟩) M.length C.length) ∧
      w' = gx w x ∧ w.heap.size ≤ g ∧ At (gx w x) g (.cells (bc C) 5 (0, 0)) ∧ With M (pk8 L 8) q C := by
  have hl : (pk8 L 8).length = 768 := pk8_len L 8
  have := with_any M (pk8 L 8) hM q (by rw [hl]; exact h) (by rw [hl]; decide) A A' c c' w hH (by rw [hl]; exact hH') hm
  rw [hl] at this
  exact this

set_option maxHeartbeats 1000000 in
set_option maxRecDepth 100000 in
theorem RPutSecond_good (M : List Int) (hM : Bs M) (A : Option Addr) (c a : Nat) (L : List Int) (hL : Ss L) (hw : wide8 L 8 = false) (h : a + 768 ≤ M.length) (w : World) (hH : HeldB M A M.length w) (hmm : M.length ≤ 140737488355328) :
    Calls Tryd.prog 71 #[.slice A M.length c, .int .i64 a, .agg (fc L)] w fun e w' => ∃ g C x, e = .returned (.tuple #[.slice (some ⟨g, 0, none⟩) M.length C.length, .int .i64 0]) ∧
      w' = gx w x ∧ w.heap.size ≤ g ∧ At (gx w x) g (.cells (bc C) 5 (0, 0)) ∧ With M (pk8 L 8) a C := by
  have hl := hL.len
  have hp : placeE M.length (a : Int) 768 = 0 := by unfold placeE; rw [if_neg (by omega), if_neg (by omega)]
  have HP := Lib.hid hp
  have HW := Lib.hid (wide8_no hw)
  have hm : M.length ≤ 9223372036854775807 := by omega
  have key : ∀ W g C, (∃ x, W = gx w x) → w.heap.size ≤ g → At W g (.cells (bc C) 5 (0, 0)) → With M (pk8 L 8) a C → ∃ g' C' x, Ending.returned (.tuple #[.slice (some ⟨g, 0, none⟩) M.length C.length, .int .i64 0]) = .returned (.tuple #[.slice (some ⟨g', 0, none⟩) M.length C'.length, .int .i64 0]) ∧
      W = gx w x ∧ w.heap.size ≤ g' ∧ At (gx w x) g' (.cells (bc C') 5 (0, 0)) ∧ With M (pk8 L 8) a C' := fun W g C ⟨x, h⟩ h1 hA h2 => ⟨g, C, x, rfl, h, h1, h ▸ hA, h2⟩
  have Key := Lib.hid key
  clear hp key
  go_enter Tryd.func71, Tryd.ntmps71
  go_wp2_with (first | (refine load_eight rfl _ rfl _ rfl L ?_ hl ?_; (focus (repeat (first | (with_reducible assumption) | (with_reducible exact At.new _ _) | (with_reducible refine At.row ?_) | (with_reducible refine At.app ?_) | (with_reducible refine At.tick ?_) | (with_reducible refine At.gx ?_) | ((with_reducible refine At.new' ?_); focus (simp; done)) | (with_reducible refine At.alloc ?_) | (with_reducible refine At.drew ?_) | (with_reducible exact Is.new _ _ _) | (with_reducible refine Is.row ?_) | (with_reducible refine Is.gx ?_) | ((with_reducible refine Is.new' ?_); focus (simp; done)) | (with_reducible refine Is.alloc ?_) | (with_reducible refine Is.drew ?_))))) | (go_at_call 108; refine (Place_any A M.length c a 768 hm (by omega) (by decide) _).mono ?_; rw [HP.out]; rintro e w' ⟨rfl, rfl⟩))
  go_loopw [9, 20] (fun v i wr => ∃ k : Nat, k ≤ 8 ∧ i = .int .i64 k ∧ wide8 L k = false ∧ (∃ x, wr = gx (w.alloc (.cells (fc L) 76)) x) ∧ Own (w.heap.size + 1) wr 5 1 v (96 * k) (uC (pk8 L k))) (fun _ i _ => 8 - (intOf i).toNat)
  case atStart => exact ⟨0, by decide, rfl, rfl, Gx.refl _, by unfold pk8; rw [uC_nil]; exact Own.nil _ _ _ _⟩
  case round =>
    obtain ⟨k, hk, rfl, hf, ⟨x, rfl⟩, hO⟩ := hrel
    by_cases hlt : k < 8
    · have hfr := hL.fr hlt
      have hl1 := hfr.len
      have hpl := packF_len (sub L k)
      have hc := HW.out k hlt
      have hnn := wideB_false.1 hc
      have hs : ∀ v W, Own (w.heap.size + 1) W 5 1 v (96 * k + 96) (uC (pk8 L k) ++ uC (packF (sub L k))) → Own (w.heap.size + 1) W 5 1 v (96 * (k + 1)) (uC (pk8 L (k + 1))) := fun v W h => by
        unfold pk8; rw [uC_app]; exact h
      have Hs := Lib.hid hs
      have hf1 : wide8 L (k + 1) = false := by unfold wide8; rw [hf, hc]; rfl
      clear hs
      go_wp2_with (first | (refine store_fr rfl _ _ rfl _ rfl _ rfl ?_ ?_ ?_ ?_ ?_; rotate_left; (focus (repeat (first | (with_reducible assumption) | (with_reducible exact At.new _ _) | (with_reducible refine At.row ?_) | (with_reducible refine At.app ?_) | (with_reducible refine At.tick ?_) | (with_reducible refine At.gx ?_) | ((with_reducible refine At.new' ?_); focus (simp; done)) | (with_reducible refine At.alloc ?_) | (with_reducible refine At.drew ?_) | (with_reducible exact Is.new _ _ _) | (with_reducible refine Is.row ?_) | (with_reducible refine Is.gx ?_) | ((with_reducible refine Is.new' ?_); focus (simp; done)) | (with_reducible refine Is.alloc ?_) | (with_reducible refine Is.drew ?_)))); (focus (with_reducible (first | exact hl | exact hl1 | exact hl2 | exact hl3 | exact hl4 | exact zeroF_len))); (focus (with_reducible (first | exact hl | exact hl1 | exact hl2 | exact hl3 | exact hl4 | exact zeroF_len)))) | (refine load_fr rfl _ rfl _ rfl ?_ ?_ ?_ ?_; rotate_left; (focus (repeat (first | (with_reducible assumption) | (with_reducible exact At.new _ _) | (with_reducible refine At.row ?_) | (with_reducible refine At.app ?_) | (with_reducible refine At.tick ?_) | (with_reducible refine At.gx ?_) | ((with_reducible refine At.new' ?_); focus (simp; done)) | (with_reducible refine At.alloc ?_) | (with_reducible refine At.drew ?_) | (with_reducible exact Is.new _ _ _) | (with_reducible refine Is.row ?_) | (with_reducible refine Is.gx ?_) | ((with_reducible refine Is.new' ?_); focus (simp; done)) | (with_reducible refine Is.alloc ?_) | (with_reducible refine Is.drew ?_)))); (focus (with_reducible (first | exact hl | exact hl1 | exact hl2 | exact hl3 | exact hl4 | exact zeroF_len)))) | (go_at_call 96; refine (Wide_any _ hfr _).mono ?_; rw [hc]; rintro e w' ⟨rfl, z, rfl⟩) | (go_at_call 104; refine (bytes_any _ hfr hnn _).mono ?_; rintro e w' ⟨g2, z, rfl, rfl, hA2⟩; have hS2 := shows_bc hA2; clear hA2; (try simp only [gx_gx] at hS2)) | (at_builtin; (with_reducible apply append_all (o := ⟨some 29, _, _, _, _, _⟩) el_byte (w.alloc (.cells (fc L) 76)) (w.heap.size + 1) (v := u9) (n := 96 * k) (xs := uC (pk8 L k)) (A := some ⟨g2, 0, none⟩) (m := 96) (c := 96) (news := uC (packF (sub L k)))); exact rfl; exact rfl; exact rfl; exact rfl; exact (fun h => by cases h); (focus (simp; done)); (focus (repeat (first | (with_reducible assumption) | (with_reducible exact Own.nil _ _ _ _) | (with_reducible refine Own.app ?_) | (with_reducible refine Own.tick ?_) | (with_reducible refine Own.gx ?_) | (with_reducible refine Own.alloc ?_) | (with_reducible refine Own.drew ?_) | (with_reducible refine Own.row ?_ (by omega))))); exact (by repeat (first | (with_reducible exact Gx.refl _) | (with_reducible assumption) | (with_reducible refine Gx.gx ?_) | (with_reducible refine Gx.alloc ?_) | (with_reducible refine Gx.drew ?_) | (with_reducible refine Gx.drewN ?_) | (with_reducible refine Gx.setRow ?_ (by simp)) | (with_reducible refine Gx.setCell ?_ (by simp)))); (focus (simp <;> omega)); exact (by rw [uC_len, packF_len]); (focus (repeat (first | (with_reducible assumption) | ((with_reducible apply Shows.whole); focus ((focus (repeat (first | (with_reducible assumption) | (with_reducible exact At.new _ _) | (with_reducible refine At.row ?_) | (with_reducible refine At.app ?_) | (with_reducible refine At.tick ?_) | (with_reducible refine At.gx ?_) | ((with_reducible refine At.new' ?_); focus (simp; done)) | (with_reducible refine At.alloc ?_) | (with_reducible refine At.drew ?_) | (with_reducible exact Is.new _ _ _) | (with_reducible refine Is.row ?_) | (with_reducible refine Is.gx ?_) | ((with_reducible refine Is.new' ?_); focus (simp; done)) | (with_reducible refine Is.alloc ?_) | (with_reducible refine Is.drew ?_)))); done)) | (with_reducible refine Shows.app ?_) | (with_reducible refine Shows.tick ?_) | (with_reducible refine Shows.gx ?_) | (with_reducible refine Shows.alloc ?_) | (with_reducible refine Shows.drew ?_)))); exact uC_one _; (focus (simp only [maxLen]; omega)); (focus omega); (rintro v' _ ⟨y', rfl⟩ hO' _); have hO2 := Hs.out _ _ hO'; clear hO'))
      go_roundw
      case rel => exact ⟨k + 1, by omega, by go_num, hf1, by exact (by repeat (first | (with_reducible exact Gx.refl _) | (with_reducible assumption) | (with_reducible refine Gx.gx ?_) | (with_reducible refine Gx.alloc ?_) | (with_reducible refine Gx.drew ?_) | (with_reducible refine Gx.drewN ?_) | (with_reducible refine Gx.setRow ?_ (by simp)) | (with_reducible refine Gx.setCell ?_ (by simp)))), by (focus (repeat (first | (with_reducible assumption) | (with_reducible exact Own.nil _ _ _ _) | (with_reducible refine Own.app ?_) | (with_reducible refine Own.tick ?_) | (with_reducible refine Own.gx ?_) | (with_reducible refine Own.alloc ?_) | (with_reducible refine Own.drew ?_) | (with_reducible refine Own.row ?_ (by omega)))))⟩
      case measure => simp [intOf]; omega
    · obtain rfl : k = 8 := by omega
      obtain ⟨A2, c2, rfl, -, -, -, hS⟩ := hO.is
      have hlp : (pk8 L 8).length = 768 := pk8_len L 8
      have hh := held_uC hlp hS
      clear hO hS
      go_wp2_with (go_at_call 112; refine (with_second M hM L a h A _ _ _ _ ?_ ?_ hmm).mono ?_; (focus (repeat (first | (with_reducible assumption) | (with_reducible refine HeldB.gx ?_) | (with_reducible refine HeldB.alloc ?_) | (with_reducible refine HeldB.drew ?_)))); (focus (repeat (first | (with_reducible assumption) | (with_reducible refine HeldB.gx ?_) | (with_reducible refine HeldB.alloc ?_) | (with_reducible refine HeldB.drew ?_)))); rintro e w' ⟨g2, C2, z2, rfl, rfl, hg2, hA2, hw2⟩; (try simp only [gx_gx] at hA2))
      go_ret2
      exact Key.out _ _ _ (by repeat (first | (with_reducible exact Gx.refl _) | (with_reducible assumption) | (with_reducible refine Gx.gx ?_) | (with_reducible refine Gx.alloc ?_) | (with_reducible refine Gx.drew ?_) | (with_reducible refine Gx.drewN ?_) | (with_reducible refine Gx.setRow ?_ (by simp)) | (with_reducible refine Gx.setCell ?_ (by simp)))) (by simp at hg2; omega) (by (focus (repeat (first | (with_reducible assumption) | (with_reducible exact At.new _ _) | (with_reducible refine At.row ?_) | (with_reducible refine At.app ?_) | (with_reducible refine At.tick ?_) | (with_reducible refine At.gx ?_) | ((with_reducible refine At.new' ?_); focus (simp; done)) | (with_reducible refine At.alloc ?_) | (with_reducible refine At.drew ?_) | (with_reducible exact Is.new _ _ _) | (with_reducible refine Is.row ?_) | (with_reducible refine Is.gx ?_) | ((with_reducible refine Is.new' ?_); focus (simp; done)) | (with_reducible refine Is.alloc ?_) | (with_reducible refine Is.drew ?_))))) hw2
end Go.Proofs.YtllahhmonoedmaaDoor
