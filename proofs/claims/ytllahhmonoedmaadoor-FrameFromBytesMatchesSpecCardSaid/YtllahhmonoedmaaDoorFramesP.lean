/-
  Frames, the program's: the contract.
-/
import Derived.Test.YtllahhmonoedmaaDoorFramesA
namespace Go.Proofs.YtllahhmonoedmaaDoor
open Go.RowKit
-- AT2

/-- The words of q frames, of which k are read. -/
def frP (M : List Int) (q : Nat) : Nat → List Int
  | 0 => zerosI (64 * q)
  | k + 1 => putAt (frP M q k) (64 * k) (rdF (M.drop (96 * k)))
theorem frP_len (M : List Int) (q : Nat) : ∀ k, (frP M q k).length = 64 * q
  | 0 => zerosI_len _
  | k + 1 => by unfold frP; rw [putAt_len, frP_len M q k]
theorem frP_0 (M : List Int) (q : Nat) : frP M q 0 = zerosI (64 * q) := rfl
theorem frP_succ (M : List Int) (q k : Nat) : putAt (frP M q k) (64 * k) (rdF (M.drop (96 * k))) = frP M q (k + 1) := rfl
theorem gw_frP (M : List Int) (q : Nat) : ∀ k, k ≤ q → ∀ j, j < 64 * k → gw (frP M q k) j = gw (frI M k) j
  | 0, _, j, h => absurd h (by omega)
  | k + 1, hk, j, hj => by
    have hr := rdF_len (M.drop (96 * k))
    have hi := frI_len M k
    rw [← frP_succ, ← frI_succ, gw_putAt _ _ _ _ (by rw [frP_len, hr]; omega), gw_append, hr, hi]
    by_cases h : j < 64 * k
    · rw [if_neg (by omega), if_pos (by omega)]
      exact gw_frP M q k (by omega) j h
    · rw [if_pos (by omega), if_neg (by omega)]
      congr 1
      omega
theorem frP_end (M : List Int) (q : Nat) : frP M q q = frI M q := ext_gw (by rw [frP_len, frI_len]; omega) fun k hk => by
  rw [frP_len] at hk
  exact gw_frP M q q (Nat.le_refl _) k hk
attribute [irreducible] frP
theorem zero_cell (k : Nat) : (fc zeroF)[k % 64]! = .int .u16 0 := by
  have hl := zeroF_len
  have hlt : k % 64 < (fc zeroF).size := by rw [fc_size, hl]; omega
  have := fc_get zeroF (k % 64) (by omega)
  rw [zeroF_get] at this
  rw [Array.getElem!_eq_getD, Array.getD_eq_getD_getElem?, this]
  rfl
theorem made_fr (n : Nat) : madeCells (fc zeroF) n = fc (zerosI n) := by
  have hl := zeroF_len
  apply Array.ext_getElem?
  intro k
  by_cases h : k < n
  · have e : (fc (zerosI n))[k]? = some (.int .u16 0) := by
      rw [fc_get _ _ (by rw [zerosI_len]; exact h)]
      unfold zerosI gw
      rw [getD_zeros]
    have e2 := zero_cell k
    rw [e]
    unfold madeCells
    rw [Array.getElem?_map, fc_size, hl, Array.getElem?_range, if_pos h, Option.map_some, e2]
  · rw [Array.getElem?_eq_none (by rw [size_madeCells]; omega), Array.getElem?_eq_none (by rw [fc_size, zerosI_len]; omega)]
theorem make_frames (q : Nat) (hq : q ≤ 140737488355328 / 96) (w : World) : (Instr.makeSlice 72 (.int .i64 (q : Int)) (.int .i64 (q : Int))).run Tryd.prog w = .ok (.slice (some ⟨w.heap.size, 0, none⟩) q q) (w.alloc (.cells (fc (zerosI (64 * q))) 32)) := by
  obtain ⟨ht, hp, i, z, hi, hz, hsize, hby, hzs⟩ := el_frame
  have hzz : z = .agg (fc zeroF) := by
    obtain ⟨i', h1, h2⟩ := Option.map_eq_some_iff.1 info_frame
    rw [hi] at h1
    obtain rfl := Option.some.inj h1
    rw [hz] at h2
    simp only [Prod.mk.injEq, Option.some.injEq] at h2
    rw [h2.1]
    unfold zeroF
    rfl
  have := run_make (P := Tryd.prog) w 72 32 i z ht hi hz .i64 .i64 q q (by omega) (Int.le_refl _) (by rw [hby]; omega) (by omega)
  rw [this, hsize, hzz]
  simp only [Int.toNat_natCast, Value.cells]
  rw [made_fr, Nat.mul_comm]
theorem store_row {ops : Array Oper} {rest : List Oper} {o : Oper} {a : Act} {w : World} {Q : Exit → Act → World → Prop} (hgd : o.guard = none) (x y : Operand) (ho : o.op = .store 32 x y)
    (g q i m : Nat) (hx : a.eval x = .pointer (some ⟨g, q, none⟩)) (F : List Int) (hy : a.eval y = .agg (fc F)) (hq : q = 64 * i) (L : List Int) (t : TypeId) (hg : At w g (.cells (fc L) t (0, 0))) (hF : F.length = 64) (hl : L.length = 64 * m) (hi : i < m)
    (h : wpList Tryd.prog ops Q rest (a.put o.dst undef) (w.setRow g (fc (putAt L (64 * i) F)))) : wpList Tryd.prog ops Q (o :: rest) a w := by
  subst hq
  refine wpList_store_mid hgd _ x y ho g _ _ hx hy (fun j hj => ?_) (by rw [fc_size, hF]; kernel_rfl) (by simp [fc, Value.oneCell']) ?_
  · rw [fc_size, hF] at hj
    exact ⟨by rw [cell_of_row w g _ _ _ _ hg, fc_get L _ (by omega)]; rfl, frozen_of_row w g _ _ _ hg⟩
  · have e : (fc F).toList = F.map (Value.int .u16) := by unfold fc; simp
    rw [e, setCells_fc g t F L (64 * i) w hg]
    exact h

set_option maxHeartbeats 2000000 in
set_option maxRecDepth 100000 in
theorem Frames_any (M : List Int) (hM : Bs M) (A : Option Addr) (c : Nat) (w : World) (hH : HeldB M A M.length w) (hcap : M.length ≤ c) (hcm : c ≤ 9223372036854775807) (hm : M.length ≤ 140737488355328) :
    Calls Tryd.prog 56 #[.slice A M.length c] w fun e w' => ∃ g x, e = .returned (.tuple #[.slice (some ⟨g, 0, none⟩) (M.length / 96) (M.length / 96), .int .i64 ((M.length % 96 : Nat) : Int)]) ∧ w' = gx w x ∧ Shows (frC M (M.length / 96)) (some ⟨g, 0, none⟩) (gx w x) := by
  obtain ⟨q, hq⟩ : ∃ q, q = M.length / 96 := ⟨_, rfl⟩
  obtain ⟨r, hr⟩ : ∃ r, r = M.length % 96 := ⟨_, rfl⟩
  rw [← hq, ← hr]
  have hd : IntKind.i64.wrap ((M.length : Int).tdiv 96) = (q : Int) := by
    rw [Int.tdiv_eq_ediv_of_nonneg (by omega), IntKind.wrap_i64]; omega
  have hd' : IntKind.i64.wrap ((M.length : Int).tmod 96) = (r : Int) := by
    rw [Int.tmod_eq_emod_of_nonneg (by omega), IntKind.wrap_i64]; omega
  have hd2 : (M.length : Int) / 96 = (q : Int) := by omega
  have hd3 : (M.length : Int) % 96 = (r : Int) := by omega
  have hmk := make_frames q (by omega)
  have E0 := Lib.hid (frP_0 M q)
  have hlen : 96 * q ≤ M.length := by omega
  have key : ∀ g W, (∃ x, W = gx w x) → At W g (.cells (fc (frP M q q)) 32 (0, 0)) → ∃ g' x, Ending.returned (.tuple #[.slice (some ⟨g, 0, none⟩) q q, .int .i64 ((M.length : Int) % 96)]) = .returned (.tuple #[.slice (some ⟨g', 0, none⟩) q q, .int .i64 (r : Int)]) ∧ W = gx w x ∧ Shows (frC M q) (some ⟨g', 0, none⟩) (gx w x) := by
    rintro g _ ⟨x, rfl⟩ h
    rw [frP_end] at h
    refine ⟨g, x, by rw [hd3], rfl, Shows.whole (t := 32) ?_⟩
    unfold frC
    exact h
  have Key := Lib.hid key
  clear key hq hr
  go_enter Tryd.func56, Tryd.ntmps56
  go_wp2
  go_loopw [12] (fun i wr => ∃ k : Nat, k ≤ q ∧ i = .int .i64 k ∧ ∃ y, wr = gx (w.alloc (.cells (fc (frP M q k)) 32)) y) (fun i _ => q - (intOf i).toNat)
  case atStart => exact ⟨0, by omega, rfl, by rw [E0.out]; exact ⟨_, (gx_none _).symm⟩⟩
  case round =>
    obtain ⟨k, hk, rfl, y, rfl⟩ := hrel
    have hlk := frP_len M q k
    by_cases hlt : k < q
    · unfold HeldB at hH
      obtain ⟨b, o, rfl, hc⟩ := hH (by omega)
      have hb := bs_drop hM (96 * k)
      have hc' : Hid (∀ j, j < 96 → w.cell? ⟨b, o + 96 * k + j, none⟩ = some (.int .u8 (gw (M.drop (96 * k)) j))) := Lib.hid (fun j hj => by
        rw [gw_drop, show o + 96 * k + j = o + (96 * k + j) by omega]; exact hc _ (by omega))
      have hs := Lib.hid (frP_succ M q k)
      have hlf := rdF_len (M.drop (96 * k))
      have hw : IntKind.i64.wrap ((k : Int) * 96) = (k : Int) * 96 := IntWalk.i64_in _ (by omega)
      have hsl : ∀ W, (Instr.slice 61 (.slice (some ⟨b, o, none⟩) M.length c) (some (.int .i64 ((k : Int) * 96))) none none).run Tryd.prog W = .ok (.slice (some ⟨b, o + 96 * k, none⟩) (M.length - 96 * k) (c - 96 * k)) W := fun W => by
        have := slice_tail b o M.length c (96 * k) (by omega) (by omega) W
        rw [show ((k : Int) * 96) = ((96 * k : Nat) : Int) by omega]
        exact this
      have hat : ∀ W, (Instr.arrayAt 120 (.slice (some ⟨b, o + 96 * k, none⟩) (M.length - 96 * k) (c - 96 * k))).run Tryd.prog W = .ok (.pointer (some ⟨b, o + 96 * k, none⟩)) W := fun W => run_arrayAt _ _ _ _ _ _ _ Tryd.underlying120 (by omega)
      clear hH hc
      go_wp2_with (first | (refine store_row rfl _ _ rfl _ _ k q rfl _ rfl ?_ (frP M q k) 32 ?_ hlf hlk hlt ?_; (focus omega); (focus (repeat (first | (with_reducible assumption) | (with_reducible exact At.new _ _) | (with_reducible refine At.row ?_) | (with_reducible refine At.app ?_) | (with_reducible refine At.tick ?_) | (with_reducible refine At.gx ?_) | ((with_reducible refine At.new' ?_); focus (simp; done)) | (with_reducible refine At.alloc ?_) | (with_reducible refine At.drew ?_) | (with_reducible exact Is.new _ _ _) | (with_reducible refine Is.row ?_) | (with_reducible refine Is.gx ?_) | ((with_reducible refine Is.new' ?_); focus (simp; done)) | (with_reducible refine Is.alloc ?_) | (with_reducible refine Is.drew ?_))))) | (go_at_call 107; refine (read_any (M.drop (96 * k)) hb b (o + 96 * k) _ ?_).mono ?_; (focus (intro j hj; repeat (first | (with_reducible exact hc'.out j hj) | (with_reducible refine cell_keep_gx ?_) | (with_reducible refine cell_keep_alloc ?_)))); rintro e w' ⟨rfl, z, rfl⟩))
      go_roundw
      case rel => exact ⟨k + 1, by omega, by go_num, by rw [← hs.out]; exact ⟨_, rfl⟩⟩
      case measure => simp [intOf]; omega
    · obtain rfl : k = q := by omega
      go_wp2
      go_ret2
      refine Key.out w.heap.size _ ?_ ?_
      · exact (by repeat (first | (with_reducible exact Gx.refl _) | (with_reducible assumption) | (with_reducible refine Gx.gx ?_) | (with_reducible refine Gx.alloc ?_) | (with_reducible refine Gx.drew ?_) | (with_reducible refine Gx.drewN ?_) | (with_reducible refine Gx.setRow ?_ (by simp)) | (with_reducible refine Gx.setCell ?_ (by simp))))
      · (focus (repeat (first | (with_reducible assumption) | (with_reducible exact At.new _ _) | (with_reducible refine At.row ?_) | (with_reducible refine At.app ?_) | (with_reducible refine At.tick ?_) | (with_reducible refine At.gx ?_) | ((with_reducible refine At.new' ?_); focus (simp; done)) | (with_reducible refine At.alloc ?_) | (with_reducible refine At.drew ?_) | (with_reducible exact Is.new _ _ _) | (with_reducible refine Is.row ?_) | (with_reducible refine Is.gx ?_) | ((with_reducible refine Is.new' ?_); focus (simp; done)) | (with_reducible refine Is.alloc ?_) | (with_reducible refine Is.drew ?_))))
end Go.Proofs.YtllahhmonoedmaaDoor
