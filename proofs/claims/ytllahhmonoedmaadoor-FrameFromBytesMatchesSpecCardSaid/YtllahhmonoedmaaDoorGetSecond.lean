/-
  GetSecond: contracts of both sides.
-/
import Derived.Test.YtllahhmonoedmaaDoorRSecond
import Derived.Test.YtllahhmonoedmaaDoorFrom
namespace Go.Proofs.YtllahhmonoedmaaDoor
open Go.RowKit
-- AT2

theorem setCells_fc (g : Nat) (t : TypeId) : ∀ (M C : List Int) (o : Nat) (w : World), At w g (.cells (fc C) t (0, 0)) → w.setCells g o (M.map (Value.int .u16)) = w.setRow g (fc (putAt C o M))
  | [], C, o, w, h => by
    show w = w.setRow g (fc C)
    exact h.self.symm
  | v :: r, C, o, w, h => by
    have hI : Is w g t := ⟨_, h⟩
    show (w.setCell ⟨g, o, none⟩ (.int .u16 v)).setCells g (o + 1) (r.map (Value.int .u16)) = _
    rw [setCell_eq_setRow _ g o _ _ _ _ h, fc_set, setCells_fc g t r (C.set o v) (o + 1) _ (At.row hI), setRow_setRow]
    rfl
theorem store_sub {ops : Array Oper} {rest : List Oper} {o : Oper} {a : Act} {w : World} {Q : Exit → Act → World → Prop} (hgd : o.guard = none) (x y : Operand) (ho : o.op = .store 32 x y)
    (g q i : Nat) (hx : a.eval x = .pointer (some ⟨g, q, none⟩)) (F : List Int) (hy : a.eval y = .agg (fc F)) (hq : q = 64 * i) (L : List Int) (t : TypeId) (hg : At w g (.cells (fc L) t (0, 0))) (hF : F.length = 64) (hl : L.length = 512) (hi : i < 8)
    (h : wpList Tryd.prog ops Q rest (a.put o.dst undef) (w.setRow g (fc (putAt L (64 * i) F)))) : wpList Tryd.prog ops Q (o :: rest) a w := by
  subst hq
  refine wpList_store_mid hgd _ x y ho g _ _ hx hy (fun j hj => ?_) (by rw [fc_size, hF]; kernel_rfl) (by simp [fc, Value.oneCell']) ?_
  · rw [fc_size, hF] at hj
    exact ⟨by rw [cell_of_row w g _ _ _ _ hg, fc_get L _ (by omega)]; rfl, frozen_of_row w g _ _ _ hg⟩
  · have e : (fc F).toList = F.map (Value.int .u16) := by unfold fc; simp
    rw [e, setCells_fc g t F L (64 * i) w hg]
    exact h
def zero8 : List Int := zerosI 512
theorem zero8_len : zero8.length = 512 := zerosI_len 512
/-- Eight frames, read out of bytes. -/
def rd8 (B : List Int) : Nat → List Int
  | 0 => zero8
  | k + 1 => putAt (rd8 B k) (64 * k) (rdF (B.drop (96 * k)))
theorem rd8_len (B : List Int) : ∀ k, (rd8 B k).length = 512
  | 0 => zero8_len
  | k + 1 => by unfold rd8; rw [putAt_len, rd8_len B k]
theorem rd8_0 (B : List Int) : rd8 B 0 = zero8 := rfl
theorem rd8_succ (B : List Int) (k : Nat) : putAt (rd8 B k) (64 * k) (rdF (B.drop (96 * k))) = rd8 B (k + 1) := rfl
attribute [irreducible] rd8 zero8
theorem bs_drop {B : List Int} (hB : Bs B) (k : Nat) : Bs (B.drop k) := fun j => by
  have := hB (k + j)
  unfold gw at *
  simpa [List.getD_eq_getElem?_getD, List.getElem?_drop] using this
theorem store_eight {ops : Array Oper} {rest : List Oper} {o : Oper} {a : Act} {w : World} {Q : Exit → Act → World → Prop} (hgd : o.guard = none) (x y : Operand) (ho : o.op = .store 76 x y)
    (g : Nat) (hx : a.eval x = .pointer (some ⟨g, 0, none⟩)) (F : List Int) (hy : a.eval y = .agg (fc F)) (G : List Int) (hg : At w g (.cells (fc G) 76 (0, 0))) (hl : F.length = 512) (hl' : G.length = 512)
    (h : wpList Tryd.prog ops Q rest (a.put o.dst undef) (w.setRow g (fc F))) : wpList Tryd.prog ops Q (o :: rest) a w :=
  wpList_store_row hgd _ x y ho g _ hx hy _ _ hg (by rw [fc_size, hl]; kernel_rfl) (by rw [fc_size, fc_size, hl, hl']) (by simp [fc, Value.oneCell']) h

set_option maxRecDepth 100000 in
theorem info_eight : (Tryd.prog.info? 76).map (fun i => (i.zero, i.size)) = some (some (.agg (fc (List.replicate 512 0))), 512) := by kernel_rfl
@[go_sem high] theorem zero_eight (w : World) : (zeroValue 76).run Tryd.prog w = .ok (.agg (fc zero8)) w := by
  unfold zero8 zerosI
  exact (zero_of_info info_eight).1 w

set_option maxRecDepth 100000 in
@[go_sem high] theorem fold_eight : Tryd.zeroCells76 = fc zero8 := by
  unfold zero8 zerosI
  kernel_rfl
theorem ret_eight {fn : Func} {p q : Tmp} (h : fn.results = #[.cell p 76, .tmp q]) (a : Act) (w : World) (g : Nat) (G : List Int) (v : Value) (hp : a.tmps.getD p undef = .pointer (some ⟨g, 0, none⟩)) (hq : a.tmps.getD q undef = v)
    (hd : a.defers = []) {R : Ending → World → Prop} (hg : At w g (.cells (fc G) 76 (0, 0))) (hl : G.length = 512) (hR : R (.returned (.tuple #[.agg (fc G), v])) w) : bodyPost Tryd.prog fn R .ret a w :=
  bodyPost_ret (by
    have hp' : a.tmps[p]?.getD undef = .pointer (some ⟨g, 0, none⟩) := by simpa using hp
    have hq' : a.tmps[q]?.getD undef = v := by simpa using hq
    have hld := run_loadVar_row (P := Tryd.prog) w g _ _ _ _ _ hg Tryd.underlying76 rfl (by rw [fc_size, hl]; kernel_rfl)
    simp [results, h, hp', hq', asAddr, hld]) hd hR

set_option maxHeartbeats 600000 in
set_option maxRecDepth 100000 in
theorem GetSecond_bad (A : Option Addr) (n c : Nat) (at_ : Int) (hm : n ≤ 9223372036854775807) (ha : at_ ≤ 9223372036854775807) (w : World) (E : Int) (he : placeE n at_ 768 = E) (hE : E ≠ 0) :
    Calls Tryd.prog 59 #[.slice A n c, .int .i64 at_] w fun e w' => e = .returned (.tuple #[.agg (fc zero8), .int .i64 E]) ∧ ∃ x, w' = gx w x := by
  have hl := zero8_len
  have hb : (E != 0) = true := by rw [bne_iff_ne]; exact hE
  have HE := Lib.hid he
  clear he
  go_enter Tryd.func59, Tryd.ntmps59
  go_wp2_with (first | (refine load_eight rfl _ rfl _ rfl zero8 ?_ hl ?_; (focus (repeat (first | (with_reducible assumption) | (with_reducible exact At.new _ _) | (with_reducible refine At.row ?_) | (with_reducible refine At.app ?_) | (with_reducible refine At.tick ?_) | (with_reducible refine At.gx ?_) | ((with_reducible refine At.new' ?_); focus (simp; done)) | (with_reducible refine At.alloc ?_) | (with_reducible refine At.drew ?_) | (with_reducible exact Is.new _ _ _) | (with_reducible refine Is.row ?_) | (with_reducible refine Is.gx ?_) | ((with_reducible refine Is.new' ?_); focus (simp; done)) | (with_reducible refine Is.alloc ?_) | (with_reducible refine Is.drew ?_))))) | (refine store_eight rfl _ _ rfl _ rfl zero8 rfl zero8 ?_ hl hl ?_; (focus (repeat (first | (with_reducible assumption) | (with_reducible exact At.new _ _) | (with_reducible refine At.row ?_) | (with_reducible refine At.app ?_) | (with_reducible refine At.tick ?_) | (with_reducible refine At.gx ?_) | ((with_reducible refine At.new' ?_); focus (simp; done)) | (with_reducible refine At.alloc ?_) | (with_reducible refine At.drew ?_) | (with_reducible exact Is.new _ _ _) | (with_reducible refine Is.row ?_) | (with_reducible refine Is.gx ?_) | ((with_reducible refine Is.new' ?_); focus (simp; done)) | (with_reducible refine Is.alloc ?_) | (with_reducible refine Is.drew ?_))))) | (go_at_call 110; refine (checkRoom_any A n c at_ 768 hm ha _).mono ?_; rw [HE.out]; rintro e w' ⟨rfl, rfl⟩))
  refine ret_eight rfl _ _ _ zero8 _ rfl rfl rfl ?_ hl ?_
  · (focus (repeat (first | (with_reducible assumption) | (with_reducible exact At.new _ _) | (with_reducible refine At.row ?_) | (with_reducible refine At.app ?_) | (with_reducible refine At.tick ?_) | (with_reducible refine At.gx ?_) | ((with_reducible refine At.new' ?_); focus (simp; done)) | (with_reducible refine At.alloc ?_) | (with_reducible refine At.drew ?_) | (with_reducible exact Is.new _ _ _) | (with_reducible refine Is.row ?_) | (with_reducible refine Is.gx ?_) | ((with_reducible refine Is.new' ?_); focus (simp; done)) | (with_reducible refine Is.alloc ?_) | (with_reducible refine Is.drew ?_))))
  · exact ⟨rfl, (by repeat (first | (with_reducible exact Gx.refl _) | (with_reducible assumption) | (with_reducible refine Gx.gx ?_) | (with_reducible refine Gx.alloc ?_) | (with_reducible refine Gx.drew ?_) | (with_reducible refine Gx.drewN ?_) | (with_reducible refine Gx.setRow ?_ (by simp)) | (with_reducible refine Gx.setCell ?_ (by simp))))⟩
set_option maxHeartbeats 600000 in
set_option maxRecDepth 100000 in
theorem RGetSecond_bad (A : Option Addr) (n c : Nat) (at_ : Int) (hm : n ≤ 9223372036854775807) (ha : at_ ≤ 9223372036854775807) (w : World) (E : Int) (he : placeE n at_ 768 = E) (hE : E ≠ 0) :
    Calls Tryd.prog 60 #[.slice A n c, .int .i64 at_] w fun e w' => e = .returned (.tuple #[.agg (fc zero8), .int .i64 E]) ∧ ∃ x, w' = gx w x := by
  have hl := zero8_len
  have hb : (E != 0) = true := by rw [bne_iff_ne]; exact hE
  have HE := Lib.hid he
  clear hE he
  go_enter Tryd.func60, Tryd.ntmps60
  go_wp2_with (first | (refine load_eight rfl _ rfl _ rfl zero8 ?_ hl ?_; (focus (repeat (first | (with_reducible assumption) | (with_reducible exact At.new _ _) | (with_reducible refine At.row ?_) | (with_reducible refine At.app ?_) | (with_reducible refine At.tick ?_) | (with_reducible refine At.gx ?_) | ((with_reducible refine At.new' ?_); focus (simp; done)) | (with_reducible refine At.alloc ?_) | (with_reducible refine At.drew ?_) | (with_reducible exact Is.new _ _ _) | (with_reducible refine Is.row ?_) | (with_reducible refine Is.gx ?_) | ((with_reducible refine Is.new' ?_); focus (simp; done)) | (with_reducible refine Is.alloc ?_) | (with_reducible refine Is.drew ?_))))) | (refine store_eight rfl _ _ rfl _ rfl zero8 rfl zero8 ?_ hl hl ?_; (focus (repeat (first | (with_reducible assumption) | (with_reducible exact At.new _ _) | (with_reducible refine At.row ?_) | (with_reducible refine At.app ?_) | (with_reducible refine At.tick ?_) | (with_reducible refine At.gx ?_) | ((with_reducible refine At.new' ?_); focus (simp; done)) | (with_reducible refine At.alloc ?_) | (with_reducible refine At.drew ?_) | (with_reducible exact Is.new _ _ _) | (with_reducible refine Is.row ?_) | (with_reducible refine Is.gx ?_) | ((with_reducible refine Is.new' ?_); focus (simp; done)) | (with_reducible refine Is.alloc ?_) | (with_reducible refine Is.drew ?_))))) | (go_at_call 108; refine (Place_any A n c at_ 768 hm ha (by decide) _).mono ?_; rw [HE.out]; rintro e w' ⟨rfl, rfl⟩))
  refine ret_eight rfl _ _ _ zero8 _ rfl rfl rfl ?_ hl ?_
  · (focus (repeat (first | (with_reducible assumption) | (with_reducible exact At.new _ _) | (with_reducible refine At.row ?_) | (with_reducible refine At.app ?_) | (with_reducible refine At.tick ?_) | (with_reducible refine At.gx ?_) | ((with_reducible refine At.new' ?_); focus (simp; done)) | (with_reducible refine At.alloc ?_) | (with_reducible refine At.drew ?_) | (with_reducible exact Is.new _ _ _) | (with_reducible refine Is.row ?_) | (with_reducible refine Is.gx ?_) | ((with_reducible refine Is.new' ?_); focus (simp; done)) | (with_reducible refine Is.alloc ?_) | (with_reducible refine Is.drew ?_))))
  · exact ⟨rfl, (by repeat (first | (with_reducible exact Gx.refl _) | (with_reducible assumption) | (with_reducible refine Gx.gx ?_) | (with_reducible refine Gx.alloc ?_) | (with_reducible refine Gx.drew ?_) | (with_reducible refine Gx.drewN ?_) | (with_reducible refine Gx.setRow ?_ (by simp)) | (with_reducible refine Gx.setCell ?_ (by simp))))⟩

set_option maxHeartbeats 1000000 in
set_option maxRecDepth 100000 in
theorem GetSecond_good (B : List Int) (hB : Bs B) (b o n c a : Nat) (hm : n ≤ 9223372036854775807) (hnc : n ≤ c) (hcm : c ≤ 9223372036854775807) (h : a + 768 ≤ n) (w : World)
    (hc : ∀ j, j < 768 → w.cell? ⟨b, o + a + j, none⟩ = some (.int .u8 (gw B j))) :
    Calls Tryd.prog 59 #[.slice (some ⟨b, o, none⟩) n c, .int .i64 a] w fun e w' => e = .returned (.tuple #[.agg (fc (rd8 B 8)), .int .i64 0]) ∧ ∃ x, w' = gx w x := by
  have hl := zero8_len
  have hl8 := rd8_len B 8
  have hp : placeE n (a : Int) 768 = 0 := by unfold placeE; rw [if_neg (by omega), if_neg (by omega)]
  have HP := Lib.hid hp
  have hcs : ∀ k, k < 8 → ∀ j, j < 96 → w.cell? ⟨b, o + a + 96 * k + j, none⟩ = some (.int .u8 (gw (B.drop (96 * k)) j)) := fun k hk j hj => by
    have := hc (96 * k + j) (by omega)
    rw [gw_drop, show o + a + 96 * k + j = o + a + (96 * k + j) by omega]
    exact this
  have HC := Lib.hid hcs
  have hat : ∀ w, (Instr.arrayAt 148 (.slice (some ⟨b, o + a, none⟩) (n - a) (c - a))).run Tryd.prog w = .ok (.pointer (some ⟨b, o + a, none⟩)) w := fun w => run_arrayAt _ _ _ _ _ _ _ Tryd.underlying148 (by omega)
  have hac : ¬ (c = a) := by omega
  have E0 := Lib.hid (rd8_0 B)
  clear hp hc hcs
  go_enter Tryd.func59, Tryd.ntmps59
  go_wp2_with (go_at_call 110; refine (checkRoom_any _ n c a 768 hm (by omega) _).mono ?_; rw [HP.out]; rintro e w' ⟨rfl, rfl⟩)
  go_loopw [21] (fun i wr => ∃ k : Nat, k ≤ 8 ∧ i = .int .i64 k ∧ ∃ y, wr = gx ((w.alloc (.cells (fc zero8) 76)).alloc (.cells (fc (rd8 B k)) 76)) y) (fun i _ => 8 - (intOf i).toNat)
  case atStart => exact ⟨0, by decide, rfl, by rw [E0.out]; exact ⟨_, (gx_none _).symm⟩⟩
  case round =>
    obtain ⟨k, hk, rfl, y, rfl⟩ := hrel
    have hlk := rd8_len B k
    by_cases hlt : k < 8
    · have hb := bs_drop hB (96 * k)
      have hc' := Lib.hid (HC.out k hlt)
      have hs := Lib.hid (rd8_succ B k)
      have hlf := rdF_len (B.drop (96 * k))
      go_wp2_with (first | (refine store_sub rfl _ _ rfl _ _ k rfl _ rfl ?_ (rd8 B k) 76 ?_ hlf hlk hlt ?_; (focus omega); (focus (repeat (first | (with_reducible assumption) | (with_reducible exact At.new _ _) | (with_reducible refine At.row ?_) | (with_reducible refine At.app ?_) | (with_reducible refine At.tick ?_) | (with_reducible refine At.gx ?_) | ((with_reducible refine At.new' ?_); focus (simp; done)) | (with_reducible refine At.alloc ?_) | (with_reducible refine At.drew ?_) | (with_reducible exact Is.new _ _ _) | (with_reducible refine Is.row ?_) | (with_reducible refine Is.gx ?_) | ((with_reducible refine Is.new' ?_); focus (simp; done)) | (with_reducible refine Is.alloc ?_) | (with_reducible refine Is.drew ?_))))) | (go_at_call 111; refine (frameOf_any b (o + a) k hlt _).mono ?_; rintro e w' ⟨rfl, rfl⟩) | (go_at_call 107; refine (read_any (B.drop (96 * k)) hb b (o + a + 96 * k) _ ?_).mono ?_; (focus (intro j hj; repeat (first | (with_reducible exact hc'.out j hj) | (with_reducible refine cell_keep_gx ?_) | (with_reducible refine cell_keep_alloc ?_)))); rintro e w' ⟨rfl, z, rfl⟩))
      go_roundw
      case rel => exact ⟨k + 1, by omega, by go_num, by rw [← hs.out]; exact ⟨_, rfl⟩⟩
      case measure => simp [intOf]; omega
    · obtain rfl : k = 8 := by omega
      go_wp2_with (first | (refine load_eight rfl _ rfl _ rfl (rd8 B 8) ?_ hl8 ?_; (focus (repeat (first | (with_reducible assumption) | (with_reducible exact At.new _ _) | (with_reducible refine At.row ?_) | (with_reducible refine At.app ?_) | (with_reducible refine At.tick ?_) | (with_reducible refine At.gx ?_) | ((with_reducible refine At.new' ?_); focus (simp; done)) | (with_reducible refine At.alloc ?_) | (with_reducible refine At.drew ?_) | (with_reducible exact Is.new _ _ _) | (with_reducible refine Is.row ?_) | (with_reducible refine Is.gx ?_) | ((with_reducible refine Is.new' ?_); focus (simp; done)) | (with_reducible refine Is.alloc ?_) | (with_reducible refine Is.drew ?_))))) | (refine store_eight rfl _ _ rfl _ rfl (rd8 B 8) rfl zero8 ?_ hl8 hl ?_; (focus (repeat (first | (with_reducible assumption) | (with_reducible exact At.new _ _) | (with_reducible refine At.row ?_) | (with_reducible refine At.app ?_) | (with_reducible refine At.tick ?_) | (with_reducible refine At.gx ?_) | ((with_reducible refine At.new' ?_); focus (simp; done)) | (with_reducible refine At.alloc ?_) | (with_reducible refine At.drew ?_) | (with_reducible exact Is.new _ _ _) | (with_reducible refine Is.row ?_) | (with_reducible refine Is.gx ?_) | ((with_reducible refine Is.new' ?_); focus (simp; done)) | (with_reducible refine Is.alloc ?_) | (with_reducible refine Is.drew ?_))))))
      refine ret_eight rfl _ _ _ (rd8 B 8) _ rfl rfl rfl ?_ hl8 ?_
      · (focus (repeat (first | (with_reducible assumption) | (with_reducible exact At.new _ _) | (with_reducible refine At.row ?_) | (with_reducible refine At.app ?_) | (with_reducible refine At.tick ?_) | (with_reducible refine At.gx ?_) | ((with_reducible refine At.new' ?_); focus (simp; done)) | (with_reducible refine At.alloc ?_) | (with_reducible refine At.drew ?_) | (with_reducible exact Is.new _ _ _) | (with_reducible refine Is.row ?_) | (with_reducible refine Is.gx ?_) | ((with_reducible refine Is.new' ?_); focus (simp; done)) | (with_reducible refine Is.alloc ?_) | (with_reducible refine Is.drew ?_))))
      · exact ⟨rfl, (by repeat (first | (with_reducible exact Gx.refl _) | (with_reducible assumption) | (with_reducible refine Gx.gx ?_) | (with_reducible refine Gx.alloc ?_) | (with_reducible refine Gx.drew ?_) | (with_reducible refine Gx.drewN ?_) | (with_reducible refine Gx.setRow ?_ (by simp)) | (with_reducible refine Gx.setCell ?_ (by simp))))⟩
set_option maxHeartbeats 1000000 in
set_option maxRecDepth 100000 in
theorem RGetSecond_good (B : List Int) (hB : Bs B) (b o n c a : Nat) (hm : n ≤ 9223372036854775807) (hnc : n ≤ c) (hcm : c ≤ 9223372036854775807) (h : a + 768 ≤ n) (w : World)
    (hc : ∀ j, j < 768 → w.cell? ⟨b, o + a + j, none⟩ = some (.int .u8 (gw B j))) :
    Calls Tryd.prog 60 #[.slice (some ⟨b, o, none⟩) n c, .int .i64 a] w fun e w' => e = .returned (.tuple #[.agg (fc (rd8 B 8)), .int .i64 0]) ∧ ∃ x, w' = gx w x := by
  have hl := zero8_len
  have hl8 := rd8_len B 8
  have hp : placeE n (a : Int) 768 = 0 := by unfold placeE; rw [if_neg (by omega), if_neg (by omega)]
  have HP := Lib.hid hp
  have hcs : ∀ k, k < 8 → ∀ j, j < 96 → w.cell? ⟨b, o + a + 96 * k + j, none⟩ = some (.int .u8 (gw (B.drop (96 * k)) j)) := fun k hk j hj => by
    have := hc (96 * k + j) (by omega)
    rw [gw_drop, show o + a + 96 * k + j = o + a + (96 * k + j) by omega]
    exact this
  have HC := Lib.hid hcs
  have E0 := Lib.hid (rd8_0 B)
  clear hp hc hcs
  go_enter Tryd.func60, Tryd.ntmps60
  go_wp2_with (go_at_call 108; refine (Place_any _ n c a 768 hm (by omega) (by decide) _).mono ?_; rw [HP.out]; rintro e w' ⟨rfl, rfl⟩)
  go_loopw [16] (fun i wr => ∃ k : Nat, k ≤ 8 ∧ i = .int .i64 k ∧ ∃ y, wr = gx ((w.alloc (.cells (fc zero8) 76)).alloc (.cells (fc (rd8 B k)) 76)) y) (fun i _ => 8 - (intOf i).toNat)
  case atStart => exact ⟨0, by decide, rfl, by rw [E0.out]; exact ⟨_, (gx_none _).symm⟩⟩
  case round =>
    obtain ⟨k, hk, rfl, y, rfl⟩ := hrel
    have hlk := rd8_len B k
    by_cases hlt : k < 8
    · have hb := bs_drop hB (96 * k)
      have hc' : Hid (∀ j, j < 96 → w.cell? ⟨b, o + (a + k * 96) + j, none⟩ = some (.int .u8 (gw (B.drop (96 * k)) j))) := Lib.hid (fun j hj => by rw [show o + (a + k * 96) + j = o + a + 96 * k + j by omega]; exact HC.out k hlt j hj)
      have hs := Lib.hid (rd8_succ B k)
      have hac : ¬ (c = a + k * 96) := by omega
      have hw : IntKind.i64.wrap ((k : Int) * 96) = (k : Int) * 96 := IntWalk.i64_in _ (by omega)
      have hw2 : IntKind.i64.wrap ((a : Int) + (k : Int) * 96) = (a : Int) + (k : Int) * 96 := IntWalk.i64_in _ (by omega)
      have e1 : ((a : Int) + (k : Int) * 96).toNat = a + k * 96 := by omega
      have b1 : 0 ≤ (a : Int) + (k : Int) * 96 := by omega
      have b2 : (a : Int) + (k : Int) * 96 ≤ (n : Int) := by omega
      have hlf := rdF_len (B.drop (96 * k))
      go_wp2_with (first | (refine store_sub rfl _ _ rfl _ _ k rfl _ rfl ?_ (rd8 B k) 76 ?_ hlf hlk hlt ?_; (focus omega); (focus (repeat (first | (with_reducible assumption) | (with_reducible exact At.new _ _) | (with_reducible refine At.row ?_) | (with_reducible refine At.app ?_) | (with_reducible refine At.tick ?_) | (with_reducible refine At.gx ?_) | ((with_reducible refine At.new' ?_); focus (simp; done)) | (with_reducible refine At.alloc ?_) | (with_reducible refine At.drew ?_) | (with_reducible exact Is.new _ _ _) | (with_reducible refine Is.row ?_) | (with_reducible refine Is.gx ?_) | ((with_reducible refine Is.new' ?_); focus (simp; done)) | (with_reducible refine Is.alloc ?_) | (with_reducible refine Is.drew ?_))))) | (go_at_call 105; refine (Rframe_any (B.drop (96 * k)) hb b (o + (a + k * 96)) _ _ (by omega) (by omega) _ ?_).mono ?_; (focus (intro j hj; repeat (first | (with_reducible exact hc'.out j hj) | (with_reducible refine cell_keep_gx ?_) | (with_reducible refine cell_keep_alloc ?_)))); rintro e w' ⟨rfl, z, rfl⟩))
      go_roundw
      case rel => exact ⟨k + 1, by omega, by go_num, by rw [← hs.out]; exact ⟨_, rfl⟩⟩
      case measure => simp [intOf]; omega
    · obtain rfl : k = 8 := by omega
      go_wp2_with (first | (refine load_eight rfl _ rfl _ rfl (rd8 B 8) ?_ hl8 ?_; (focus (repeat (first | (with_reducible assumption) | (with_reducible exact At.new _ _) | (with_reducible refine At.row ?_) | (with_reducible refine At.app ?_) | (with_reducible refine At.tick ?_) | (with_reducible refine At.gx ?_) | ((with_reducible refine At.new' ?_); focus (simp; done)) | (with_reducible refine At.alloc ?_) | (with_reducible refine At.drew ?_) | (with_reducible exact Is.new _ _ _) | (with_reducible refine Is.row ?_) | (with_reducible refine Is.gx ?_) | ((with_reducible refine Is.new' ?_); focus (simp; done)) | (with_reducible refine Is.alloc ?_) | (with_reducible refine Is.drew ?_))))) | (refine store_eight rfl _ _ rfl _ rfl (rd8 B 8) rfl zero8 ?_ hl8 hl ?_; (focus (repeat (first | (with_reducible assumption) | (with_reducible exact At.new _ _) | (with_reducible refine At.row ?_) | (with_reducible refine At.app ?_) | (with_reducible refine At.tick ?_) | (with_reducible refine At.gx ?_) | ((with_reducible refine At.new' ?_); focus (simp; done)) | (with_reducible refine At.alloc ?_) | (with_reducible refine At.drew ?_) | (with_reducible exact Is.new _ _ _) | (with_reducible refine Is.row ?_) | (with_reducible refine Is.gx ?_) | ((with_reducible refine Is.new' ?_); focus (simp; done)) | (with_reducible refine Is.alloc ?_) | (with_reducible refine Is.drew ?_))))))
      refine ret_eight rfl _ _ _ (rd8 B 8) _ rfl rfl rfl ?_ hl8 ?_
      · (focus (repeat (first | (with_reducible assumption) | (with_reducible exact At.new _ _) | (with_reducible refine At.row ?_) | (with_reducible refine At.app ?_) | (with_reducible refine At.tick ?_) | (with_reducible refine At.gx ?_) | ((with_reducible refine At.new' ?_); focus (simp; done)) | (with_reducible refine At.alloc ?_) | (with_reducible refine At.drew ?_) | (with_reducible exact Is.new _ _ _) | (with_reducible refine Is.row ?_) | (with_reducible refine Is.gx ?_) | ((with_reducible refine Is.new' ?_); focus (simp; done)) | (with_reducible refine Is.alloc ?_) | (with_reducible refine Is.drew ?_))))
      · exact ⟨rfl, (by repeat (first | (with_reducible exact Gx.refl _) | (with_reducible assumption) | (with_reducible refine Gx.gx ?_) | (with_reducible refine Gx.alloc ?_) | (with_reducible refine Gx.drew ?_) | (with_reducible refine Gx.drewN ?_) | (with_reducible refine Gx.setRow ?_ (by simp)) | (with_reducible refine Gx.setCell ?_ (by simp))))⟩
end Go.Proofs.YtllahhmonoedmaaDoor
