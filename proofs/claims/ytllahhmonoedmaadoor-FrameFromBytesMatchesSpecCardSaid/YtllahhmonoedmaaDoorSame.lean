/-
  FromBytes and Same: contracts of both sides.
-/
import Derived.Test.YtllahhmonoedmaaDoorGetSecond
import Derived.Test.YtllahhmonoedmaaDoorInfo8
namespace Go.Proofs.YtllahhmonoedmaaDoor
open Go.RowKit
-- AT2

set_option maxHeartbeats 600000 in
set_option maxRecDepth 100000 in
theorem FromBytes_bad (A : Option Addr) (n c : Nat) (hn : n < 96) (w : World) :
    Calls Tryd.prog 47 #[.slice A n c] w fun e w' => e = .returned (.tuple #[.agg (fc zeroF), .int .i64 3]) ∧ ∃ x, w' = gx w x := by
  have hl := zeroF_len
  have hp : placeE n 0 96 = 3 := by unfold placeE; rw [if_neg (by omega), if_pos (by omega)]
  have HP := Lib.hid hp
  clear hp
  go_enter Tryd.func47, Tryd.ntmps47
  go_wp2_with (first | (refine load_fr rfl _ rfl _ rfl ?_ ?_ ?_ ?_; rotate_left; (focus (repeat (first | (with_reducible assumption) | (with_reducible exact At.new _ _) | (with_reducible refine At.row ?_) | (with_reducible refine At.app ?_) | (with_reducible refine At.tick ?_) | (with_reducible refine At.gx ?_) | ((with_reducible refine At.new' ?_); focus (simp; done)) | (with_reducible refine At.alloc ?_) | (with_reducible refine At.drew ?_) | (with_reducible exact Is.new _ _ _) | (with_reducible refine Is.row ?_) | (with_reducible refine Is.gx ?_) | ((with_reducible refine Is.new' ?_); focus (simp; done)) | (with_reducible refine Is.alloc ?_) | (with_reducible refine Is.drew ?_)))); (focus (with_reducible (first | exact hl | exact hl1 | exact hl2 | exact hl3 | exact hl4 | exact zeroF_len)))) | (refine store_fr rfl _ _ rfl _ rfl _ rfl ?_ ?_ ?_ ?_ ?_; rotate_left; (focus (repeat (first | (with_reducible assumption) | (with_reducible exact At.new _ _) | (with_reducible refine At.row ?_) | (with_reducible refine At.app ?_) | (with_reducible refine At.tick ?_) | (with_reducible refine At.gx ?_) | ((with_reducible refine At.new' ?_); focus (simp; done)) | (with_reducible refine At.alloc ?_) | (with_reducible refine At.drew ?_) | (with_reducible exact Is.new _ _ _) | (with_reducible refine Is.row ?_) | (with_reducible refine Is.gx ?_) | ((with_reducible refine Is.new' ?_); focus (simp; done)) | (with_reducible refine Is.alloc ?_) | (with_reducible refine Is.drew ?_)))); (focus (with_reducible (first | exact hl | exact hl1 | exact hl2 | exact hl3 | exact hl4 | exact zeroF_len))); (focus (with_reducible (first | exact hl | exact hl1 | exact hl2 | exact hl3 | exact hl4 | exact zeroF_len)))) | (go_at_call 50; refine (Get_bad A n c 0 (by omega) (by omega) _ 3 HP.out (by decide)).mono ?_; rintro e w' ⟨rfl, z, rfl⟩))
  (refine ret_fr_tmp rfl _ _ _ ?_ rfl rfl ?_ ?_ ?_; rotate_left; (focus (repeat (first | (with_reducible assumption) | (with_reducible exact At.new _ _) | (with_reducible refine At.row ?_) | (with_reducible refine At.app ?_) | (with_reducible refine At.tick ?_) | (with_reducible refine At.gx ?_) | ((with_reducible refine At.new' ?_); focus (simp; done)) | (with_reducible refine At.alloc ?_) | (with_reducible refine At.drew ?_) | (with_reducible exact Is.new _ _ _) | (with_reducible refine Is.row ?_) | (with_reducible refine Is.gx ?_) | ((with_reducible refine Is.new' ?_); focus (simp; done)) | (with_reducible refine Is.alloc ?_) | (with_reducible refine Is.drew ?_)))); (focus (with_reducible (first | exact hl | exact hl1 | exact hl2 | exact hl3 | exact hl4 | exact zeroF_len))))
  exact ⟨rfl, (by repeat (first | (with_reducible exact Gx.refl _) | (with_reducible assumption) | (with_reducible refine Gx.gx ?_) | (with_reducible refine Gx.alloc ?_) | (with_reducible refine Gx.drew ?_) | (with_reducible refine Gx.drewN ?_) | (with_reducible refine Gx.setRow ?_ (by simp)) | (with_reducible refine Gx.setCell ?_ (by simp))))⟩
set_option maxHeartbeats 600000 in
set_option maxRecDepth 100000 in
theorem RFromBytes_bad (A : Option Addr) (n c : Nat) (hn : n < 96) (w : World) :
    Calls Tryd.prog 49 #[.slice A n c] w fun e w' => e = .returned (.tuple #[.agg (fc zeroF), .int .i64 3]) ∧ ∃ x, w' = gx w x := by
  have hl := zeroF_len
  have h1 : decide ((n : Int) < 96) = true := decide_eq_true (by omega)
  go_enter Tryd.func49, Tryd.ntmps49
  go_wp2_with (first | (refine load_fr rfl _ rfl _ rfl ?_ ?_ ?_ ?_; rotate_left; (focus (repeat (first | (with_reducible assumption) | (with_reducible exact At.new _ _) | (with_reducible refine At.row ?_) | (with_reducible refine At.app ?_) | (with_reducible refine At.tick ?_) | (with_reducible refine At.gx ?_) | ((with_reducible refine At.new' ?_); focus (simp; done)) | (with_reducible refine At.alloc ?_) | (with_reducible refine At.drew ?_) | (with_reducible exact Is.new _ _ _) | (with_reducible refine Is.row ?_) | (with_reducible refine Is.gx ?_) | ((with_reducible refine Is.new' ?_); focus (simp; done)) | (with_reducible refine Is.alloc ?_) | (with_reducible refine Is.drew ?_)))); (focus (with_reducible (first | exact hl | exact hl1 | exact hl2 | exact hl3 | exact hl4 | exact zeroF_len)))) | (refine store_fr rfl _ _ rfl _ rfl _ rfl ?_ ?_ ?_ ?_ ?_; rotate_left; (focus (repeat (first | (with_reducible assumption) | (with_reducible exact At.new _ _) | (with_reducible refine At.row ?_) | (with_reducible refine At.app ?_) | (with_reducible refine At.tick ?_) | (with_reducible refine At.gx ?_) | ((with_reducible refine At.new' ?_); focus (simp; done)) | (with_reducible refine At.alloc ?_) | (with_reducible refine At.drew ?_) | (with_reducible exact Is.new _ _ _) | (with_reducible refine Is.row ?_) | (with_reducible refine Is.gx ?_) | ((with_reducible refine Is.new' ?_); focus (simp; done)) | (with_reducible refine Is.alloc ?_) | (with_reducible refine Is.drew ?_)))); (focus (with_reducible (first | exact hl | exact hl1 | exact hl2 | exact hl3 | exact hl4 | exact zeroF_len))); (focus (with_reducible (first | exact hl | exact hl1 | exact hl2 | exact hl3 | exact hl4 | exact zeroF_len)))))
  (refine ret_fr_tmp rfl _ _ _ ?_ rfl rfl ?_ ?_ ?_; rotate_left; (focus (repeat (first | (with_reducible assumption) | (with_reducible exact At.new _ _) | (with_reducible refine At.row ?_) | (with_reducible refine At.app ?_) | (with_reducible refine At.tick ?_) | (with_reducible refine At.gx ?_) | ((with_reducible refine At.new' ?_); focus (simp; done)) | (with_reducible refine At.alloc ?_) | (with_reducible refine At.drew ?_) | (with_reducible exact Is.new _ _ _) | (with_reducible refine Is.row ?_) | (with_reducible refine Is.gx ?_) | ((with_reducible refine Is.new' ?_); focus (simp; done)) | (with_reducible refine Is.alloc ?_) | (with_reducible refine Is.drew ?_)))); (focus (with_reducible (first | exact hl | exact hl1 | exact hl2 | exact hl3 | exact hl4 | exact zeroF_len))))
  exact ⟨rfl, (by repeat (first | (with_reducible exact Gx.refl _) | (with_reducible assumption) | (with_reducible refine Gx.gx ?_) | (with_reducible refine Gx.alloc ?_) | (with_reducible refine Gx.drew ?_) | (with_reducible refine Gx.drewN ?_) | (with_reducible refine Gx.setRow ?_ (by simp)) | (with_reducible refine Gx.setCell ?_ (by simp))))⟩
set_option maxHeartbeats 600000 in
set_option maxRecDepth 100000 in
theorem RFromBytes_good (B : List Int) (hB : Bs B) (b o n c : Nat) (hm : n ≤ 9223372036854775807) (h : 96 ≤ n) (w : World)
    (hc : ∀ j, j < 96 → w.cell? ⟨b, o + j, none⟩ = some (.int .u8 (gw B j))) :
    Calls Tryd.prog 49 #[.slice (some ⟨b, o, none⟩) n c] w fun e w' => e = .returned (.tuple #[.agg (fc (rdF B)), .int .i64 0]) ∧ ∃ x, w' = gx w x := by
  have hl := zeroF_len
  have hl1 := rdF_len B
  have h1 : decide ((n : Int) < 96) = false := decide_eq_false (by omega)
  have hc' := Lib.hid hc
  clear hc
  go_enter Tryd.func49, Tryd.ntmps49
  go_wp2_with (first | (refine load_fr rfl _ rfl _ rfl ?_ ?_ ?_ ?_; rotate_left; (focus (repeat (first | (with_reducible assumption) | (with_reducible exact At.new _ _) | (with_reducible refine At.row ?_) | (with_reducible refine At.app ?_) | (with_reducible refine At.tick ?_) | (with_reducible refine At.gx ?_) | ((with_reducible refine At.new' ?_); focus (simp; done)) | (with_reducible refine At.alloc ?_) | (with_reducible refine At.drew ?_) | (with_reducible exact Is.new _ _ _) | (with_reducible refine Is.row ?_) | (with_reducible refine Is.gx ?_) | ((with_reducible refine Is.new' ?_); focus (simp; done)) | (with_reducible refine Is.alloc ?_) | (with_reducible refine Is.drew ?_)))); (focus (with_reducible (first | exact hl | exact hl1 | exact hl2 | exact hl3 | exact hl4 | exact zeroF_len)))) | (refine store_fr rfl _ _ rfl _ rfl _ rfl ?_ ?_ ?_ ?_ ?_; rotate_left; (focus (repeat (first | (with_reducible assumption) | (with_reducible exact At.new _ _) | (with_reducible refine At.row ?_) | (with_reducible refine At.app ?_) | (with_reducible refine At.tick ?_) | (with_reducible refine At.gx ?_) | ((with_reducible refine At.new' ?_); focus (simp; done)) | (with_reducible refine At.alloc ?_) | (with_reducible refine At.drew ?_) | (with_reducible exact Is.new _ _ _) | (with_reducible refine Is.row ?_) | (with_reducible refine Is.gx ?_) | ((with_reducible refine Is.new' ?_); focus (simp; done)) | (with_reducible refine Is.alloc ?_) | (with_reducible refine Is.drew ?_)))); (focus (with_reducible (first | exact hl | exact hl1 | exact hl2 | exact hl3 | exact hl4 | exact zeroF_len))); (focus (with_reducible (first | exact hl | exact hl1 | exact hl2 | exact hl3 | exact hl4 | exact zeroF_len)))) | (go_at_call 105; refine (Rframe_any B hB b o _ _ (by omega) (by omega) _ ?_).mono ?_; (focus (intro j hj; repeat (first | (with_reducible exact hc'.out j hj) | (with_reducible refine cell_keep_gx ?_) | (with_reducible refine cell_keep_alloc ?_)))); rintro e w' ⟨rfl, z, rfl⟩))
  (refine ret_fr_tmp rfl _ _ _ ?_ rfl rfl ?_ ?_ ?_; rotate_left; (focus (repeat (first | (with_reducible assumption) | (with_reducible exact At.new _ _) | (with_reducible refine At.row ?_) | (with_reducible refine At.app ?_) | (with_reducible refine At.tick ?_) | (with_reducible refine At.gx ?_) | ((with_reducible refine At.new' ?_); focus (simp; done)) | (with_reducible refine At.alloc ?_) | (with_reducible refine At.drew ?_) | (with_reducible exact Is.new _ _ _) | (with_reducible refine Is.row ?_) | (with_reducible refine Is.gx ?_) | ((with_reducible refine Is.new' ?_); focus (simp; done)) | (with_reducible refine Is.alloc ?_) | (with_reducible refine Is.drew ?_)))); (focus (with_reducible (first | exact hl | exact hl1 | exact hl2 | exact hl3 | exact hl4 | exact zeroF_len))))
  exact ⟨rfl, (by repeat (first | (with_reducible exact Gx.refl _) | (with_reducible assumption) | (with_reducible refine Gx.gx ?_) | (with_reducible refine Gx.alloc ?_) | (with_reducible refine Gx.drew ?_) | (with_reducible refine Gx.drewN ?_) | (with_reducible refine Gx.setRow ?_ (by simp)) | (with_reducible refine Gx.setCell ?_ (by simp))))⟩
set_option maxHeartbeats 600000 in
set_option maxRecDepth 100000 in
theorem FromBytes_good (B : List Int) (hB : Bs B) (b o n c : Nat) (hm : n ≤ 9223372036854775807) (hnc : n ≤ c) (hcm : c ≤ 9223372036854775807) (h : 96 ≤ n) (w : World)
    (hc : ∀ j, j < 96 → w.cell? ⟨b, o + j, none⟩ = some (.int .u8 (gw B j))) :
    Calls Tryd.prog 47 #[.slice (some ⟨b, o, none⟩) n c] w fun e w' => e = .returned (.tuple #[.agg (fc (rdF B)), .int .i64 0]) ∧ ∃ x, w' = gx w x := by
  have hl := zeroF_len
  have hl1 := rdF_len B
  have hg : ∀ w, (∀ j, j < 96 → w.cell? ⟨b, o + j, none⟩ = some (.int .u8 (gw B j))) → Calls Tryd.prog 50 #[.slice (some ⟨b, o, none⟩) n c, .int .i64 0] w fun e w' => e = .returned (.tuple #[.agg (fc (rdF B)), .int .i64 0]) ∧ ∃ x, w' = gx w x := fun w hc =>
    Get_good B hB b o n c 0 hm hnc hcm (by omega) w hc
  have Hg := Lib.hid hg
  have hc' := Lib.hid hc
  clear hc hg
  go_enter Tryd.func47, Tryd.ntmps47
  go_wp2_with (first | (refine load_fr rfl _ rfl _ rfl ?_ ?_ ?_ ?_; rotate_left; (focus (repeat (first | (with_reducible assumption) | (with_reducible exact At.new _ _) | (with_reducible refine At.row ?_) | (with_reducible refine At.app ?_) | (with_reducible refine At.tick ?_) | (with_reducible refine At.gx ?_) | ((with_reducible refine At.new' ?_); focus (simp; done)) | (with_reducible refine At.alloc ?_) | (with_reducible refine At.drew ?_) | (with_reducible exact Is.new _ _ _) | (with_reducible refine Is.row ?_) | (with_reducible refine Is.gx ?_) | ((with_reducible refine Is.new' ?_); focus (simp; done)) | (with_reducible refine Is.alloc ?_) | (with_reducible refine Is.drew ?_)))); (focus (with_reducible (first | exact hl | exact hl1 | exact hl2 | exact hl3 | exact hl4 | exact zeroF_len)))) | (refine store_fr rfl _ _ rfl _ rfl _ rfl ?_ ?_ ?_ ?_ ?_; rotate_left; (focus (repeat (first | (with_reducible assumption) | (with_reducible exact At.new _ _) | (with_reducible refine At.row ?_) | (with_reducible refine At.app ?_) | (with_reducible refine At.tick ?_) | (with_reducible refine At.gx ?_) | ((with_reducible refine At.new' ?_); focus (simp; done)) | (with_reducible refine At.alloc ?_) | (with_reducible refine At.drew ?_) | (with_reducible exact Is.new _ _ _) | (with_reducible refine Is.row ?_) | (with_reducible refine Is.gx ?_) | ((with_reducible refine Is.new' ?_); focus (simp; done)) | (with_reducible refine Is.alloc ?_) | (with_reducible refine Is.drew ?_)))); (focus (with_reducible (first | exact hl | exact hl1 | exact hl2 | exact hl3 | exact hl4 | exact zeroF_len))); (focus (with_reducible (first | exact hl | exact hl1 | exact hl2 | exact hl3 | exact hl4 | exact zeroF_len)))) | (go_at_call 50; refine (Hg.out _ ?_).mono ?_; (focus (intro j hj; repeat (first | (with_reducible exact hc'.out j hj) | (with_reducible refine cell_keep_gx ?_) | (with_reducible refine cell_keep_alloc ?_)))); rintro e w' ⟨rfl, z, rfl⟩))
  (refine ret_fr_tmp rfl _ _ _ ?_ rfl rfl ?_ ?_ ?_; rotate_left; (focus (repeat (first | (with_reducible assumption) | (with_reducible exact At.new _ _) | (with_reducible refine At.row ?_) | (with_reducible refine At.app ?_) | (with_reducible refine At.tick ?_) | (with_reducible refine At.gx ?_) | ((with_reducible refine At.new' ?_); focus (simp; done)) | (with_reducible refine At.alloc ?_) | (with_reducible refine At.drew ?_) | (with_reducible exact Is.new _ _ _) | (with_reducible refine Is.row ?_) | (with_reducible refine Is.gx ?_) | ((with_reducible refine Is.new' ?_); focus (simp; done)) | (with_reducible refine Is.alloc ?_) | (with_reducible refine Is.drew ?_)))); (focus (with_reducible (first | exact hl | exact hl1 | exact hl2 | exact hl3 | exact hl4 | exact zeroF_len))))
  exact ⟨rfl, (by repeat (first | (with_reducible exact Gx.refl _) | (with_reducible assumption) | (with_reducible refine Gx.gx ?_) | (with_reducible refine Gx.alloc ?_) | (with_reducible refine Gx.drew ?_) | (with_reducible refine Gx.drewN ?_) | (with_reducible refine Gx.setRow ?_ (by simp)) | (with_reducible refine Gx.setCell ?_ (by simp))))⟩
/-- The bytes of a frame's place. -/
def win (M : List Int) (q : Nat) : List Int := (M.drop q).take 96
theorem win_len {M : List Int} {q : Nat} (h : q + 96 ≤ M.length) : (win M q).length = 96 := by unfold win; simp; omega
theorem gw_win (M : List Int) (q j : Nat) (hj : j < 96) : gw (win M q) j = gw M (q + j) := by
  unfold win gw
  simp [List.getD_eq_getElem?_getD, hj, List.getElem?_drop]
attribute [irreducible] win
/-- Are two such places equal? -/
def eqW (F G : List Int) : Bool := (List.range 96).all fun i => gw F i == gw G i
theorem eqW_iff {F G : List Int} (hF : F.length = 96) (hG : G.length = 96) : eqW F G = true ↔ F = G := by
  unfold eqW
  rw [List.all_eq_true]
  constructor
  · intro h
    exact ext_gw (by omega) fun k hk => by
      have := h k (List.mem_range.2 (by omega))
      simpa using this
  · rintro rfl i _
    simp
attribute [irreducible] eqW
theorem part_w (F : List Int) (i : Nat) (hi : i < 96) (hF : F.length = 96) (w : World) : (part 5 (bc F) i).run Tryd.prog w = .ok (.int .u8 (gw F i)) w := by
  have hg := bc_get F i (by omega)
  simp [part, go_sem, hg]
theorem eqItems_w (d : Nat) (F G : List Int) (hF : F.length = 96) (hG : G.length = 96) (w : World) : ∀ is : List Nat, (∀ i ∈ is, i < 96) →
    (Op.eqItems (d + 1) 5 1 (bc F) (bc G) is).run Tryd.prog w = .ok (is.all fun i => gw F i == gw G i) w
  | [], _ => by simp [Op.eqItems]
  | i :: is, h => by
    have hi : i < 96 := h i (by simp)
    have ih := eqItems_w d F G hF hG w is fun j hj => h j (by simp [hj])
    simp only [Op.eqItems, Nat.mul_one, Sem.run_bind, part_w F i hi hF, part_w G i hi hG, Result.andThen_ok, run_equalIn_int w d 5 .u8 .u8 _ _ Tryd.underlying5]
    cases hb : gw F i == gw G i
    · simp [hb]
    · simp [hb, ih]
@[go_sem high] theorem equal_w (F G : List Int) (hF : F.length = 96) (hG : G.length = 96) (w : World) : (Op.equalIn 10000 120 (.agg (bc F)) (.agg (bc G))).run Tryd.prog w = .ok (eqW F G) w := by
  obtain ⟨i, h1, h2⟩ := info8
  rw [run_equalIn_array w 9999 (bc F) (bc G) Tryd.underlying120 h1]
  have h3 : Tryd.prog.cellsOf 5 = 1 := by kernel_rfl
  rw [h3]
  unfold eqW
  exact eqItems_w 9998 F G hF hG w (List.range 96) fun i hi => List.mem_range.1 hi
theorem range_w {B : List Int} (hl : B.length = 96) {w : World} {g q : Nat} (hc : ∀ j, j < 96 → w.cell? ⟨g, q + j, none⟩ = some (.int .u8 (gw B j))) : w.rangeAt g q (B.map (Value.int .u8)) := by
  intro j v hj
  have hj' : j < 96 := by
    have := (List.getElem?_eq_some_iff.1 hj).1
    rw [List.length_map, hl] at this
    exact this
  have e := bc_get B j (by omega)
  have hv : v = .int .u8 (gw B j) := by
    have : (bc B)[j]? = some v := by unfold bc; simpa using hj
    rw [e] at this
    exact (Option.some.inj this).symm
  rw [hv]
  exact hc j hj'
theorem quiet_w {ops : Array Oper} {C : World → Prop} {Q : Act → Prop} {a : Act} {o : Oper} {rest : List Oper} (hw : Region.wanted o (yielded ops a.tmps) = true) (x : Operand) (ho : o.op = .load 120 x)
    (g q : Nat) (hx : a.eval x = .pointer (some ⟨g, q, none⟩)) (B : List Int) (hl : B.length = 96) (hC : ∀ w, C w → ∀ j, j < 96 → w.cell? ⟨g, q + j, none⟩ = some (.int .u8 (gw B j)))
    (h : wpQuiet Tryd.prog ops C Q rest (a.put o.dst (.agg (bc B)))) : wpQuiet Tryd.prog ops C Q (o :: rest) a := by
  refine BigFrame.wpQuiet_want hw fun K hK => ⟨.agg (bc B), fun w hw' => ?_, hK _ h⟩
  unfold Oper.quietAt execOp
  simp only [ho, hx, Instr.loadAt, Instr.sureAddr, Sem.run_bind, Sem.run_pure, Result.andThen_ok, run_loadVar_mid w g _ _ _ _ (range_w hl (hC w hw')) Tryd.underlying120 rfl (by rw [List.length_map, hl]; kernel_rfl)]
  exact ⟨rfl, rfl⟩
set_option maxHeartbeats 600000 in
set_option maxRecDepth 100000 in
theorem Same_bad (A A' : Option Addr) (n n' c c' : Nat) (at_ to_ : Int) (hm : n ≤ 9223372036854775807) (ha : at_ ≤ 9223372036854775807) (hm' : n' ≤ 9223372036854775807) (ha' : to_ ≤ 9223372036854775807) (w : World) (E : Int) (hE : E ≠ 0) (he : (placeE n at_ 96 = E) ∨ (placeE n at_ 96 = 0 ∧ placeE n' to_ 96 = E)) :
    Calls Tryd.prog 54 #[.slice A n c, .int .i64 at_, .slice A' n' c', .int .i64 to_] w fun e w' => e = .returned (.tuple #[.bool false, .int .i64 E]) ∧ ∃ x, w' = gx w x := by
  have hb : (E != 0) = true := by rw [bne_iff_ne]; exact hE
  rcases he with he | ⟨he, he'⟩
  · have HE := Lib.hid he
    clear he
    go_enter Tryd.func54, Tryd.ntmps54
    go_wp2_with (go_at_call 110; refine (checkRoom_any A n c at_ 96 hm ha _).mono ?_; rw [HE.out]; rintro e w' ⟨rfl, rfl⟩)
    go_ret2
    exact ⟨rfl, (by repeat (first | (with_reducible exact Gx.refl _) | (with_reducible assumption) | (with_reducible refine Gx.gx ?_) | (with_reducible refine Gx.alloc ?_) | (with_reducible refine Gx.drew ?_) | (with_reducible refine Gx.drewN ?_) | (with_reducible refine Gx.setRow ?_ (by simp)) | (with_reducible refine Gx.setCell ?_ (by simp))))⟩
  · have HE := Lib.hid he
    have HE' := Lib.hid he'
    clear he he'
    go_enter Tryd.func54, Tryd.ntmps54
    go_wp2_with (go_at_call 110; refine (checkRoom_any _ _ _ _ 96 (by assumption) (by assumption) _).mono ?_; (first | rw [HE.out] | rw [HE'.out]); rintro e w' ⟨rfl, rfl⟩)
    go_ret2
    exact ⟨rfl, (by repeat (first | (with_reducible exact Gx.refl _) | (with_reducible assumption) | (with_reducible refine Gx.gx ?_) | (with_reducible refine Gx.alloc ?_) | (with_reducible refine Gx.drew ?_) | (with_reducible refine Gx.drewN ?_) | (with_reducible refine Gx.setRow ?_ (by simp)) | (with_reducible refine Gx.setCell ?_ (by simp))))⟩
set_option maxHeartbeats 1000000 in
set_option maxRecDepth 100000 in
theorem Same_good (B D : List Int) (hB : B.length = 96) (hD : D.length = 96) (b o n c a b' o' n' c' a' : Nat) (hm : n ≤ 9223372036854775807) (hnc : n ≤ c) (hcm : c ≤ 9223372036854775807) (h : a + 96 ≤ n) (hm' : n' ≤ 9223372036854775807) (hnc' : n' ≤ c') (hcm' : c' ≤ 9223372036854775807) (h' : a' + 96 ≤ n') (w : World)
    (hc : ∀ j, j < 96 → w.cell? ⟨b, o + a + j, none⟩ = some (.int .u8 (gw B j))) (hd : ∀ j, j < 96 → w.cell? ⟨b', o' + a' + j, none⟩ = some (.int .u8 (gw D j))) :
    Calls Tryd.prog 54 #[.slice (some ⟨b, o, none⟩) n c, .int .i64 a, .slice (some ⟨b', o', none⟩) n' c', .int .i64 a'] w fun e w' => e = .returned (.tuple #[.bool (eqW B D), .int .i64 0]) ∧ ∃ x, w' = gx w x := by
  have he : placeE n (a : Int) 96 = 0 := by unfold placeE; rw [if_neg (by omega), if_neg (by omega)]
  have he' : placeE n' (a' : Int) 96 = 0 := by unfold placeE; rw [if_neg (by omega), if_neg (by omega)]
  have HE := Lib.hid he
  have HE' := Lib.hid he'
  have Hc := Lib.hid hc
  have Hd := Lib.hid hd
  have hbw : b < w.heap.size := World.block_lt_of_cell? w _ (hc 0 (by omega))
  have hbw' : b' < w.heap.size := World.block_lt_of_cell? w _ (hd 0 (by omega))
  have q1 : (a : Int) ≤ 9223372036854775807 := by omega
  have q2 : (a' : Int) ≤ 9223372036854775807 := by omega
  have hac : ¬ (c = a) := by omega
  have hac' : ¬ (c' = a') := by omega
  have hat : ∀ w, (Instr.arrayAt 120 (.slice (some ⟨b, o + a, none⟩) (n - a) (c - a))).run Tryd.prog w = .ok (.pointer (some ⟨b, o + a, none⟩)) w := fun w => run_arrayAt _ _ _ _ _ _ _ Tryd.underlying120 (by omega)
  have hat' : ∀ w, (Instr.arrayAt 120 (.slice (some ⟨b', o' + a', none⟩) (n' - a') (c' - a'))).run Tryd.prog w = .ok (.pointer (some ⟨b', o' + a', none⟩)) w := fun w => run_arrayAt _ _ _ _ _ _ _ Tryd.underlying120 (by omega)
  clear he he' hc hd
  go_enter Tryd.func54, Tryd.ntmps54
  go_wp2_with (go_at_call 110; refine (checkRoom_any _ _ _ _ 96 (by assumption) (by assumption) _).mono ?_; (first | rw [HE.out] | rw [HE'.out]); rintro e w' ⟨rfl, rfl⟩)
  refine region_gx (by kernel_rfl) (by kernel_rfl) ?_
  repeat (any_goals (first | (refine quiet_w rfl _ rfl b (o + a) rfl B hB ?_ ?_; (focus (rintro _ ⟨x, rfl⟩ j hj; exact cell_keep_gx (Hc.out j hj)))) | (refine quiet_w rfl _ rfl b' (o' + a') rfl D hD ?_ ?_; (focus (rintro _ ⟨x, rfl⟩ j hj; exact cell_keep_gx (Hd.out j hj)))) | go_big_quiet_step (fail) | quiet_step (fail)))
  refine wpQuiet_nil ?_
  rintro _ ⟨x, rfl⟩
  go_wp2
  go_ret2
  exact ⟨rfl, (by repeat (first | (with_reducible exact Gx.refl _) | (with_reducible assumption) | (with_reducible refine Gx.gx ?_) | (with_reducible refine Gx.alloc ?_) | (with_reducible refine Gx.drew ?_) | (with_reducible refine Gx.drewN ?_) | (with_reducible refine Gx.setRow ?_ (by simp)) | (with_reducible refine Gx.setCell ?_ (by simp))))⟩
end Go.Proofs.YtllahhmonoedmaaDoor
