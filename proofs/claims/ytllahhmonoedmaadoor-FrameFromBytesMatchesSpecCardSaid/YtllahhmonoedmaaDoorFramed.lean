/-
  Two frames compared, and the small frame that every law asks for.
-/
import Derived.Test.YtllahhmonoedmaaDoorFlaw
import Derived.DeepKeys
namespace Go.Proofs.YtllahhmonoedmaaDoor
open Go.RowKit

/-- Are two frames equal? -/
def eqF (F G : List Int) : Bool := (List.range 64).all fun i => gw F i == gw G i
theorem eqF_iff {F G : List Int} (hF : F.length = 64) (hG : G.length = 64) : eqF F G = true ↔ F = G := by
  unfold eqF
  rw [List.all_eq_true]
  constructor
  · intro h
    exact ext_gw (by omega) fun k hk => by
      have := h k (List.mem_range.2 (by omega))
      simpa using this
  · rintro rfl i _
    simp
theorem eqF_self (F : List Int) : eqF F F = true := by unfold eqF; simp
attribute [irreducible] eqF

theorem info16 : ∃ i, Tryd.prog.info? 30 = some i ∧ i.size = 1 := by
  have h : (Tryd.prog.info? 30).map (·.size) = some 1 := by kernel_rfl
  obtain ⟨i, h1, h2⟩ := Option.map_eq_some_iff.1 h
  exact ⟨i, h1, h2⟩

theorem part_fr (F : List Int) (i : Nat) (hi : i < 64) (hF : F.length = 64) (w : World) : (part 30 (fc F) i).run Tryd.prog w = .ok (.int .u16 (gw F i)) w := by
  have hg := fc_get F i (by omega)
  simp [part, go_sem, hg]

theorem eqItems_fr (d : Nat) (F G : List Int) (hF : F.length = 64) (hG : G.length = 64) (w : World) : ∀ is : List Nat, (∀ i ∈ is, i < 64) →
    (Op.eqItems (d + 1) 30 1 (fc F) (fc G) is).run Tryd.prog w = .ok (is.all fun i => gw F i == gw G i) w
  | [], _ => by simp [Op.eqItems]
  | i :: is, h => by
    have hi : i < 64 := h i (by simp)
    have ih := eqItems_fr d F G hF hG w is fun j hj => h j (by simp [hj])
    simp only [Op.eqItems, Nat.mul_one, Sem.run_bind, part_fr F i hi hF, part_fr G i hi hG, Result.andThen_ok, run_equalIn_int w d 30 .u16 .u16 _ _ Tryd.underlying30]
    cases hb : gw F i == gw G i
    · simp [hb]
    · simp [hb, ih]

@[go_sem high] theorem equal_fr (F G : List Int) (hF : F.length = 64) (hG : G.length = 64) (w : World) : (Op.equalIn 10000 32 (.agg (fc F)) (.agg (fc G))).run Tryd.prog w = .ok (eqF F G) w := by
  obtain ⟨i, h1, h2⟩ := info16
  rw [run_equalIn_array w 9999 (fc F) (fc G) Tryd.underlying32 h1]
  have h3 : Tryd.prog.cellsOf 30 = 1 := by kernel_rfl
  rw [h3]
  unfold eqF
  exact eqItems_fr 9998 F G hF hG w (List.range 64) fun i hi => List.mem_range.1 hi

/-! Slices that a call makes. -/
def ic (B : List Int) : Array Value := (B.map (Value.int .i64)).toArray
@[go_sem] theorem ic_get (F : List Int) (k : Nat) (h : k < F.length) : (ic F)[k]? = some (.int .i64 (gw F k)) := by
  simp [ic, gw, List.getD, List.getElem?_eq_getElem h]
@[go_sem] theorem ic_set (F : List Int) (k : Nat) (v : Int) : (ic F).setIfInBounds k (.int .i64 v) = ic (F.set k v) := by
  simp [ic, List.map_set]
@[irreducible] def zerosI (n : Nat) : List Int := List.replicate n 0
theorem zerosI_len (n : Nat) : (zerosI n).length = n := by unfold zerosI; simp
theorem zerosI_get (n k : Nat) : gw (zerosI n) k = 0 := by unfold zerosI gw; exact getD_zeros n k
@[go_sem high] theorem make58 (w : World) : (Instr.makeSlice 29 (.int .i64 58) (.int .i64 58)).run Tryd.prog w = .ok (.slice (some ⟨w.heap.size, 0, none⟩) 58 58) (w.alloc (.cells (ic (zerosI 58)) 3)) := by
  unfold zerosI
  kernel_rfl
@[go_sem high] theorem make98 (w : World) : (Instr.makeSlice 61 (.int .i64 98) (.int .i64 98)).run Tryd.prog w = .ok (.slice (some ⟨w.heap.size, 0, none⟩) 98 98) (w.alloc (.cells (bc (zerosI 98)) 5)) := by
  unfold zerosI
  kernel_rfl

/-! The small frame. -/
def dataD : List Int := (zerosI 58).set 0 5
theorem dataD_len : dataD.length = 58 := by unfold dataD; simp [zerosI_len]
def smallF : List Int := newF zeroF 2050 dataD
theorem smallE : newE 2050 dataD = 0 := by decide +kernel
theorem small0 : gw smallF 0 = 2631 := by decide +kernel
theorem small1 : gw smallF 1 = 2 := by decide +kernel
theorem small2 : gw smallF 2 = 1 := by decide +kernel
theorem small3 : gw smallF 3 = 2053 := by decide +kernel
theorem small_sound : soundB smallF = true := by decide +kernel
theorem small_wide : wideB smallF = false := by decide +kernel
def smallB : List Int := wrF (zerosI 98) 1 smallF
theorem smallB0 : gw smallB 0 = 0 := by decide +kernel
theorem smallB97 : gw smallB 97 = 0 := by decide +kernel
def smallT : List Int := smallB.drop 1
theorem small_read : rdF smallT = smallF := by decide +kernel
theorem smallB_len : smallB.length = 98 := by unfold smallB; rw [wrF_len, zerosI_len]
theorem small_len : smallF.length = 64 := by decide +kernel
theorem small_fr : Fr smallF := by
  have hi : inTo dataD 58 = true := by decide +kernel
  have h : smallF = sealI (newTo zeroF 2050 dataD 58) := by unfold smallF newF; rw [smallE]; rfl
  rw [h]
  exact sealI_fr (newTo_fr zeroF_fr 2050 dataD (by decide) (by decide) 58 (by omega) hi)
theorem zeros_bs (n : Nat) : Bs (zerosI n) := fun k => by rw [zerosI_get]; decide
theorem smallB_bs : Bs smallB := wrF_bs (zeros_bs 98) 1 small_fr (wideB_false.1 small_wide)
theorem gw_drop (F : List Int) (n k : Nat) : gw (F.drop n) k = gw F (n + k) := by
  unfold gw
  simp [List.getD, List.getElem?_drop]
theorem smallT_eq : smallB.drop (0 + 1) = smallT := rfl
theorem smallT_bs : Bs smallT := fun k => by unfold smallT; rw [gw_drop]; exact smallB_bs _
attribute [irreducible] dataD smallF smallB smallT

theorem Bs.drop {C : List Int} (h : Bs C) (n : Nat) : Bs (C.drop n) := fun k => by rw [gw_drop]; exact h _
theorem cells_of_at {w : World} {g : Nat} {C : List Int} (hA : At w g (.cells (bc C) 5 (0, 0))) (q n : Nat) (h : q + n ≤ C.length) {B : List Int} (hB : C.drop q = B) : ∀ j, j < n → w.cell? ⟨g, q + j, none⟩ = some (.int .u8 (gw B j)) := by
  intro j hj
  subst hB
  rw [cell_of_row w g (q + j) _ _ _ hA, bc_get C (q + j) (by omega), gw_drop]

theorem icells_of_at {w : World} {g : Nat} {D : List Int} (hA : At w g (.cells (ic D) 3 (0, 0))) (n : Nat) (h : n ≤ D.length) : ∀ j, j < n → w.cell? ⟨g, 0 + j, none⟩ = some (.int .i64 (gw D j)) := by
  intro j hj
  rw [Nat.zero_add, cell_of_row w g j _ _ _ hA, ic_get D j (by omega)]

set_option maxHeartbeats 1000000 in
set_option maxRecDepth 100000 in
theorem framed_any (w : World) (hT : Tab w) :
    Calls Tryd.prog 22 #[] w fun e w' => e = .returned (.bool true) ∧ ∃ x, w' = gx w x := by
  have hl := small_len
  have s0 := small0
  have s1 := small1
  have s2 := small2
  have s3 := small3
  have hd : (zerosI 58).set 0 5 = dataD := by unfold dataD; rfl
  have hdl := zerosI_len 58
  have hbl := smallB_len
  have b0 := smallB0
  have b1 := smallB97
  have hN : newF zeroF 2050 dataD = smallF := by unfold smallF; rfl
  have hE := smallE
  have hB : wrF (zerosI 98) 1 smallF = smallB := by unfold smallB; rfl
  have hR := small_read
  have hq := eqF_self smallF
  go_enter Tryd.func22, Tryd.ntmps22
  go_wp2_with (first | (refine load_fr rfl _ rfl _ rfl ?_ ?_ ?_ ?_; rotate_left; (focus (repeat (first | (with_reducible exact At.new _ _) | (with_reducible refine At.row ?_) | (with_reducible refine At.gx ?_) | ((with_reducible refine At.new' ?_); focus (simp; done)) | (with_reducible refine At.alloc ?_) | (with_reducible refine At.drew ?_) | (with_reducible exact Is.new _ _ _) | (with_reducible refine Is.row ?_) | (with_reducible refine Is.gx ?_) | ((with_reducible refine Is.new' ?_); focus (simp; done)) | (with_reducible refine Is.alloc ?_) | (with_reducible refine Is.drew ?_)))); (focus (with_reducible (first | exact hl | exact hl1 | exact hl2 | exact hl3 | exact hl4 | exact zeroF_len)))) | (refine store_fr rfl _ _ rfl _ rfl _ rfl ?_ ?_ ?_ ?_ ?_; rotate_left; (focus (repeat (first | (with_reducible exact At.new _ _) | (with_reducible refine At.row ?_) | (with_reducible refine At.gx ?_) | ((with_reducible refine At.new' ?_); focus (simp; done)) | (with_reducible refine At.alloc ?_) | (with_reducible refine At.drew ?_) | (with_reducible exact Is.new _ _ _) | (with_reducible refine Is.row ?_) | (with_reducible refine Is.gx ?_) | ((with_reducible refine Is.new' ?_); focus (simp; done)) | (with_reducible refine Is.alloc ?_) | (with_reducible refine Is.drew ?_)))); (focus (with_reducible (first | exact hl | exact hl1 | exact hl2 | exact hl3 | exact hl4 | exact zeroF_len))); (focus (with_reducible (first | exact hl | exact hl1 | exact hl2 | exact hl3 | exact hl4 | exact zeroF_len)))) | (go_at_call 23; refine (New_go 2050 dataD _ 0 58 (by decide) (by decide) dataD_len _ ?_ (icells_of_at ?_ 58 (by rw [dataD_len]; decide))).mono ?_; (focus (repeat (first | (with_reducible exact hT) | (with_reducible assumption) | (with_reducible refine Tab.gx ?_ _) | (with_reducible refine Tab.alloc ?_ _)))); (focus (repeat (first | (with_reducible exact At.new _ _) | (with_reducible refine At.row ?_) | (with_reducible refine At.gx ?_) | ((with_reducible refine At.new' ?_); focus (simp; done)) | (with_reducible refine At.alloc ?_) | (with_reducible refine At.drew ?_) | (with_reducible exact Is.new _ _ _) | (with_reducible refine Is.row ?_) | (with_reducible refine Is.gx ?_) | ((with_reducible refine Is.new' ?_); focus (simp; done)) | (with_reducible refine Is.alloc ?_) | (with_reducible refine Is.drew ?_)))); rintro e w' ⟨rfl, z, rfl⟩) | (go_at_call 30; refine (Flaws_sound smallF small_fr (wideB_false.1 small_wide) small_sound _ ?_).mono ?_; (focus (repeat (first | (with_reducible exact hT) | (with_reducible assumption) | (with_reducible refine Tab.gx ?_ _) | (with_reducible refine Tab.alloc ?_ _)))); rintro e w' ⟨rfl, z, rfl⟩) | (go_at_call 63; refine (Put_good (zerosI 98) (zeros_bs 98) _ 0 98 98 1 smallF small_fr small_wide (by decide) (by decide) (by decide) (by decide) (by rw [zerosI_len]; decide) _ ?_).mono ?_; (focus (repeat (first | (with_reducible exact At.new _ _) | (with_reducible refine At.row ?_) | (with_reducible refine At.gx ?_) | ((with_reducible refine At.new' ?_); focus (simp; done)) | (with_reducible refine At.alloc ?_) | (with_reducible refine At.drew ?_) | (with_reducible exact Is.new _ _ _) | (with_reducible refine Is.row ?_) | (with_reducible refine Is.gx ?_) | ((with_reducible refine Is.new' ?_); focus (simp; done)) | (with_reducible refine Is.alloc ?_) | (with_reducible refine Is.drew ?_)))); rintro e w' ⟨rfl, z, rfl⟩) | (go_at_call 50; refine (Get_good smallT smallT_bs _ 0 98 98 1 (by decide) (by decide) (by decide) (by decide) _ (cells_of_at ?_ (0 + 1) 96 (by rw [smallB_len]; decide) smallT_eq)).mono ?_; (focus (repeat (first | (with_reducible exact At.new _ _) | (with_reducible refine At.row ?_) | (with_reducible refine At.gx ?_) | ((with_reducible refine At.new' ?_); focus (simp; done)) | (with_reducible refine At.alloc ?_) | (with_reducible refine At.drew ?_) | (with_reducible exact Is.new _ _ _) | (with_reducible refine Is.row ?_) | (with_reducible refine Is.gx ?_) | ((with_reducible refine Is.new' ?_); focus (simp; done)) | (with_reducible refine Is.alloc ?_) | (with_reducible refine Is.drew ?_)))); rintro e w' ⟨rfl, z, rfl⟩))
  go_ret
  exact ⟨rfl, (by repeat (first | (with_reducible exact Gx.refl _) | (with_reducible assumption) | (with_reducible refine Gx.gx ?_) | (with_reducible refine Gx.alloc ?_) | (with_reducible refine Gx.drew ?_) | (with_reducible refine Gx.drewN ?_) | (with_reducible refine Gx.setRow ?_ (by simp)) | (with_reducible refine Gx.setCell ?_ (by simp))))⟩
end Go.Proofs.YtllahhmonoedmaaDoor
