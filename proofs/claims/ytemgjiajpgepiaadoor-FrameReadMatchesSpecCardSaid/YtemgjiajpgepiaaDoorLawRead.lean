/-
  FrameReadMatchesSpec: the walk.
-/
import Derived.Test.YtemgjiajpgepiaaDoorEqual
namespace Go.Proofs.YtemgjiajpgepiaaDoor
open Go.RowKit
-- AT2

/-- Are two digests equal? -/
def eqD (F G : List Int) : Bool := (List.range 8).all fun i => gw F i == gw G i
theorem eqD_self (F : List Int) : eqD F F = true := by unfold eqD; simp
attribute [irreducible] eqD
theorem info8 : ∃ i, Tryd.prog.info? 5 = some i ∧ i.size = 1 := by
  have h : (Tryd.prog.info? 5).map (·.size) = some 1 := by kernel_rfl
  obtain ⟨i, h1, h2⟩ := Option.map_eq_some_iff.1 h
  exact ⟨i, h1, h2⟩
theorem part_dg (F : List Int) (i : Nat) (hi : i < 8) (hF : F.length = 8) (w : World) : (part 5 (bc F) i).run Tryd.prog w = .ok (.int .u8 (gw F i)) w := by
  have hg := bc_get F i (by omega)
  simp [part, go_sem, hg]
theorem eqItems_dg (d : Nat) (F G : List Int) (hF : F.length = 8) (hG : G.length = 8) (w : World) : ∀ is : List Nat, (∀ i ∈ is, i < 8) →
    (Op.eqItems (d + 1) 5 1 (bc F) (bc G) is).run Tryd.prog w = .ok (is.all fun i => gw F i == gw G i) w
  | [], _ => by simp [Op.eqItems]
  | i :: is, h => by
    have hi : i < 8 := h i (by simp)
    have ih := eqItems_dg d F G hF hG w is fun j hj => h j (by simp [hj])
    simp only [Op.eqItems, Nat.mul_one, Sem.run_bind, part_dg F i hi hF, part_dg G i hi hG, Result.andThen_ok, run_equalIn_int w d 5 .u8 .u8 _ _ Tryd.underlying5]
    cases hb : gw F i == gw G i
    · simp [hb]
    · simp [hb, ih]
@[go_sem high] theorem equal_dg (F G : List Int) (hF : F.length = 8) (hG : G.length = 8) (w : World) : (Op.equalIn 10000 51 (.agg (bc F)) (.agg (bc G))).run Tryd.prog w = .ok (eqD F G) w := by
  obtain ⟨i, h1, h2⟩ := info8
  rw [run_equalIn_array w 9999 (bc F) (bc G) Tryd.underlying51 h1]
  have h3 : Tryd.prog.cellsOf 5 = 1 := by kernel_rfl
  rw [h3]
  unfold eqD
  exact eqItems_dg 9998 F G hF hG w (List.range 8) fun i hi => List.mem_range.1 hi

theorem isFr_gx (W : World) (x : Ext) (g : Nat) (h : g < W.heap.size) : IsFr (gx W x) g ↔ IsFr W g := by
  unfold IsFr At; rw [heap_gx W x g h]
theorem frOf_gx (W : World) (x : Ext) (g : Nat) (h : g < W.heap.size) : frOf (gx W x) g = frOf W g := by
  unfold frOf; rw [heap_gx W x g h]
theorem vl_ic (F : List Int) : vlTo F 58 = vlL F 58 := by
  have key : ∀ k, ∀ j, j < k → gw (vlL F k) j = vlI F j := by
    intro k
    induction k with
    | zero => intro j h; omega
    | succ k ih =>
      intro j h
      unfold vlL gw
      by_cases e : j = k
      · subst e
        rw [List.getD_eq_getElem?_getD, List.getElem?_append_right (by rw [vlL_len]; exact Nat.le_refl _), vlL_len, Nat.sub_self]
        rfl
      · rw [List.getD_eq_getElem?_getD, List.getElem?_append_left (by rw [vlL_len]; omega), ← List.getD_eq_getElem?_getD]
        have := ih j (by omega)
        first | (unfold gw at this; exact this) | (unfold gb at this; exact this)
  exact ext_gw (by rw [vlTo_len, vlL_len]) fun j hj => by
    rw [vlTo_len] at hj
    rw [gw_vlTo F 58 (by decide) j, if_pos hj, key 58 j hj]
theorem td_lc (F : List Int) : tdTo F 58 = tdL F 58 := by
  have key : ∀ k, ∀ j, j < k → gb (tdL F k) j = toldI (gw F (3 + j)) := by
    intro k
    induction k with
    | zero => intro j h; omega
    | succ k ih =>
      intro j h
      unfold tdL gb
      by_cases e : j = k
      · subst e
        rw [List.getD_eq_getElem?_getD, List.getElem?_append_right (by rw [tdL_len]; exact Nat.le_refl _), tdL_len, Nat.sub_self]
        rfl
      · rw [List.getD_eq_getElem?_getD, List.getElem?_append_left (by rw [tdL_len]; omega), ← List.getD_eq_getElem?_getD]
        have := ih j (by omega)
        first | (unfold gw at this; exact this) | (unfold gb at this; exact this)
  refine List.ext_getElem (by rw [tdTo_len, tdL_len]) fun j h1 h2 => ?_
  have h3 := gb_tdTo F 58 (by decide) j (by rw [tdTo_len] at h1; exact h1)
  have h4 := key 58 j (by rw [tdTo_len] at h1; exact h1)
  rw [← h4] at h3
  unfold gb at h3
  simpa [List.getD, List.getElem?_eq_getElem h1, List.getElem?_eq_getElem h2] using h3

theorem arr_ints (P : List Int) : ic P = (iC P).toArray := by unfold ic iC; rfl
theorem arr_bools (P : List Bool) : lc P = (bL P).toArray := by unfold lc bL; rfl
theorem Values_sl (F : List Int) (hF : Fr F) (w : World) :
    Calls Tryd.prog 26 #[.agg (fc F)] w fun e w' => ∃ A1 A2 x, e = .returned (.tuple #[.slice A1 58 58, .slice A2 58 58]) ∧ w' = gx w x ∧ Shows (iC (vlL F 58)) A1 (gx w x) ∧ Shows (bL (tdL F 58)) A2 (gx w x) := by
  refine (Values_gen F hF w).mono ?_
  rintro e w' ⟨rfl, x, rfl⟩
  have hG : ∃ y, gx (((w.alloc (.cells (fc F) 32)).alloc (.cells (ic (vlTo F 58)) 3)).alloc (.cells (lc (tdTo F 58)) 4)) x = gx w y := by exact (by repeat (first | (with_reducible exact Gx.refl _) | (with_reducible assumption) | (with_reducible refine Gx.gx ?_) | (with_reducible refine Gx.alloc ?_) | (with_reducible refine Gx.drew ?_) | (with_reducible refine Gx.drewN ?_) | (with_reducible refine Gx.setRow ?_ (by simp)) | (with_reducible refine Gx.setCell ?_ (by simp))))
  have h1 : At (gx (((w.alloc (.cells (fc F) 32)).alloc (.cells (ic (vlTo F 58)) 3)).alloc (.cells (lc (tdTo F 58)) 4)) x) (w.heap.size + 1) (.cells (ic (vlTo F 58)) 3 (0, 0)) := by (focus (repeat (first | (with_reducible assumption) | (with_reducible exact At.new _ _) | (with_reducible refine At.row ?_) | (with_reducible refine At.app ?_) | (with_reducible refine At.tick ?_) | (with_reducible refine At.gx ?_) | ((with_reducible refine At.new' ?_); focus (simp; done)) | (with_reducible refine At.alloc ?_) | (with_reducible refine At.drew ?_) | (with_reducible exact Is.new _ _ _) | (with_reducible refine Is.row ?_) | (with_reducible refine Is.gx ?_) | ((with_reducible refine Is.new' ?_); focus (simp; done)) | (with_reducible refine Is.alloc ?_) | (with_reducible refine Is.drew ?_))))
  have h2 : At (gx (((w.alloc (.cells (fc F) 32)).alloc (.cells (ic (vlTo F 58)) 3)).alloc (.cells (lc (tdTo F 58)) 4)) x) (w.heap.size + 1 + 1) (.cells (lc (tdTo F 58)) 4 (0, 0)) := by (focus (repeat (first | (with_reducible assumption) | (with_reducible exact At.new _ _) | (with_reducible refine At.row ?_) | (with_reducible refine At.app ?_) | (with_reducible refine At.tick ?_) | (with_reducible refine At.gx ?_) | ((with_reducible refine At.new' ?_); focus (simp; done)) | (with_reducible refine At.alloc ?_) | (with_reducible refine At.drew ?_) | (with_reducible exact Is.new _ _ _) | (with_reducible refine Is.row ?_) | (with_reducible refine Is.gx ?_) | ((with_reducible refine Is.new' ?_); focus (simp; done)) | (with_reducible refine Is.alloc ?_) | (with_reducible refine Is.drew ?_))))
  obtain ⟨y, hy⟩ := hG
  rw [hy] at h1 h2
  rw [vl_ic, arr_ints] at h1
  rw [td_lc, arr_bools] at h2
  exact ⟨_, _, y, rfl, hy, Shows.whole h1, Shows.whole h2⟩
theorem RValues_sl (F : List Int) (hF : Fr F) (w : World) :
    Calls Tryd.prog 32 #[.agg (fc F)] w fun e w' => ∃ A1 A2 c1 c2 x, e = .returned (.tuple #[.slice A1 58 c1, .slice A2 58 c2]) ∧ w' = gx w x ∧ Shows (iC (vlL F 58)) A1 (gx w x) ∧ Shows (bL (tdL F 58)) A2 (gx w x) := by
  refine (RValues_gen F hF w).mono ?_
  rintro e w' ⟨u, r, x, rfl, rfl, h1, h2⟩
  obtain ⟨A1, c1, rfl, -, -, -, hS1⟩ := h1.is
  obtain ⟨A2, c2, rfl, -, -, -, hS2⟩ := h2.is
  exact ⟨A1, A2, c1, c2, x, rfl, rfl, hS1, hS2⟩
attribute [local go_sem ↓] loadFr_is in
attribute [local go_sem] run_loadFr isFr_drew frOf_drew isFr_alloc frOf_alloc isFr_gx frOf_gx in
set_option maxHeartbeats 4000000 in
set_option maxRecDepth 100000 in
theorem readLaw (F : List Int) (hF : Fr F) (w : World) (hT : Tab w) :
    Calls Tryd.prog 5 #[.agg (fc F)] w fun e w' => e = .returned (.bool true) ∧ ∃ x, w' = gx w x := by
  have hl := hF.len
  have hle := flawsL_len F
  have hA0 : At (w.alloc (.cells (fc F) 32)) w.heap.size (.cells (fc F) 32 (0, 0)) := At.new w _
  have hl8 : (vlL F 58).length = 58 := vlL_len F 58
  have hl9 : (tdL F 58).length = 58 := tdL_len F 58
  have hHas : ∃ H : List Int, H.length = 8 ∧ (∀ w, Calls Tryd.prog 37 #[.agg (fc F)] w fun e w' => e = .returned (.agg (bc H)) ∧ ∃ x, w' = gx w x) ∧ (∀ w, Calls Tryd.prog 38 #[.agg (fc F)] w fun e w' => e = .returned (.agg (bc H)) ∧ ∃ x, w' = gx w x) := ⟨hashD F, hashD_len F, fun w => Hash_any F hF w, fun w => RHash_any F hF w⟩
  obtain ⟨H, hd, ha1, ha2⟩ := hHas
  have Ha1 := Lib.hid ha1
  have Ha2 := Lib.hid ha2
  clear ha1 ha2
  have qd := eqD_self H
  have hSea : ∃ (S : List Int) (q : Int), S.length = 64 ∧ (∀ w, Tab w → Calls Tryd.prog 27 #[.agg (fc F)] w fun e w' => e = .returned (.tuple #[.agg (fc S), .int .i64 q]) ∧ ∃ x, w' = gx w x) ∧ (∀ w, Calls Tryd.prog 36 #[.agg (fc F)] w fun e w' => e = .returned (.tuple #[.agg (fc S), .int .i64 q]) ∧ ∃ x, w' = gx w x) := ⟨sealF F zeroF, wideE F, by
    unfold sealF
    split
    · exact zeroF_len
    · rw [sealI_len]; exact hl, fun w h => Seal_any F hF w h, fun w => RSeal_any F hF w⟩
  obtain ⟨S, q, hl1, hs1, hs2⟩ := hSea
  have Hs1 := Lib.hid hs1
  have Hs2 := Lib.hid hs2
  clear hs1 hs2
  have qs := eqF_self S
  go_enter Tryd.func5, Tryd.ntmps5
  go_wp2_with (first | go_skip | (refine load_fr rfl _ rfl _ rfl ?_ ?_ ?_ ?_; rotate_left; (focus (repeat (first | (with_reducible assumption) | (with_reducible exact At.new _ _) | (with_reducible refine At.row ?_) | (with_reducible refine At.app ?_) | (with_reducible refine At.tick ?_) | (with_reducible refine At.gx ?_) | ((with_reducible refine At.new' ?_); focus (simp; done)) | (with_reducible refine At.alloc ?_) | (with_reducible refine At.drew ?_) | (with_reducible exact Is.new _ _ _) | (with_reducible refine Is.row ?_) | (with_reducible refine Is.gx ?_) | ((with_reducible refine Is.new' ?_); focus (simp; done)) | (with_reducible refine Is.alloc ?_) | (with_reducible refine Is.drew ?_)))); (focus (with_reducible (first | exact hl | exact hl1 | exact hl2 | exact hl3 | exact hl4 | exact zeroF_len)))) | (go_at_call 25; refine (Number_gen F hF _).mono ?_; rintro e w' ⟨rfl, z, rfl⟩) | (go_at_call 31; refine (RNumber_gen F hF _).mono ?_; rintro e w' ⟨rfl, z, rfl⟩) | (go_at_call 26; refine (Values_sl F hF _).mono ?_; rintro e w' ⟨A1, A2, z, rfl, rfl, hS1, hS2⟩; (try simp only [gx_gx] at hS1 hS2)) | (go_at_call 32; refine (RValues_sl F hF _).mono ?_; rintro e w' ⟨A3, A4, c3, c4, z, rfl, rfl, hS3, hS4⟩; (try simp only [gx_gx] at hS3 hS4)))
  have i0 := isFr_of hl hA0
  have f0 := frOf_of hA0
  go_region_law (first | (go_simp; go_at_call 28; refine (EqualI_shows (vlL F 58) 58 hl8 (by decide) _ _ _ _ _ ?_ ?_).mono ?_; (focus (repeat (first | (with_reducible assumption) | ((with_reducible apply Shows.whole); focus ((focus (repeat (first | (with_reducible assumption) | (with_reducible exact At.new _ _) | (with_reducible refine At.row ?_) | (with_reducible refine At.app ?_) | (with_reducible refine At.tick ?_) | (with_reducible refine At.gx ?_) | ((with_reducible refine At.new' ?_); focus (simp; done)) | (with_reducible refine At.alloc ?_) | (with_reducible refine At.drew ?_) | (with_reducible exact Is.new _ _ _) | (with_reducible refine Is.row ?_) | (with_reducible refine Is.gx ?_) | ((with_reducible refine Is.new' ?_); focus (simp; done)) | (with_reducible refine Is.alloc ?_) | (with_reducible refine Is.drew ?_)))); done)) | (with_reducible refine Shows.app ?_) | (with_reducible refine Shows.tick ?_) | (with_reducible refine Shows.gx ?_) | (with_reducible refine Shows.alloc ?_) | (with_reducible refine Shows.drew ?_)))); (focus (repeat (first | (with_reducible assumption) | ((with_reducible apply Shows.whole); focus ((focus (repeat (first | (with_reducible assumption) | (with_reducible exact At.new _ _) | (with_reducible refine At.row ?_) | (with_reducible refine At.app ?_) | (with_reducible refine At.tick ?_) | (with_reducible refine At.gx ?_) | ((with_reducible refine At.new' ?_); focus (simp; done)) | (with_reducible refine At.alloc ?_) | (with_reducible refine At.drew ?_) | (with_reducible exact Is.new _ _ _) | (with_reducible refine Is.row ?_) | (with_reducible refine Is.gx ?_) | ((with_reducible refine Is.new' ?_); focus (simp; done)) | (with_reducible refine Is.alloc ?_) | (with_reducible refine Is.drew ?_)))); done)) | (with_reducible refine Shows.app ?_) | (with_reducible refine Shows.tick ?_) | (with_reducible refine Shows.gx ?_) | (with_reducible refine Shows.alloc ?_) | (with_reducible refine Shows.drew ?_)))); rintro e w' ⟨rfl, z3, rfl⟩) | (go_simp; go_at_call 33; refine (EqualT_shows (tdL F 58) 58 hl9 (by decide) _ _ _ _ _ ?_ ?_).mono ?_; (focus (repeat (first | (with_reducible assumption) | ((with_reducible apply Shows.whole); focus ((focus (repeat (first | (with_reducible assumption) | (with_reducible exact At.new _ _) | (with_reducible refine At.row ?_) | (with_reducible refine At.app ?_) | (with_reducible refine At.tick ?_) | (with_reducible refine At.gx ?_) | ((with_reducible refine At.new' ?_); focus (simp; done)) | (with_reducible refine At.alloc ?_) | (with_reducible refine At.drew ?_) | (with_reducible exact Is.new _ _ _) | (with_reducible refine Is.row ?_) | (with_reducible refine Is.gx ?_) | ((with_reducible refine Is.new' ?_); focus (simp; done)) | (with_reducible refine Is.alloc ?_) | (with_reducible refine Is.drew ?_)))); done)) | (with_reducible refine Shows.app ?_) | (with_reducible refine Shows.tick ?_) | (with_reducible refine Shows.gx ?_) | (with_reducible refine Shows.alloc ?_) | (with_reducible refine Shows.drew ?_)))); (focus (repeat (first | (with_reducible assumption) | ((with_reducible apply Shows.whole); focus ((focus (repeat (first | (with_reducible assumption) | (with_reducible exact At.new _ _) | (with_reducible refine At.row ?_) | (with_reducible refine At.app ?_) | (with_reducible refine At.tick ?_) | (with_reducible refine At.gx ?_) | ((with_reducible refine At.new' ?_); focus (simp; done)) | (with_reducible refine At.alloc ?_) | (with_reducible refine At.drew ?_) | (with_reducible exact Is.new _ _ _) | (with_reducible refine Is.row ?_) | (with_reducible refine Is.gx ?_) | ((with_reducible refine Is.new' ?_); focus (simp; done)) | (with_reducible refine Is.alloc ?_) | (with_reducible refine Is.drew ?_)))); done)) | (with_reducible refine Shows.app ?_) | (with_reducible refine Shows.tick ?_) | (with_reducible refine Shows.gx ?_) | (with_reducible refine Shows.alloc ?_) | (with_reducible refine Shows.drew ?_)))); rintro e w' ⟨rfl, z3, rfl⟩) | (go_simp; go_at_call 30; refine (Flaws_any F hF _ ?_).mono ?_; (focus (repeat (first | (with_reducible exact hT) | (with_reducible assumption) | (with_reducible refine Tab.gx ?_ _) | (with_reducible refine Tab.alloc ?_ _)))); rintro e w' ⟨v1, z, rfl, rfl, hO1⟩; obtain ⟨A5, c5, rfl, -, -, -, hS5⟩ := hO1.is; clear hO1; (try simp only [gx_gx] at hS5)) | (go_simp; go_at_call 35; refine (RFlaws_any F hF _).mono ?_; rintro e w' ⟨v2, z2, rfl, rfl, hO2⟩; obtain ⟨A6, c6, rfl, -, -, -, hS6⟩ := hO2.is; clear hO2; (try simp only [gx_gx] at hS6)) | (go_simp; go_at_call 34; refine (EqualF_shows (flawsL F) _ rfl (by omega) _ _ _ _ _ ?_ ?_).mono ?_; (focus (repeat (first | (with_reducible assumption) | ((with_reducible apply Shows.whole); focus ((focus (repeat (first | (with_reducible assumption) | (with_reducible exact At.new _ _) | (with_reducible refine At.row ?_) | (with_reducible refine At.app ?_) | (with_reducible refine At.tick ?_) | (with_reducible refine At.gx ?_) | ((with_reducible refine At.new' ?_); focus (simp; done)) | (with_reducible refine At.alloc ?_) | (with_reducible refine At.drew ?_) | (with_reducible exact Is.new _ _ _) | (with_reducible refine Is.row ?_) | (with_reducible refine Is.gx ?_) | ((with_reducible refine Is.new' ?_); focus (simp; done)) | (with_reducible refine Is.alloc ?_) | (with_reducible refine Is.drew ?_)))); done)) | (with_reducible refine Shows.app ?_) | (with_reducible refine Shows.tick ?_) | (with_reducible refine Shows.gx ?_) | (with_reducible refine Shows.alloc ?_) | (with_reducible refine Shows.drew ?_)))); (focus (repeat (first | (with_reducible assumption) | ((with_reducible apply Shows.whole); focus ((focus (repeat (first | (with_reducible assumption) | (with_reducible exact At.new _ _) | (with_reducible refine At.row ?_) | (with_reducible refine At.app ?_) | (with_reducible refine At.tick ?_) | (with_reducible refine At.gx ?_) | ((with_reducible refine At.new' ?_); focus (simp; done)) | (with_reducible refine At.alloc ?_) | (with_reducible refine At.drew ?_) | (with_reducible exact Is.new _ _ _) | (with_reducible refine Is.row ?_) | (with_reducible refine Is.gx ?_) | ((with_reducible refine Is.new' ?_); focus (simp; done)) | (with_reducible refine Is.alloc ?_) | (with_reducible refine Is.drew ?_)))); done)) | (with_reducible refine Shows.app ?_) | (with_reducible refine Shows.tick ?_) | (with_reducible refine Shows.gx ?_) | (with_reducible refine Shows.alloc ?_) | (with_reducible refine Shows.drew ?_)))); rintro e w' ⟨rfl, z3, rfl⟩))
  all_goals
    clear i0 f0
    go_wp2_with (first | go_skip | (refine load_fr rfl _ rfl _ rfl ?_ ?_ ?_ ?_; rotate_left; (focus (repeat (first | (with_reducible assumption) | (with_reducible exact At.new _ _) | (with_reducible refine At.row ?_) | (with_reducible refine At.app ?_) | (with_reducible refine At.tick ?_) | (with_reducible refine At.gx ?_) | ((with_reducible refine At.new' ?_); focus (simp; done)) | (with_reducible refine At.alloc ?_) | (with_reducible refine At.drew ?_) | (with_reducible exact Is.new _ _ _) | (with_reducible refine Is.row ?_) | (with_reducible refine Is.gx ?_) | ((with_reducible refine Is.new' ?_); focus (simp; done)) | (with_reducible refine Is.alloc ?_) | (with_reducible refine Is.drew ?_)))); (focus (with_reducible (first | exact hl | exact hl1 | exact hl2 | exact hl3 | exact hl4 | exact zeroF_len)))) | (refine store_fr rfl _ _ rfl _ rfl _ rfl ?_ ?_ ?_ ?_ ?_; rotate_left; (focus (repeat (first | (with_reducible assumption) | (with_reducible exact At.new _ _) | (with_reducible refine At.row ?_) | (with_reducible refine At.app ?_) | (with_reducible refine At.tick ?_) | (with_reducible refine At.gx ?_) | ((with_reducible refine At.new' ?_); focus (simp; done)) | (with_reducible refine At.alloc ?_) | (with_reducible refine At.drew ?_) | (with_reducible exact Is.new _ _ _) | (with_reducible refine Is.row ?_) | (with_reducible refine Is.gx ?_) | ((with_reducible refine Is.new' ?_); focus (simp; done)) | (with_reducible refine Is.alloc ?_) | (with_reducible refine Is.drew ?_)))); (focus (with_reducible (first | exact hl | exact hl1 | exact hl2 | exact hl3 | exact hl4 | exact zeroF_len))); (focus (with_reducible (first | exact hl | exact hl1 | exact hl2 | exact hl3 | exact hl4 | exact zeroF_len)))) | (go_at_call 27; refine (Hs1.out _ ?_).mono ?_; (focus (repeat (first | (with_reducible exact hT) | (with_reducible assumption) | (with_reducible refine Tab.gx ?_ _) | (with_reducible refine Tab.alloc ?_ _)))); rintro e w' ⟨rfl, z, rfl⟩) | (go_at_call 36; refine (Hs2.out _).mono ?_; rintro e w' ⟨rfl, z, rfl⟩))
    first | (with_reducible refine region_gxx (by kernel_rfl) (by kernel_rfl) ?_) | (with_reducible refine region_gx (by kernel_rfl) (by kernel_rfl) ?_)
    repeat (any_goals (first | (refine quiet_fr rfl _ rfl _ rfl ?_ ?_ ?_ ?_; rotate_left; (focus (rintro _ ⟨x, rfl⟩; (focus (repeat (first | (with_reducible assumption) | (with_reducible exact At.new _ _) | (with_reducible refine At.row ?_) | (with_reducible refine At.app ?_) | (with_reducible refine At.tick ?_) | (with_reducible refine At.gx ?_) | ((with_reducible refine At.new' ?_); focus (simp; done)) | (with_reducible refine At.alloc ?_) | (with_reducible refine At.drew ?_) | (with_reducible exact Is.new _ _ _) | (with_reducible refine Is.row ?_) | (with_reducible refine Is.gx ?_) | ((with_reducible refine Is.new' ?_); focus (simp; done)) | (with_reducible refine Is.alloc ?_) | (with_reducible refine Is.drew ?_)))))); (focus (with_reducible (first | exact hl | exact hl1 | exact hl2 | exact hl3 | exact hl4 | exact zeroF_len)))) | go_big_quiet_step ((first | (go_at_call 37; exact calls_gx (Ha1.out _)) | (go_at_call 38; exact calls_gx (Ha2.out _)) | (go_at_call 22; refine calls_gx (framed_any _ ?_); (focus (repeat (first | (with_reducible exact hT) | (with_reducible assumption) | (with_reducible refine Tab.gx ?_ _) | (with_reducible refine Tab.alloc ?_ _))))))) | quiet_step ((first | (go_at_call 37; exact calls_gx (Ha1.out _)) | (go_at_call 38; exact calls_gx (Ha2.out _)) | (go_at_call 22; refine calls_gx (framed_any _ ?_); (focus (repeat (first | (with_reducible exact hT) | (with_reducible assumption) | (with_reducible refine Tab.gx ?_ _) | (with_reducible refine Tab.alloc ?_ _)))))))))
    refine wpQuiet_nil ?_
    rintro _ ⟨x, rfl⟩
    go_wp2
    go_ret
    exact ⟨rfl, (by repeat (first | (with_reducible exact Gx.refl _) | (with_reducible assumption) | (with_reducible refine Gx.gx ?_) | (with_reducible refine Gx.alloc ?_) | (with_reducible refine Gx.drew ?_) | (with_reducible refine Gx.drewN ?_) | (with_reducible refine Gx.setRow ?_ (by simp)) | (with_reducible refine Gx.setCell ?_ (by simp))))⟩
end Go.Proofs.YtemgjiajpgepiaaDoor