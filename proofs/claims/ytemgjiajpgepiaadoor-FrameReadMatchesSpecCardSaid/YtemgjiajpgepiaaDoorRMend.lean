/-
  Mend, the reference's: the contract.
-/
import Derived.Test.YtemgjiajpgepiaaDoorMend2
import Derived.Deep.RegionLaw
namespace Go.Proofs.YtemgjiajpgepiaaDoor
open Go.RowKit
-- AT2

/-- Reading and writing a whole frame, as one thing for a region that draws its order. -/
@[irreducible] def loadFr (a : Addr) : Sem Value := loadVar 32 a
@[irreducible] def storeFr (a : Addr) (v : Value) : Sem Unit := storeVar 32 a v
theorem loadFr_is (a : Addr) : loadVar 32 a = loadFr a := by unfold loadFr; rfl
theorem storeFr_is (a : Addr) (v : Value) : storeVar 32 a v = storeFr a v := by unfold storeFr; rfl
/-- A frame's variable. -/
@[irreducible] def IsFr (W : World) (g : Nat) : Prop := ∃ F : List Int, F.length = 64 ∧ At W g (.cells (fc F) 32 (0, 0))
@[irreducible] def frOf (W : World) (g : Nat) : Array Value := match W.heap[g]? with | some (.cells c _ _) => c | _ => #[]
theorem isFr_of {W : World} {g : Nat} {F : List Int} (hl : F.length = 64) (h : At W g (.cells (fc F) 32 (0, 0))) : IsFr W g := by unfold IsFr; exact ⟨F, hl, h⟩
theorem frOf_of {W : World} {g : Nat} {F : List Int} (h : At W g (.cells (fc F) 32 (0, 0))) : frOf W g = fc F := by unfold frOf; unfold At at h; rw [h]
theorem run_loadFr {W : World} {g : Nat} (h : IsFr W g) : (loadFr ⟨g, 0, none⟩).run Tryd.prog W = .ok (.agg (frOf W g)) W := by
  unfold IsFr at h
  obtain ⟨F, hl, hA⟩ := h
  rw [frOf_of hA, ← loadFr_is]
  exact load_at hA hl
theorem run_storeFr {W : World} {g : Nat} {F : List Int} (hF : F.length = 64) (h : IsFr W g) : (storeFr ⟨g, 0, none⟩ (.agg (fc F))).run Tryd.prog W = .ok () (W.setRow g (fc F)) := by
  unfold IsFr at h
  obtain ⟨G, hl, hA⟩ := h
  rw [← storeFr_is]
  exact run_storeVar_row W g _ _ _ _ hA (by rw [fc_size, hF]; kernel_rfl) (by rw [fc_size, fc_size, hl, hF]) (by simp [fc, Value.oneCell'])
theorem isFr_drew (W : World) (g : Nat) : IsFr W.drew g ↔ IsFr W g := by unfold IsFr; exact Iff.rfl
theorem frOf_drew (W : World) (g : Nat) : frOf W.drew g = frOf W g := by unfold frOf; rfl
theorem isFr_alloc (W : World) (g : Nat) (o : Obj) (h : g < W.heap.size) : IsFr (W.alloc o) g ↔ IsFr W g := by
  unfold IsFr At; rw [Below.heap_alloc W o g h]
theorem frOf_alloc (W : World) (g : Nat) (o : Obj) (h : g < W.heap.size) : frOf (W.alloc o) g = frOf W g := by
  unfold frOf; rw [Below.heap_alloc W o g h]

/-- Elements that the call has just made, appended to an own slice: a step of a region that draws its order. -/
theorem step_append_own {t e : TypeId} {size bytes : Nat} (hE : Elem t e size bytes) {ops : Array Oper} {o : Oper} {a : Act} {K : Act → World → Prop} {Q : Exit → Act → World → Prop} {E' : Prop} {W : World} (w : World) (b : Nat) {s x : Operand} {v : Value} {n : Nat} {xs : List Value} {g m : Nat} {news : List Value}
    (ho : o.op = .call { callee := .builtin .append, args := #[s, x], argTypes := #[t, t] }) (hgd : o.guard = none) (hs : a.eval s = v) (hx : a.eval x = .slice (some ⟨g, 0, none⟩) m m)
    (hb : w.heap.size ≤ b) (hown : Own b W e size v n xs) (hW : ∃ x, W = gx w x) (hbW : b ≤ W.heap.size) (hl : news.length = m * size) (hnews : Shows news (some ⟨g, 0, none⟩) W) (h1 : ∀ u ∈ news, u.oneCell' = true) (h63 : n + m ≤ maxLen) (hbytes : (n + m) * bytes ≤ 140737488355328)
    (hm : 0 < m) (h : ∀ v' W', (∃ x, W' = gx w x) → Own b W' e size v' (n + m) (xs ++ news) → W.grownBy W' v.ownBlock → K (a.put o.dst v') W') : if Region.wanted o (yielded ops a.tmps) = true then Oper.wp Tryd.prog o a W K Q else E' := by
  rw [if_pos (by simp [Region.wanted, hgd])]
  obtain ⟨ht, hp, i, z, hi, hz, hsize, hby, hzs⟩ := hE
  refine wp_append_own W s x t ho b e i z size bytes ht hi hz hsize hby hzs hp v n xs hs hown.out ⟨g, 0, none⟩ m m news hx hl ?_ h1 h63 hbytes hbW fun v' W' h2 h3 _ => h v' W' (gx_of_grown hW h3 fun k hk => by have := hown.lt k hk; omega) (Own.mk' h2) h3
  intro j u hu
  unfold Shows at hnews
  obtain ⟨g', o', e1, hc⟩ := hnews (by rw [hl]; exact Nat.mul_pos hm hp)
  obtain ⟨rfl, rfl⟩ : g = g' ∧ 0 = o' := by simpa using Option.some.inj e1
  rw [Addr.add_lit]
  exact hc j u hu
theorem At.grown {W W' : World} {g : Nat} {o : Obj} {r : Option Nat} (h : At W g o) (hg : W.grownBy W' r) (hne : r ≠ some g) : At W' g o := by
  unfold At at *
  have hlt : g < W.heap.size := At.lt h
  rw [hg.block g hlt (fun e => hne e.symm)]
  exact h

theorem Ext.n_app (x y : Ext) : (x.app y).n = x.n + y.n := by unfold Ext.app Ext.n; simp

set_option maxHeartbeats 600000 in
set_option maxRecDepth 100000 in
theorem RMend_wide (F : List Int) (hF : Fr F) (hw : wideB F = true) (w : World) :
    Calls Tryd.prog 40 #[.agg (fc F)] w fun e w' => ∃ v x, e = .returned (.tuple #[.agg (fc (mdF F)), v, .bool (mdB F)]) ∧ w' = gx w x ∧ Own w.heap.size (gx w x) 3 1 v (mdP F).length (iC (mdP F)) := by
  have hl := hF.len
  have h1 : mdF F = zeroF := by unfold mdF; rw [if_pos hw]
  have h2 : mdP F = [] := by unfold mdP; rw [if_pos hw]
  have h3 : mdB F = false := by unfold mdB; rw [if_pos hw]
  have hl1 := zeroF_len
  rw [h1, h2, h3]
  clear h1 h2 h3
  go_enter Tryd.func40, Tryd.ntmps40
  go_wp2_with (first | (refine load_fr rfl _ rfl _ rfl ?_ ?_ ?_ ?_; rotate_left; (focus (repeat (first | (with_reducible assumption) | (with_reducible exact At.new _ _) | (with_reducible refine At.row ?_) | (with_reducible refine At.app ?_) | (with_reducible refine At.tick ?_) | (with_reducible refine At.gx ?_) | ((with_reducible refine At.new' ?_); focus (simp; done)) | (with_reducible refine At.alloc ?_) | (with_reducible refine At.drew ?_) | (with_reducible exact Is.new _ _ _) | (with_reducible refine Is.row ?_) | (with_reducible refine Is.gx ?_) | ((with_reducible refine Is.new' ?_); focus (simp; done)) | (with_reducible refine Is.alloc ?_) | (with_reducible refine Is.drew ?_)))); (focus (with_reducible (first | exact hl | exact hl1 | exact hl2 | exact hl3 | exact hl4 | exact zeroF_len)))) | (refine store_fr rfl _ _ rfl _ rfl _ rfl ?_ ?_ ?_ ?_ ?_; rotate_left; (focus (repeat (first | (with_reducible assumption) | (with_reducible exact At.new _ _) | (with_reducible refine At.row ?_) | (with_reducible refine At.app ?_) | (with_reducible refine At.tick ?_) | (with_reducible refine At.gx ?_) | ((with_reducible refine At.new' ?_); focus (simp; done)) | (with_reducible refine At.alloc ?_) | (with_reducible refine At.drew ?_) | (with_reducible exact Is.new _ _ _) | (with_reducible refine Is.row ?_) | (with_reducible refine Is.gx ?_) | ((with_reducible refine Is.new' ?_); focus (simp; done)) | (with_reducible refine Is.alloc ?_) | (with_reducible refine Is.drew ?_)))); (focus (with_reducible (first | exact hl | exact hl1 | exact hl2 | exact hl3 | exact hl4 | exact zeroF_len))); (focus (with_reducible (first | exact hl | exact hl1 | exact hl2 | exact hl3 | exact hl4 | exact zeroF_len)))) | (go_at_call 96; refine (Wide_any F hF _).mono ?_; rintro e w' ⟨rfl, z, rfl⟩))
  (refine ret_fr_tmp2 rfl _ _ _ ?_ rfl rfl ?_ ?_ ?_; rotate_left; (focus (repeat (first | (with_reducible assumption) | (with_reducible exact At.new _ _) | (with_reducible refine At.row ?_) | (with_reducible refine At.app ?_) | (with_reducible refine At.tick ?_) | (with_reducible refine At.gx ?_) | ((with_reducible refine At.new' ?_); focus (simp; done)) | (with_reducible refine At.alloc ?_) | (with_reducible refine At.drew ?_) | (with_reducible exact Is.new _ _ _) | (with_reducible refine Is.row ?_) | (with_reducible refine Is.gx ?_) | ((with_reducible refine Is.new' ?_); focus (simp; done)) | (with_reducible refine Is.alloc ?_) | (with_reducible refine Is.drew ?_)))); (focus (with_reducible (first | exact hl | exact hl1 | exact hl2 | exact hl3 | exact hl4 | exact zeroF_len))))
  refine md_ret (v := .slice none 0 0) (n := 0) (P := []) (G := zeroF) (o := false) (b := w.heap.size) ?_ (Nat.le_refl _) ?_ rfl
  · exact (by repeat (first | (with_reducible exact Gx.refl _) | (with_reducible assumption) | (with_reducible refine Gx.gx ?_) | (with_reducible refine Gx.alloc ?_) | (with_reducible refine Gx.drew ?_) | (with_reducible refine Gx.drewN ?_) | (with_reducible refine Gx.setRow ?_ (by simp)) | (with_reducible refine Gx.setCell ?_ (by simp))))
  · rw [iC_nil]; exact Own.nil _ _ _ _

set_option maxHeartbeats 600000 in
set_option maxRecDepth 100000 in
theorem RMend_sound (F : List Int) (hF : Fr F) (hw : wideB F = false) (hs : soundB F = true) (w : World) :
    Calls Tryd.prog 40 #[.agg (fc F)] w fun e w' => ∃ v x, e = .returned (.tuple #[.agg (fc (mdF F)), v, .bool (mdB F)]) ∧ w' = gx w x ∧ Own w.heap.size (gx w x) 3 1 v (mdP F).length (iC (mdP F)) := by
  have hl := hF.len
  have h1 : mdF F = F := by unfold mdF; rw [hw, hs]; rfl
  have h2 : mdP F = [] := by unfold mdP; rw [hw, hs]; rfl
  have h3 : mdB F = true := by unfold mdB; rw [hw, hs]; rfl
  have hl1 := zeroF_len
  have Hw := Lib.hid hw
  rw [h1, h2, h3]
  clear h1 h2 h3
  go_enter Tryd.func40, Tryd.ntmps40
  go_wp2_with (first | (refine load_fr rfl _ rfl _ rfl ?_ ?_ ?_ ?_; rotate_left; (focus (repeat (first | (with_reducible assumption) | (with_reducible exact At.new _ _) | (with_reducible refine At.row ?_) | (with_reducible refine At.app ?_) | (with_reducible refine At.tick ?_) | (with_reducible refine At.gx ?_) | ((with_reducible refine At.new' ?_); focus (simp; done)) | (with_reducible refine At.alloc ?_) | (with_reducible refine At.drew ?_) | (with_reducible exact Is.new _ _ _) | (with_reducible refine Is.row ?_) | (with_reducible refine Is.gx ?_) | ((with_reducible refine Is.new' ?_); focus (simp; done)) | (with_reducible refine Is.alloc ?_) | (with_reducible refine Is.drew ?_)))); (focus (with_reducible (first | exact hl | exact hl1 | exact hl2 | exact hl3 | exact hl4 | exact zeroF_len)))) | (refine store_fr rfl _ _ rfl _ rfl _ rfl ?_ ?_ ?_ ?_ ?_; rotate_left; (focus (repeat (first | (with_reducible assumption) | (with_reducible exact At.new _ _) | (with_reducible refine At.row ?_) | (with_reducible refine At.app ?_) | (with_reducible refine At.tick ?_) | (with_reducible refine At.gx ?_) | ((with_reducible refine At.new' ?_); focus (simp; done)) | (with_reducible refine At.alloc ?_) | (with_reducible refine At.drew ?_) | (with_reducible exact Is.new _ _ _) | (with_reducible refine Is.row ?_) | (with_reducible refine Is.gx ?_) | ((with_reducible refine Is.new' ?_); focus (simp; done)) | (with_reducible refine Is.alloc ?_) | (with_reducible refine Is.drew ?_)))); (focus (with_reducible (first | exact hl | exact hl1 | exact hl2 | exact hl3 | exact hl4 | exact zeroF_len))); (focus (with_reducible (first | exact hl | exact hl1 | exact hl2 | exact hl3 | exact hl4 | exact zeroF_len)))) | (go_at_call 96; refine (Wide_any F hF _).mono ?_; rintro e w' ⟨rfl, z, rfl⟩) | (go_at_call 99; refine (RSound_any F hF Hw.out _).mono ?_; rintro e w' ⟨rfl, z, rfl⟩))
  (refine ret_fr_tmp2 rfl _ _ _ ?_ rfl rfl ?_ ?_ ?_; rotate_left; (focus (repeat (first | (with_reducible assumption) | (with_reducible exact At.new _ _) | (with_reducible refine At.row ?_) | (with_reducible refine At.app ?_) | (with_reducible refine At.tick ?_) | (with_reducible refine At.gx ?_) | ((with_reducible refine At.new' ?_); focus (simp; done)) | (with_reducible refine At.alloc ?_) | (with_reducible refine At.drew ?_) | (with_reducible exact Is.new _ _ _) | (with_reducible refine Is.row ?_) | (with_reducible refine Is.gx ?_) | ((with_reducible refine Is.new' ?_); focus (simp; done)) | (with_reducible refine Is.alloc ?_) | (with_reducible refine Is.drew ?_)))); (focus (with_reducible (first | exact hl | exact hl1 | exact hl2 | exact hl3 | exact hl4 | exact zeroF_len))))
  refine md_ret (v := .slice none 0 0) (n := 0) (P := []) (G := F) (o := true) (b := w.heap.size) ?_ (Nat.le_refl _) ?_ rfl
  · exact (by repeat (first | (with_reducible exact Gx.refl _) | (with_reducible assumption) | (with_reducible refine Gx.gx ?_) | (with_reducible refine Gx.alloc ?_) | (with_reducible refine Gx.drew ?_) | (with_reducible refine Gx.drewN ?_) | (with_reducible refine Gx.setRow ?_ (by simp)) | (with_reducible refine Gx.setCell ?_ (by simp))))
  · rw [iC_nil]; exact Own.nil _ _ _ _

attribute [local go_sem ↓] loadFr_is storeFr_is in
attribute [local go_sem] run_loadFr run_storeFr isFr_drew frOf_drew isFr_alloc frOf_alloc in
set_option maxHeartbeats 2000000 in
set_option maxRecDepth 100000 in
theorem RMend_loop (F : List Int) (hF : Fr F) (hw : wideB F = false) (hs : soundB F = false) (w : World) :
    Calls Tryd.prog 40 #[.agg (fc F)] w fun e w' => ∃ v x, e = .returned (.tuple #[.agg (fc (mdF F)), v, .bool (mdB F)]) ∧ w' = gx w x ∧ Own w.heap.size (gx w x) 3 1 v (mdP F).length (iC (mdP F)) := by
  have hl := hF.len
  have hn := wideB_false.1 hw
  have Hw := Lib.hid hw
  have Hs := Lib.hid hs
  have hl1 := zeroF_len
  go_enter Tryd.func40, Tryd.ntmps40
  go_wp2_with (first | (refine load_fr rfl _ rfl _ rfl ?_ ?_ ?_ ?_; rotate_left; (focus (repeat (first | (with_reducible assumption) | (with_reducible exact At.new _ _) | (with_reducible refine At.row ?_) | (with_reducible refine At.app ?_) | (with_reducible refine At.tick ?_) | (with_reducible refine At.gx ?_) | ((with_reducible refine At.new' ?_); focus (simp; done)) | (with_reducible refine At.alloc ?_) | (with_reducible refine At.drew ?_) | (with_reducible exact Is.new _ _ _) | (with_reducible refine Is.row ?_) | (with_reducible refine Is.gx ?_) | ((with_reducible refine Is.new' ?_); focus (simp; done)) | (with_reducible refine Is.alloc ?_) | (with_reducible refine Is.drew ?_)))); (focus (with_reducible (first | exact hl | exact hl1 | exact hl2 | exact hl3 | exact hl4 | exact zeroF_len)))) | (refine store_fr rfl _ _ rfl _ rfl _ rfl ?_ ?_ ?_ ?_ ?_; rotate_left; (focus (repeat (first | (with_reducible assumption) | (with_reducible exact At.new _ _) | (with_reducible refine At.row ?_) | (with_reducible refine At.app ?_) | (with_reducible refine At.tick ?_) | (with_reducible refine At.gx ?_) | ((with_reducible refine At.new' ?_); focus (simp; done)) | (with_reducible refine At.alloc ?_) | (with_reducible refine At.drew ?_) | (with_reducible exact Is.new _ _ _) | (with_reducible refine Is.row ?_) | (with_reducible refine Is.gx ?_) | ((with_reducible refine Is.new' ?_); focus (simp; done)) | (with_reducible refine Is.alloc ?_) | (with_reducible refine Is.drew ?_)))); (focus (with_reducible (first | exact hl | exact hl1 | exact hl2 | exact hl3 | exact hl4 | exact zeroF_len))); (focus (with_reducible (first | exact hl | exact hl1 | exact hl2 | exact hl3 | exact hl4 | exact zeroF_len)))) | (go_at_call 96; refine (Wide_any F hF _).mono ?_; rintro e w' ⟨rfl, z, rfl⟩) | (go_at_call 99; refine (RSound_any F hF Hw.out _).mono ?_; rintro e W1 ⟨rfl, hz⟩; have hA1 : At W1 w.heap.size (.cells (fc F) 32 (0, 0)) := (by obtain ⟨x, rfl⟩ := hz; (focus (repeat (first | (with_reducible assumption) | (with_reducible exact At.new _ _) | (with_reducible refine At.row ?_) | (with_reducible refine At.app ?_) | (with_reducible refine At.tick ?_) | (with_reducible refine At.gx ?_) | ((with_reducible refine At.new' ?_); focus (simp; done)) | (with_reducible refine At.alloc ?_) | (with_reducible refine At.drew ?_) | (with_reducible exact Is.new _ _ _) | (with_reducible refine Is.row ?_) | (with_reducible refine Is.gx ?_) | ((with_reducible refine Is.new' ?_); focus (simp; done)) | (with_reducible refine Is.alloc ?_) | (with_reducible refine Is.drew ?_))))); have hA2 : At W1 (w.heap.size + 1) (.cells (fc zeroF) 32 (0, 0)) := (by obtain ⟨x, rfl⟩ := hz; (focus (repeat (first | (with_reducible assumption) | (with_reducible exact At.new _ _) | (with_reducible refine At.row ?_) | (with_reducible refine At.app ?_) | (with_reducible refine At.tick ?_) | (with_reducible refine At.gx ?_) | ((with_reducible refine At.new' ?_); focus (simp; done)) | (with_reducible refine At.alloc ?_) | (with_reducible refine At.drew ?_) | (with_reducible exact Is.new _ _ _) | (with_reducible refine Is.row ?_) | (with_reducible refine Is.gx ?_) | ((with_reducible refine Is.new' ?_); focus (simp; done)) | (with_reducible refine Is.alloc ?_) | (with_reducible refine Is.drew ?_))))); have hG1 : ∃ x, W1 = gx w x := (by obtain ⟨x, rfl⟩ := hz; exact (by repeat (first | (with_reducible exact Gx.refl _) | (with_reducible assumption) | (with_reducible refine Gx.gx ?_) | (with_reducible refine Gx.alloc ?_) | (with_reducible refine Gx.drew ?_) | (with_reducible refine Gx.drewN ?_) | (with_reducible refine Gx.setRow ?_ (by simp)) | (with_reducible refine Gx.setCell ?_ (by simp))))); have hS1 : w.heap.size + 1 < W1.heap.size := (by obtain ⟨x, rfl⟩ := hz; (simp <;> omega)); have hS0 : w.heap.size < W1.heap.size := (by omega); clear hz))
  go_loopw [5, 16] (fun pl i wr => ∃ (k : Nat), k ≤ 64 ∧ i = .int .i64 k ∧ (∃ x, wr = gx (W1.alloc (.cells (fc (mendTo zeroF F k)) 32)) x) ∧ Own (W1.heap.size + 1) wr 3 1 pl (placesTo F k).length (iC (placesTo F k))) (fun _ i _ => 64 - (intOf i).toNat)
  case atStart => exact ⟨0, Nat.zero_le _, rfl, Gx.refl _, by rw [placesTo, iC_nil]; exact Own.nil _ _ _ _⟩
  case round =>
    obtain ⟨k, hk, rfl, ⟨y, rfl⟩, hO⟩ := hrel
    have hl3 : (mendTo zeroF F k).length = 64 := mendTo_len zeroF_len hl k
    by_cases hlt : k < 64
    · have hle := placesTo_len F k
      have hf := mendW_fr hF k hlt
      have hnn := wideB_false.2 (mendW_narrow hF hn k hlt)
      have Hn := Lib.hid hnn
      have hl2 := hf.len
      clear hnn
      cases hsk : soundB (mendW F k)
      · have e1 : placesTo F (k + 1) = placesTo F k := by rw [placesTo, hsk]; rfl
        have e2 : mendTo zeroF F (k + 1) = mendTo zeroF F k := by rw [mendTo, hsk]; rfl
        rw [← e1] at hO
        have E2 := Lib.hid e2
        clear e1 e2
        go_wp2_with (first | (refine load_fr rfl _ rfl _ rfl ?_ ?_ ?_ ?_; rotate_left; (focus (repeat (first | (with_reducible assumption) | (with_reducible exact At.new _ _) | (with_reducible refine At.row ?_) | (with_reducible refine At.app ?_) | (with_reducible refine At.tick ?_) | (with_reducible refine At.gx ?_) | ((with_reducible refine At.new' ?_); focus (simp; done)) | (with_reducible refine At.alloc ?_) | (with_reducible refine At.drew ?_) | (with_reducible exact Is.new _ _ _) | (with_reducible refine Is.row ?_) | (with_reducible refine Is.gx ?_) | ((with_reducible refine Is.new' ?_); focus (simp; done)) | (with_reducible refine Is.alloc ?_) | (with_reducible refine Is.drew ?_)))); (focus (with_reducible (first | exact hl | exact hl1 | exact hl2 | exact hl3 | exact hl4 | exact zeroF_len)))) | (refine store_fr rfl _ _ rfl _ rfl _ rfl ?_ ?_ ?_ ?_ ?_; rotate_left; (focus (repeat (first | (with_reducible assumption) | (with_reducible exact At.new _ _) | (with_reducible refine At.row ?_) | (with_reducible refine At.app ?_) | (with_reducible refine At.tick ?_) | (with_reducible refine At.gx ?_) | ((with_reducible refine At.new' ?_); focus (simp; done)) | (with_reducible refine At.alloc ?_) | (with_reducible refine At.drew ?_) | (with_reducible exact Is.new _ _ _) | (with_reducible refine Is.row ?_) | (with_reducible refine Is.gx ?_) | ((with_reducible refine Is.new' ?_); focus (simp; done)) | (with_reducible refine Is.alloc ?_) | (with_reducible refine Is.drew ?_)))); (focus (with_reducible (first | exact hl | exact hl1 | exact hl2 | exact hl3 | exact hl4 | exact zeroF_len))); (focus (with_reducible (first | exact hl | exact hl1 | exact hl2 | exact hl3 | exact hl4 | exact zeroF_len)))) | (go_at_call 100; refine (PutWord_any F hF hn k hlt _).mono ?_; rintro e w' ⟨rfl, z, rfl⟩) | (go_at_call 99; refine (RSound_any (mendW F k) hf Hn.out _).mono ?_; rintro e w' ⟨rfl, z, rfl⟩))
        go_roundw
        case rel => exact ⟨k + 1, by omega, by go_num, by rw [E2.out]; exact (by repeat (first | (with_reducible exact Gx.refl _) | (with_reducible assumption) | (with_reducible refine Gx.gx ?_) | (with_reducible refine Gx.alloc ?_) | (with_reducible refine Gx.drew ?_) | (with_reducible refine Gx.drewN ?_) | (with_reducible refine Gx.setRow ?_ (by simp)) | (with_reducible refine Gx.setCell ?_ (by simp)))), by (focus (repeat (first | (with_reducible assumption) | (with_reducible exact Own.nil _ _ _ _) | (with_reducible refine Own.app ?_) | (with_reducible refine Own.tick ?_) | (with_reducible refine Own.gx ?_) | (with_reducible refine Own.alloc ?_) | (with_reducible refine Own.drew ?_) | (with_reducible refine Own.row ?_ (by omega)))))⟩
        case measure => simp [intOf]; omega
      · have e1 : placesTo F (k + 1) = placesTo F k ++ [(k : Int)] := by rw [placesTo, hsk]; rfl
        have e2 : mendTo zeroF F (k + 1) = mendW F k := by rw [mendTo, hsk]; rfl
        have hs2 : ∀ v W, Own (W1.heap.size + 1) W 3 1 v ((placesTo F k).length + 1) (iC (placesTo F k) ++ [.int .i64 k]) → Own (W1.heap.size + 1) W 3 1 v (placesTo F (k + 1)).length (iC (placesTo F (k + 1))) := fun v W h => by
          rw [e1, iC_app, iC_one, List.length_append]; exact h
        have Hs2 := Lib.hid hs2
        have E2 := Lib.hid e2
        clear e1 e2 hs2
        go_wp2_with (first | (refine load_fr rfl _ rfl _ rfl ?_ ?_ ?_ ?_; rotate_left; (focus (repeat (first | (with_reducible assumption) | (with_reducible exact At.new _ _) | (with_reducible refine At.row ?_) | (with_reducible refine At.app ?_) | (with_reducible refine At.tick ?_) | (with_reducible refine At.gx ?_) | ((with_reducible refine At.new' ?_); focus (simp; done)) | (with_reducible refine At.alloc ?_) | (with_reducible refine At.drew ?_) | (with_reducible exact Is.new _ _ _) | (with_reducible refine Is.row ?_) | (with_reducible refine Is.gx ?_) | ((with_reducible refine Is.new' ?_); focus (simp; done)) | (with_reducible refine Is.alloc ?_) | (with_reducible refine Is.drew ?_)))); (focus (with_reducible (first | exact hl | exact hl1 | exact hl2 | exact hl3 | exact hl4 | exact zeroF_len)))) | (refine store_fr rfl _ _ rfl _ rfl _ rfl ?_ ?_ ?_ ?_ ?_; rotate_left; (focus (repeat (first | (with_reducible assumption) | (with_reducible exact At.new _ _) | (with_reducible refine At.row ?_) | (with_reducible refine At.app ?_) | (with_reducible refine At.tick ?_) | (with_reducible refine At.gx ?_) | ((with_reducible refine At.new' ?_); focus (simp; done)) | (with_reducible refine At.alloc ?_) | (with_reducible refine At.drew ?_) | (with_reducible exact Is.new _ _ _) | (with_reducible refine Is.row ?_) | (with_reducible refine Is.gx ?_) | ((with_reducible refine Is.new' ?_); focus (simp; done)) | (with_reducible refine Is.alloc ?_) | (with_reducible refine Is.drew ?_)))); (focus (with_reducible (first | exact hl | exact hl1 | exact hl2 | exact hl3 | exact hl4 | exact zeroF_len))); (focus (with_reducible (first | exact hl | exact hl1 | exact hl2 | exact hl3 | exact hl4 | exact zeroF_len)))) | (go_at_call 100; refine (PutWord_any F hF hn k hlt _).mono ?_; rintro e w' ⟨rfl, z, rfl⟩) | (go_at_call 99; refine (RSound_any (mendW F k) hf Hn.out _).mono ?_; rintro e V ⟨rfl, hz⟩))
        have h6 : At V W1.heap.size (.cells (fc (mendTo zeroF F k)) 32 (0, 0)) := by obtain ⟨x, rfl⟩ := hz; (focus (repeat (first | (with_reducible assumption) | (with_reducible exact At.new _ _) | (with_reducible refine At.row ?_) | (with_reducible refine At.app ?_) | (with_reducible refine At.tick ?_) | (with_reducible refine At.gx ?_) | ((with_reducible refine At.new' ?_); focus (simp; done)) | (with_reducible refine At.alloc ?_) | (with_reducible refine At.drew ?_) | (with_reducible exact Is.new _ _ _) | (with_reducible refine Is.row ?_) | (with_reducible refine Is.gx ?_) | ((with_reducible refine Is.new' ?_); focus (simp; done)) | (with_reducible refine Is.alloc ?_) | (with_reducible refine Is.drew ?_))))
        have h8 : At V (W1.heap.size + 1 + (y.app z).n) (.cells (fc (mendW F k)) 32 (0, 0)) := by obtain ⟨x, rfl⟩ := hz; (focus (repeat (first | (with_reducible assumption) | (with_reducible exact At.new _ _) | (with_reducible refine At.row ?_) | (with_reducible refine At.app ?_) | (with_reducible refine At.tick ?_) | (with_reducible refine At.gx ?_) | ((with_reducible refine At.new' ?_); focus (simp; done)) | (with_reducible refine At.alloc ?_) | (with_reducible refine At.drew ?_) | (with_reducible exact Is.new _ _ _) | (with_reducible refine Is.row ?_) | (with_reducible refine Is.gx ?_) | ((with_reducible refine Is.new' ?_); focus (simp; done)) | (with_reducible refine Is.alloc ?_) | (with_reducible refine Is.drew ?_))))
        have hGV : ∃ x, V = gx (W1.alloc (.cells (fc (mendTo zeroF F k)) 32)) x := by obtain ⟨x, rfl⟩ := hz; exact (by repeat (first | (with_reducible exact Gx.refl _) | (with_reducible assumption) | (with_reducible refine Gx.gx ?_) | (with_reducible refine Gx.alloc ?_) | (with_reducible refine Gx.drew ?_) | (with_reducible refine Gx.drewN ?_) | (with_reducible refine Gx.setRow ?_ (by simp)) | (with_reducible refine Gx.setCell ?_ (by simp))))
        have hOV : Own (W1.heap.size + 1) V 3 1 u5 (placesTo F k).length (iC (placesTo F k)) := by obtain ⟨x, rfl⟩ := hz; (focus (repeat (first | (with_reducible assumption) | (with_reducible exact Own.nil _ _ _ _) | (with_reducible refine Own.app ?_) | (with_reducible refine Own.tick ?_) | (with_reducible refine Own.gx ?_) | (with_reducible refine Own.alloc ?_) | (with_reducible refine Own.drew ?_) | (with_reducible refine Own.row ?_ (by omega)))))
        have hLV : W1.heap.size + 1 + (y.app z).n < V.heap.size := by obtain ⟨x, rfl⟩ := hz; (simp <;> omega)
        have hob : u5.ownBlock ≠ some (W1.heap.size + 1 + (y.app z).n) := fun h => by
          have := hO.lt _ h
          have e := Ext.n_app y z
          simp at this
          omega
        have hGV2 : ∃ x, V.drew.setRow W1.heap.size (fc (mendW F k)) = gx (W1.alloc (.cells (fc (mendW F k)) 32)) x := by
          obtain ⟨x, rfl⟩ := hGV
          rw [drew_gx, setRow_gx _ _ _ _ (by simp), setRow_alloc_at _ _ _ _ _ _ rfl]
          exact ⟨_, rfl⟩
        have hOV2 : Own (W1.heap.size + 1) (V.drew.setRow W1.heap.size (fc (mendW F k))) 3 1 u5 (placesTo F k).length (iC (placesTo F k)) := hOV.drew.row (Nat.lt_succ_self _)
        have i6 := isFr_of hl3 h6
        have i8 := isFr_of hl2 h8
        have f8 := frOf_of h8
        have l6 := h6.lt
        clear hz hO h6
        generalize hg8 : W1.heap.size + 1 + (y.app z).n = g8 at *
        clear hg8
        go_region_law (first | (apply step_append_own el_int (W1.alloc (.cells (fc (mendTo zeroF F k)) 32)) (W1.heap.size + 1) (v := u5) (n := (placesTo F k).length) (xs := iC (placesTo F k)) (m := 1) (news := [.int .i64 k]); exact rfl; exact rfl; exact rfl; exact rfl; (focus (simp; done)); exact hOV.drew.alloc; exact Gx.alloc (Gx.drew hGV); (focus (simp <;> omega)); exact rfl; (focus (repeat (first | (with_reducible assumption) | ((with_reducible apply Shows.whole); focus ((focus (repeat (first | (with_reducible assumption) | (with_reducible exact At.new _ _) | (with_reducible refine At.row ?_) | (with_reducible refine At.app ?_) | (with_reducible refine At.tick ?_) | (with_reducible refine At.gx ?_) | ((with_reducible refine At.new' ?_); focus (simp; done)) | (with_reducible refine At.alloc ?_) | (with_reducible refine At.drew ?_) | (with_reducible exact Is.new _ _ _) | (with_reducible refine Is.row ?_) | (with_reducible refine Is.gx ?_) | ((with_reducible refine Is.new' ?_); focus (simp; done)) | (with_reducible refine Is.alloc ?_) | (with_reducible refine Is.drew ?_)))); done)) | (with_reducible refine Shows.app ?_) | (with_reducible refine Shows.tick ?_) | (with_reducible refine Shows.gx ?_) | (with_reducible refine Shows.alloc ?_) | (with_reducible refine Shows.drew ?_)))); (focus (simp [Value.oneCell']; done)); (focus (simp only [maxLen]; omega)); (focus omega); (focus decide); rintro v' _ ⟨y', rfl⟩ hO' hg'; have hO2 := Hs2.out _ _ hO'; clear hO'; have h8' := (h8.drew.alloc).grown hg' hob; have i8' := isFr_of hl2 h8'; have f8' := frOf_of h8'; have i6' := isFr_of hl3 ((At.new W1 (.cells (fc (mendTo zeroF F k)) 32)).gx (x := y')); clear hg' h8') | (apply step_append_own el_int (W1.alloc (.cells (fc (mendW F k)) 32)) (W1.heap.size + 1) (v := u5) (n := (placesTo F k).length) (xs := iC (placesTo F k)) (m := 1) (news := [.int .i64 k]); exact rfl; exact rfl; exact rfl; exact rfl; (focus (simp; done)); exact hOV2.alloc; exact Gx.alloc hGV2; (focus (simp <;> omega)); exact rfl; (focus (repeat (first | (with_reducible assumption) | ((with_reducible apply Shows.whole); focus ((focus (repeat (first | (with_reducible assumption) | (with_reducible exact At.new _ _) | (with_reducible refine At.row ?_) | (with_reducible refine At.app ?_) | (with_reducible refine At.tick ?_) | (with_reducible refine At.gx ?_) | ((with_reducible refine At.new' ?_); focus (simp; done)) | (with_reducible refine At.alloc ?_) | (with_reducible refine At.drew ?_) | (with_reducible exact Is.new _ _ _) | (with_reducible refine Is.row ?_) | (with_reducible refine Is.gx ?_) | ((with_reducible refine Is.new' ?_); focus (simp; done)) | (with_reducible refine Is.alloc ?_) | (with_reducible refine Is.drew ?_)))); done)) | (with_reducible refine Shows.app ?_) | (with_reducible refine Shows.tick ?_) | (with_reducible refine Shows.gx ?_) | (with_reducible refine Shows.alloc ?_) | (with_reducible refine Shows.drew ?_)))); (focus (simp [Value.oneCell']; done)); (focus (simp only [maxLen]; omega)); (focus omega); (focus decide); rintro v' _ ⟨y', rfl⟩ hO' hg'; have hO2 := Hs2.out _ _ hO'; clear hO' hg'))
        all_goals
          go_wp2
          go_roundw
          case rel => exact ⟨k + 1, by omega, by go_num, by rw [E2.out]; first | exact (by repeat (first | (with_reducible exact Gx.refl _) | (with_reducible assumption) | (with_reducible refine Gx.gx ?_) | (with_reducible refine Gx.alloc ?_) | (with_reducible refine Gx.drew ?_) | (with_reducible refine Gx.drewN ?_) | (with_reducible refine Gx.setRow ?_ (by simp)) | (with_reducible refine Gx.setCell ?_ (by simp)))) | (rw [setRow_gx _ _ _ _ (by simp), setRow_alloc_at _ _ _ _ _ _ rfl]; exact (by repeat (first | (with_reducible exact Gx.refl _) | (with_reducible assumption) | (with_reducible refine Gx.gx ?_) | (with_reducible refine Gx.alloc ?_) | (with_reducible refine Gx.drew ?_) | (with_reducible refine Gx.drewN ?_) | (with_reducible refine Gx.setRow ?_ (by simp)) | (with_reducible refine Gx.setCell ?_ (by simp))))), by first | exact hO2 | exact hO2.row (Nat.lt_succ_self _) | (have h' := hO2.row (g := W1.heap.size) (cs := fc (mendW F k)) (Nat.lt_succ_self _); rw [setRow_gx _ _ _ _ (by simp), setRow_alloc_at _ _ _ _ _ _ rfl] at h'; exact h')⟩
          case measure => simp [intOf]; omega
    · obtain rfl : k = 64 := by omega
      obtain ⟨A0, c0, rfl, -, -, -, -⟩ := hO.is
      have hG2 : ∃ x, gx (W1.alloc (.cells (fc (mendTo zeroF F 64)) 32)) y = gx w x := Gx.gx (Gx.alloc hG1)
      have hI2 : Is W1 (w.heap.size + 1) 32 := ⟨_, hA2⟩
      by_cases h1 : (placesTo F 64).length = 1
      · have m1 : mdF F = mendTo zeroF F 64 := by unfold mdF; rw [Hw.out, Hs.out, if_pos h1]; rfl
        have m2 : mdP F = placesTo F 64 := by unfold mdP; rw [Hw.out, Hs.out, if_pos h1]; rfl
        have m3 : mdB F = true := by unfold mdB; rw [Hw.out, Hs.out, decide_eq_true h1]; rfl
        have M1 := Lib.hid m1
        have M2 := Lib.hid m2
        have M3 := Lib.hid m3
        have hb : (((placesTo F 64).length : Int) != 1) = false := by rw [h1]; rfl
        clear m1 m2 m3 h1
        go_wp2_with (first | (refine load_fr rfl _ rfl _ rfl ?_ ?_ ?_ ?_; rotate_left; (focus (repeat (first | (with_reducible assumption) | (with_reducible exact At.new _ _) | (with_reducible refine At.row ?_) | (with_reducible refine At.app ?_) | (with_reducible refine At.tick ?_) | (with_reducible refine At.gx ?_) | ((with_reducible refine At.new' ?_); focus (simp; done)) | (with_reducible refine At.alloc ?_) | (with_reducible refine At.drew ?_) | (with_reducible exact Is.new _ _ _) | (with_reducible refine Is.row ?_) | (with_reducible refine Is.gx ?_) | ((with_reducible refine Is.new' ?_); focus (simp; done)) | (with_reducible refine Is.alloc ?_) | (with_reducible refine Is.drew ?_)))); (focus (with_reducible (first | exact hl | exact hl1 | exact hl2 | exact hl3 | exact hl4 | exact zeroF_len)))) | (refine store_fr rfl _ _ rfl _ rfl _ rfl ?_ ?_ ?_ ?_ ?_; rotate_left; (focus (repeat (first | (with_reducible assumption) | (with_reducible exact At.new _ _) | (with_reducible refine At.row ?_) | (with_reducible refine At.app ?_) | (with_reducible refine At.tick ?_) | (with_reducible refine At.gx ?_) | ((with_reducible refine At.new' ?_); focus (simp; done)) | (with_reducible refine At.alloc ?_) | (with_reducible refine At.drew ?_) | (with_reducible exact Is.new _ _ _) | (with_reducible refine Is.row ?_) | (with_reducible refine Is.gx ?_) | ((with_reducible refine Is.new' ?_); focus (simp; done)) | (with_reducible refine Is.alloc ?_) | (with_reducible refine Is.drew ?_)))); (focus (with_reducible (first | exact hl | exact hl1 | exact hl2 | exact hl3 | exact hl4 | exact zeroF_len))); (focus (with_reducible (first | exact hl | exact hl1 | exact hl2 | exact hl3 | exact hl4 | exact zeroF_len)))))
        (refine ret_fr_tmp2 rfl _ _ _ ?_ rfl rfl ?_ ?_ ?_; rotate_left; (focus (repeat (first | (with_reducible assumption) | (with_reducible exact At.new _ _) | (with_reducible refine At.row ?_) | (with_reducible refine At.app ?_) | (with_reducible refine At.tick ?_) | (with_reducible refine At.gx ?_) | ((with_reducible refine At.new' ?_); focus (simp; done)) | (with_reducible refine At.alloc ?_) | (with_reducible refine At.drew ?_) | (with_reducible exact Is.new _ _ _) | (with_reducible refine Is.row ?_) | (with_reducible refine Is.gx ?_) | ((with_reducible refine Is.new' ?_); focus (simp; done)) | (with_reducible refine Is.alloc ?_) | (with_reducible refine Is.drew ?_)))); (focus (with_reducible (first | exact hl | exact hl1 | exact hl2 | exact hl3 | exact hl4 | exact zeroF_len))))
        rw [M1.out, M2.out, M3.out]
        refine md_ret (v := .slice A0 (placesTo F 64).length c0) (n := (placesTo F 64).length) (P := placesTo F 64) (G := mendTo zeroF F 64) (o := true) (b := w.heap.size) ?_ (Nat.le_refl _) ?_ rfl
        · first | exact Gx.setRow hG2 (by omega) | exact Gx.gx (Gx.alloc (Gx.setRow hG1 (by omega)))
        · have h' := hO.row (g := w.heap.size + 1) (cs := fc (mendTo zeroF F 64)) (by omega)
          first | exact h'.base (by omega) | (rw [setRow_gx _ _ _ _ (by simp <;> omega), setRow_alloc_past _ _ _ _ (by omega)] at h'; exact h'.base (by omega))
      · have m1 : mdF F = zeroF := by unfold mdF; rw [Hw.out, Hs.out, if_neg h1]; rfl
        have m2 : mdP F = [] := by unfold mdP; rw [Hw.out, Hs.out, if_neg h1]; rfl
        have m3 : mdB F = false := by unfold mdB; rw [Hw.out, Hs.out, decide_eq_false h1]; rfl
        have M1 := Lib.hid m1
        have M2 := Lib.hid m2
        have M3 := Lib.hid m3
        have hb : (((placesTo F 64).length : Int) != 1) = true := by rw [bne_iff_ne]; omega
        clear m1 m2 m3 h1
        go_wp2_with (first | (refine load_fr rfl _ rfl _ rfl ?_ ?_ ?_ ?_; rotate_left; (focus (repeat (first | (with_reducible assumption) | (with_reducible exact At.new _ _) | (with_reducible refine At.row ?_) | (with_reducible refine At.app ?_) | (with_reducible refine At.tick ?_) | (with_reducible refine At.gx ?_) | ((with_reducible refine At.new' ?_); focus (simp; done)) | (with_reducible refine At.alloc ?_) | (with_reducible refine At.drew ?_) | (with_reducible exact Is.new _ _ _) | (with_reducible refine Is.row ?_) | (with_reducible refine Is.gx ?_) | ((with_reducible refine Is.new' ?_); focus (simp; done)) | (with_reducible refine Is.alloc ?_) | (with_reducible refine Is.drew ?_)))); (focus (with_reducible (first | exact hl | exact hl1 | exact hl2 | exact hl3 | exact hl4 | exact zeroF_len)))) | (refine store_fr rfl _ _ rfl _ rfl _ rfl ?_ ?_ ?_ ?_ ?_; rotate_left; (focus (repeat (first | (with_reducible assumption) | (with_reducible exact At.new _ _) | (with_reducible refine At.row ?_) | (with_reducible refine At.app ?_) | (with_reducible refine At.tick ?_) | (with_reducible refine At.gx ?_) | ((with_reducible refine At.new' ?_); focus (simp; done)) | (with_reducible refine At.alloc ?_) | (with_reducible refine At.drew ?_) | (with_reducible exact Is.new _ _ _) | (with_reducible refine Is.row ?_) | (with_reducible refine Is.gx ?_) | ((with_reducible refine Is.new' ?_); focus (simp; done)) | (with_reducible refine Is.alloc ?_) | (with_reducible refine Is.drew ?_)))); (focus (with_reducible (first | exact hl | exact hl1 | exact hl2 | exact hl3 | exact hl4 | exact zeroF_len))); (focus (with_reducible (first | exact hl | exact hl1 | exact hl2 | exact hl3 | exact hl4 | exact zeroF_len)))))
        (refine ret_fr_tmp2 rfl _ _ _ ?_ rfl rfl ?_ ?_ ?_; rotate_left; (focus (repeat (first | (with_reducible assumption) | (with_reducible exact At.new _ _) | (with_reducible refine At.row ?_) | (with_reducible refine At.app ?_) | (with_reducible refine At.tick ?_) | (with_reducible refine At.gx ?_) | ((with_reducible refine At.new' ?_); focus (simp; done)) | (with_reducible refine At.alloc ?_) | (with_reducible refine At.drew ?_) | (with_reducible exact Is.new _ _ _) | (with_reducible refine Is.row ?_) | (with_reducible refine Is.gx ?_) | ((with_reducible refine Is.new' ?_); focus (simp; done)) | (with_reducible refine Is.alloc ?_) | (with_reducible refine Is.drew ?_)))); (focus (with_reducible (first | exact hl | exact hl1 | exact hl2 | exact hl3 | exact hl4 | exact zeroF_len))))
        rw [M1.out, M2.out, M3.out]
        refine md_ret (v := .slice none 0 0) (n := 0) (P := []) (G := zeroF) (o := false) (b := w.heap.size) ?_ (Nat.le_refl _) ?_ rfl
        · first | exact Gx.setRow hG2 (by omega) | exact Gx.gx (Gx.alloc (Gx.setRow hG1 (by omega)))
        · rw [iC_nil]; exact Own.nil _ _ _ _
end Go.Proofs.YtemgjiajpgepiaaDoor
