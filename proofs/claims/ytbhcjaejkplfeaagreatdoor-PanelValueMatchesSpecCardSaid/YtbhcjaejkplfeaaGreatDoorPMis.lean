/-
  Fields of instruments: whether one is set that a kind does not use (the program's isMisused, for any list of fields).
-/
import Derived.Test.YtbhcjaejkplfeaaGreatDoorPFld
namespace Go.Proofs.YtbhcjaejkplfeaaGreatDoor
open Go.RowKit
-- AT2
-- AT3

/-- A field lies at a place. -/
@[irreducible] def FldAt (w : World) (g o : Nat) (f : Bool × List Int) : Prop := w.cell? ⟨g, o, none⟩ = some (.bool f.1) ∧ f.2.length ≤ 100 ∧ ∃ gk, w.cell? ⟨g, o + 1, none⟩ = some (.slice (some ⟨gk, 0, none⟩) f.2.length f.2.length) ∧ NsAt w gk f.2
theorem FldAt.out {w : World} {g o : Nat} {f : Bool × List Int} (h : FldAt w g o f) : w.cell? ⟨g, o, none⟩ = some (.bool f.1) ∧ f.2.length ≤ 100 ∧ ∃ gk, w.cell? ⟨g, o + 1, none⟩ = some (.slice (some ⟨gk, 0, none⟩) f.2.length f.2.length) ∧ NsAt w gk f.2 := by unfold FldAt at h; exact h
theorem FldAt.on {w W : World} {g o : Nat} {f : Bool × List Int} (h : FldAt w g o f) (hW : ∃ x, W = Go.Proofs.YtbhcjaejkplfeaaGreatDoor.gx w x) : FldAt W g o f := by
  unfold FldAt at h ⊢
  obtain ⟨h1, h2, gk, h3, h4⟩ := h
  refine ⟨?_, h2, gk, ?_, h4.on hW⟩
  · obtain ⟨x, rfl⟩ := hW; exact cell_keep_gx h1
  · obtain ⟨x, rfl⟩ := hW; exact cell_keep_gx h3
/-- Is a field set that a kind doesn't use? -/
@[irreducible] def misF (kd : Int) (f : Bool × List Int) : Bool := f.1 && !inI f.2 kd
@[irreducible] def misB (kd : Int) (F : List (Bool × List Int)) : Bool := F.any (misF kd)
theorem misF_no {kd : Int} {f : Bool × List Int} (h : f.1 = false) : misF kd f = false := by unfold misF; rw [h]; rfl
theorem misF_yes {kd : Int} {f : Bool × List Int} (h : f.1 = true) : misF kd f = !inI f.2 kd := by unfold misF; rw [h]; rfl
set_option maxHeartbeats 1000000 in
theorem isMis_any (f : Bool × List Int) (gk gv : Nat) (kd : Int) (w : World) (h : NsAt w gk f.2) (hl : f.2.length ≤ 100) (hv : w.cell? ⟨gv, 0, none⟩ = some (.int .i64 kd)) (hg : gv < w.heap.size) :
    Calls Tryz.prog 59 #[.agg #[.bool f.1, .slice (some ⟨gk, 0, none⟩) f.2.length f.2.length], .pointer (some ⟨gv, 0, none⟩)] w fun e w' => e = .returned (.bool (misF kd f)) ∧ ∃ x, w' = gx w x := by
  have HK := Lib.hid (fun W (hW : ∃ x, W = gx w x) => ContainsI_any f.2 gk f.2.length kd W (h.on hW) hl)
  obtain ⟨b, ks⟩ := f
  dsimp only at *
  cases b with
  | false =>
    have HM := Lib.hid (misF_no (kd := kd) (f := (false, ks)) rfl)
    generalize misF kd (false, ks) = R at *
    go_enter Tryz.func59, Tryz.ntmps59
    go_wp2_with (first | go_skip)
    go_ret
    exact ⟨by rw [HM.out]; rfl, (by repeat (first | (with_reducible exact Gx.refl _) | (with_reducible assumption) | (with_reducible refine Gx.gx ?_) | (with_reducible refine Gx.alloc ?_) | (with_reducible refine Gx.drew ?_) | (with_reducible refine Gx.drewN ?_) | (with_reducible refine Gx.setRow ?_ (by first | omega | (simp; done) | (simp <;> omega))) | (with_reducible refine Gx.setCell ?_ (by first | omega | (simp; done) | (simp <;> omega)))))⟩
  | true =>
    have HM := Lib.hid (misF_yes (kd := kd) (f := (true, ks)) rfl)
    generalize misF kd (true, ks) = R at *
    dsimp only at *
    generalize inI ks kd = I at *
    go_enter Tryz.func59, Tryz.ntmps59
    go_wp2_with (first | go_skip | (go_at_call 60; refine (HK.out _ (by repeat (first | (with_reducible exact Gx.refl _) | (with_reducible assumption) | (with_reducible refine Gx.gx ?_) | (with_reducible refine Gx.alloc ?_) | (with_reducible refine Gx.drew ?_) | (with_reducible refine Gx.drewN ?_) | (with_reducible refine Gx.setRow ?_ (by first | omega | (simp; done) | (simp <;> omega))) | (with_reducible refine Gx.setCell ?_ (by first | omega | (simp; done) | (simp <;> omega)))))).mono ?_; rintro e w' ⟨rfl, rfl⟩))
    go_ret
    exact ⟨by rw [HM.out]; rfl, (by repeat (first | (with_reducible exact Gx.refl _) | (with_reducible assumption) | (with_reducible refine Gx.gx ?_) | (with_reducible refine Gx.alloc ?_) | (with_reducible refine Gx.drew ?_) | (with_reducible refine Gx.drewN ?_) | (with_reducible refine Gx.setRow ?_ (by first | omega | (simp; done) | (simp <;> omega))) | (with_reducible refine Gx.setCell ?_ (by first | omega | (simp; done) | (simp <;> omega)))))⟩
theorem misB_none {kd : Int} {F : List (Bool × List Int)} (h : ∀ j, j < F.length → misF kd (F.getD j (false, [])) = false) : misB kd F = false := by
  unfold misB
  rw [List.any_eq_false]
  intro f hf
  obtain ⟨j, hj, e⟩ := List.getElem_of_mem hf
  have := h j hj
  rw [Bool.not_eq_true, ← this, ← e]
  simp [List.getD, hj]
theorem misB_at {kd : Int} {F : List (Bool × List Int)} {k : Nat} (hk : k < F.length) (h : misF kd (F.getD k (false, [])) = true) : misB kd F = true := by
  unfold misB
  rw [List.any_eq_true]
  exact ⟨_, List.getElem_mem hk, by rw [← h]; simp [List.getD, hk]⟩
set_option maxHeartbeats 2000000 in
theorem IndexF_any (F : List (Bool × List Int)) (g c gv : Nat) (kd : Int) (w : World) (hl : F.length ≤ 100) (h : ∀ k, k < F.length → FldAt w g (k * 2) (F.getD k (false, []))) (hv : w.cell? ⟨gv, 0, none⟩ = some (.int .i64 kd)) :
    Calls Tryz.prog 87 #[.slice (some ⟨g, 0, none⟩) F.length c, .func (.func 59) #[] #[.pointer (some ⟨gv, 0, none⟩)]] w fun e w' => ∃ r : Int, e = .returned (.int .i64 r) ∧ Hid (decide (0 ≤ r) = misB kd F) ∧ ∃ x, w' = gx w x := by
  have HF := Lib.hid h
  have HV := Lib.hid hv
  clear h hv
  go_enter Tryz.func87, Tryz.ntmps87
  go_wp2
  go_loopw [8] (fun i wr => ∃ k : Nat, k ≤ F.length ∧ i = .int .i64 k ∧ (∃ x, wr = gx w x) ∧ Hid (∀ j, j < k → misF kd (F.getD j (false, [])) = false)) (fun i _ => F.length - (intOf i).toNat)
  case atStart => exact ⟨0, Nat.zero_le _, rfl, (by repeat (first | (with_reducible exact Gx.refl _) | (with_reducible assumption) | (with_reducible refine Gx.gx ?_) | (with_reducible refine Gx.alloc ?_) | (with_reducible refine Gx.drew ?_) | (with_reducible refine Gx.drewN ?_) | (with_reducible refine Gx.setRow ?_ (by first | omega | (simp; done) | (simp <;> omega))) | (with_reducible refine Gx.setCell ?_ (by first | omega | (simp; done) | (simp <;> omega))))), Lib.hid (fun j hj => by omega)⟩
  case round =>
    obtain ⟨k, hk, rfl, hG, HN⟩ := hrel
    by_cases hlt : k < F.length
    · have hlt' : (k : Int) < (F.length : Int) := by omega
      have h0 := (HF.out k hlt).on hG
      have hcv : wr.cell? ⟨gv, 0, none⟩ = some (.int .i64 kd) := by obtain ⟨x, rfl⟩ := hG; exact cell_keep_gx HV.out
      have hgv : gv < wr.heap.size := World.block_lt_of_cell? wr _ hcv
      have HAt : Hid (misF kd (F.getD k (false, [])) = true → misB kd F = true) := Lib.hid (fun e => misB_at hlt e)
      have HSt : Hid (misF kd (F.getD k (false, [])) = false → ∀ j, j < k + 1 → misF kd (F.getD j (false, [])) = false) := Lib.hid (fun e j hj => by
        by_cases e2 : j = k
        · subst e2; exact e
        · exact HN.out j (by omega))
      have HGw := Lib.hid hG
      obtain ⟨h1, h2, gk, h3, h4⟩ := h0.out
      have hgk : g < wr.heap.size := World.block_lt_of_cell? wr _ h1
      generalize hf : F.getD k (false, []) = f at *
      have HM := Lib.hid (fun W (hW : ∃ x, W = gx wr x) => isMis_any f gk gv kd W (h4.on hW) h2 (by obtain ⟨x, rfl⟩ := hW; exact cell_keep_gx hcv) (by obtain ⟨x, rfl⟩ := hW; rw [size_gx]; omega))
      clear hf h0 h4 hG
      obtain ⟨b, ks⟩ := f
      dsimp only at *
      generalize misF kd (b, ks) = R at *
      cases R with
      | true =>
        go_wp2_with (first | (go_at_call 59; refine (HM.out _ (by repeat (first | (with_reducible exact Gx.refl _) | (with_reducible assumption) | (with_reducible refine Gx.gx ?_) | (with_reducible refine Gx.alloc ?_) | (with_reducible refine Gx.drew ?_) | (with_reducible refine Gx.drewN ?_) | (with_reducible refine Gx.setRow ?_ (by first | omega | (simp; done) | (simp <;> omega))) | (with_reducible refine Gx.setCell ?_ (by first | omega | (simp; done) | (simp <;> omega)))))).mono ?_; rintro e w' ⟨rfl, x1, rfl⟩))
        go_ret
        exact ⟨_, rfl, Lib.hid (by rw [HAt.out (by simp)]; exact decide_eq_true (by omega)), Gx.trans (by repeat (first | (with_reducible exact Gx.refl _) | (with_reducible assumption) | (with_reducible refine Gx.gx ?_) | (with_reducible refine Gx.alloc ?_) | (with_reducible refine Gx.drew ?_) | (with_reducible refine Gx.drewN ?_) | (with_reducible refine Gx.setRow ?_ (by first | omega | (simp; done) | (simp <;> omega))) | (with_reducible refine Gx.setCell ?_ (by first | omega | (simp; done) | (simp <;> omega))))) HGw.out⟩
      | false =>
        go_wp2_with (first | (go_at_call 59; refine (HM.out _ (by repeat (first | (with_reducible exact Gx.refl _) | (with_reducible assumption) | (with_reducible refine Gx.gx ?_) | (with_reducible refine Gx.alloc ?_) | (with_reducible refine Gx.drew ?_) | (with_reducible refine Gx.drewN ?_) | (with_reducible refine Gx.setRow ?_ (by first | omega | (simp; done) | (simp <;> omega))) | (with_reducible refine Gx.setCell ?_ (by first | omega | (simp; done) | (simp <;> omega)))))).mono ?_; rintro e w' ⟨rfl, x1, rfl⟩))
        go_roundw
        all_goals first
          | (simp [intOf]; omega)
          | exact ⟨k + 1, by omega, by go_num, Gx.trans (by repeat (first | (with_reducible exact Gx.refl _) | (with_reducible assumption) | (with_reducible refine Gx.gx ?_) | (with_reducible refine Gx.alloc ?_) | (with_reducible refine Gx.drew ?_) | (with_reducible refine Gx.drewN ?_) | (with_reducible refine Gx.setRow ?_ (by first | omega | (simp; done) | (simp <;> omega))) | (with_reducible refine Gx.setCell ?_ (by first | omega | (simp; done) | (simp <;> omega))))) HGw.out, Lib.hid (HSt.out (by simp))⟩
    · obtain rfl : k = F.length := by omega
      have HI := Lib.hid (misB_none HN.out)
      have HGw := Lib.hid hG
      clear hG
      go_wp2
      go_ret
      exact ⟨_, rfl, Lib.hid (by rw [HI.out]; rfl), HGw.out⟩
theorem ContainsF_any (F : List (Bool × List Int)) (g c gv : Nat) (kd : Int) (w : World) (hl : F.length ≤ 100) (h : ∀ k, k < F.length → FldAt w g (k * 2) (F.getD k (false, []))) (hv : w.cell? ⟨gv, 0, none⟩ = some (.int .i64 kd)) :
    Calls Tryz.prog 58 #[.slice (some ⟨g, 0, none⟩) F.length c, .func (.func 59) #[] #[.pointer (some ⟨gv, 0, none⟩)]] w fun e w' => e = .returned (.bool (misB kd F)) ∧ ∃ x, w' = gx w x := by
  go_enter Tryz.func58, Tryz.ntmps58
  go_wp2_with (first | (go_at_call 87; refine (IndexF_any F g c gv kd _ hl h hv).mono ?_; rintro e w' ⟨r, rfl, HR, x1, rfl⟩))
  go_ret
  exact ⟨by rw [← HR.out]; rfl, (by repeat (first | (with_reducible exact Gx.refl _) | (with_reducible assumption) | (with_reducible refine Gx.gx ?_) | (with_reducible refine Gx.alloc ?_) | (with_reducible refine Gx.drew ?_) | (with_reducible refine Gx.drewN ?_) | (with_reducible refine Gx.setRow ?_ (by first | omega | (simp; done) | (simp <;> omega))) | (with_reducible refine Gx.setCell ?_ (by first | omega | (simp; done) | (simp <;> omega)))))⟩
theorem isMisused_any (F : List (Bool × List Int)) (g c : Nat) (kd : Int) (w : World) (hl : F.length ≤ 100) (h : ∀ k, k < F.length → FldAt w g (k * 2) (F.getD k (false, []))) :
    Calls Tryz.prog 26 #[.int .i64 kd, .slice (some ⟨g, 0, none⟩) F.length c] w fun e w' => e = .returned (.bool (misB kd F)) ∧ ∃ x, w' = gx w x := by
  have HC := Lib.hid (fun W (hW : ∃ x, W = gx w x) gv hv => ContainsF_any F g c gv kd W hl (fun k hk => (h k hk).on hW) hv)
  clear h
  go_enter Tryz.func26, Tryz.ntmps26
  go_wp2_with (first | (go_at_call 58; refine (HC.out _ (by repeat (first | (with_reducible exact Gx.refl _) | (with_reducible assumption) | (with_reducible refine Gx.gx ?_) | (with_reducible refine Gx.alloc ?_) | (with_reducible refine Gx.drew ?_) | (with_reducible refine Gx.drewN ?_) | (with_reducible refine Gx.setRow ?_ (by first | omega | (simp; done) | (simp <;> omega))) | (with_reducible refine Gx.setCell ?_ (by first | omega | (simp; done) | (simp <;> omega))))) _ (by simp [go_sem])).mono ?_; rintro e w' ⟨rfl, x1, rfl⟩))
  go_ret
  exact ⟨rfl, (by repeat (first | (with_reducible exact Gx.refl _) | (with_reducible assumption) | (with_reducible refine Gx.gx ?_) | (with_reducible refine Gx.alloc ?_) | (with_reducible refine Gx.drew ?_) | (with_reducible refine Gx.drewN ?_) | (with_reducible refine Gx.setRow ?_ (by first | omega | (simp; done) | (simp <;> omega))) | (with_reducible refine Gx.setCell ?_ (by first | omega | (simp; done) | (simp <;> omega)))))⟩
end Go.Proofs.YtbhcjaejkplfeaaGreatDoor
