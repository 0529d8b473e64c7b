/-
  Fields of instruments: whether one is set that a kind does not use.
-/
import Derived.Test.YtbhcjaejkplfeaaGreatDoorPName
import Derived.Test.YtbhcjaejkplfeaaGreatDoorPTk
namespace Go.Proofs.YtbhcjaejkplfeaaGreatDoor
open Go.RowKit
-- AT2
-- AT3

/-- Numbers lie at the beginning of a block. -/
@[irreducible] def NsAt (w : World) (gk : Nat) (ks : List Int) : Prop := gk < w.heap.size ∧ ∀ j, j < ks.length → w.cell? ⟨gk, j, none⟩ = some (.int .i64 (ks.getD j 0))
theorem NsAt.out {w : World} {gk : Nat} {ks : List Int} (h : NsAt w gk ks) : gk < w.heap.size ∧ ∀ j, j < ks.length → w.cell? ⟨gk, j, none⟩ = some (.int .i64 (ks.getD j 0)) := by unfold NsAt at h; exact h
theorem NsAt.on {w W : World} {gk : Nat} {ks : List Int} (h : NsAt w gk ks) (hW : ∃ x, W = Go.Proofs.YtbhcjaejkplfeaaGreatDoor.gx w x) : NsAt W gk ks := by
  obtain ⟨x, rfl⟩ := hW
  unfold NsAt at h ⊢
  exact ⟨by rw [size_gx]; omega, fun j hj => cell_keep_gx (h.2 j hj)⟩
/-- Is a number among some? -/
@[irreducible] def inI (ks : List Int) (v : Int) : Bool := ks.contains v
theorem notIn_step {ks : List Int} {k : Nat} {v : Int} (h : ∀ j, j < k → ks.getD j 0 ≠ v) (h2 : ks.getD k 0 ≠ v) : ∀ j, j < k + 1 → ks.getD j 0 ≠ v := fun j hj => by
  by_cases e : j = k
  · subst e; exact h2
  · exact h j (by omega)
theorem notIn_all {ks : List Int} {v : Int} (h : ∀ j, j < ks.length → ks.getD j 0 ≠ v) : inI ks v = false := by
  unfold inI
  rw [Bool.eq_false_iff]
  intro hc
  rw [List.contains_iff_mem] at hc
  obtain ⟨j, hj, e⟩ := List.getElem_of_mem hc
  exact h j hj (by simp [List.getD, hj, e])
theorem in_at {ks : List Int} {v : Int} {k : Nat} (hk : k < ks.length) (h : ks.getD k 0 = v) : inI ks v = true := by
  unfold inI
  rw [List.contains_iff_mem, ← h]
  simp [List.getD, hk]
set_option maxHeartbeats 1000000 in
theorem IndexI_any (ks : List Int) (gk c : Nat) (v : Int) (w : World) (h : NsAt w gk ks) (hl : ks.length ≤ 100) :
    Calls Tryz.prog 88 #[.slice (some ⟨gk, 0, none⟩) ks.length c, .int .i64 v] w fun e w' => ∃ r : Int, e = .returned (.int .i64 r) ∧ Hid (decide (0 ≤ r) = inI ks v) ∧ w = w' := by
  obtain ⟨hg, hc⟩ := h.out
  have HC := Lib.hid hc
  clear h hc
  go_enter Tryz.func88, Tryz.ntmps88
  go_wp2
  go_loop [8] (fun i => ∃ k : Nat, k ≤ ks.length ∧ i = .int .i64 k ∧ Hid (∀ j, j < k → ks.getD j 0 ≠ v)) (fun i => ks.length - (intOf i).toNat)
  case atStart => exact ⟨0, Nat.zero_le _, rfl, Lib.hid (fun j hj => by omega)⟩
  case round =>
    obtain ⟨k, hk, rfl, HN⟩ := hrel
    by_cases hlt : k < ks.length
    · have ck := HC.out k hlt
      have hlt' : (k : Int) < (ks.length : Int) := by omega
      by_cases hv : v = ks.getD k 0
      · have HI := Lib.hid (in_at hlt hv.symm)
        have hv2 : (v == ks.getD k 0) = true := by rw [beq_iff_eq]; exact hv
        clear hv
        generalize ks.getD k 0 = u at *
        go_wp2
        go_ret
        exact ⟨_, rfl, Lib.hid (by rw [HI.out]; exact decide_eq_true (by omega)), rfl⟩
      · have HM := Lib.hid (notIn_step HN.out (fun e => hv e.symm))
        have hv2 : (v == ks.getD k 0) = false := by rw [beq_eq_false_iff_ne]; exact hv
        clear hv
        generalize ks.getD k 0 = u at *
        go_wp2
        go_round
        case rel => exact ⟨k + 1, by omega, by go_num, HM⟩
        case measure => simp [intOf]; omega
    · obtain rfl : k = ks.length := by omega
      have HI := Lib.hid (notIn_all HN.out)
      go_wp2
      go_ret
      exact ⟨_, rfl, Lib.hid (by rw [HI.out]; rfl), rfl⟩
theorem ContainsI_any (ks : List Int) (gk c : Nat) (v : Int) (w : World) (h : NsAt w gk ks) (hl : ks.length ≤ 100) :
    Calls Tryz.prog 60 #[.slice (some ⟨gk, 0, none⟩) ks.length c, .int .i64 v] w fun e w' => e = .returned (.bool (inI ks v)) ∧ w = w' := by
  go_enter Tryz.func60, Tryz.ntmps60
  go_wp2_with (first | (go_at_call 88; refine (IndexI_any ks gk c v _ h hl).mono ?_; rintro e w' ⟨r, rfl, HR, rfl⟩))
  go_ret
  exact ⟨by rw [← HR.out]; rfl, rfl⟩
end Go.Proofs.YtbhcjaejkplfeaaGreatDoor
