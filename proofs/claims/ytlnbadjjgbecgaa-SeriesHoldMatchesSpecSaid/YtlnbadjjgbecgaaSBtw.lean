/-
  Between of the program: the first solid sample that is not ahead of a time, and the line that leads to it.
-/
import Derived.Test.YtlnbadjjgbecgaaSRRange
import Derived.Test.YtlnbadjjgbecgaaSLine
namespace Go.Proofs.Ytlnbadjjgbecgaa
open Go.RowKit
-- AT2
-- AT3

/-- The number, in a list of samples, of the first one that is not ahead of a time. -/
def fstN (g : Nat → Sm) (L : List Nat) (a : Int) : Nat := L.findIdx (fun i => decide (a ≤ (g i).t))
theorem fstN_le (g : Nat → Sm) (L : List Nat) (a : Int) : fstN g L a ≤ L.length := List.findIdx_le_length
theorem fstN_no {g : Nat → Sm} {L : List Nat} {a : Int} {j : Nat} (h : j < fstN g L a) : (g (L.getD j 0)).t < a := by
  have hl : j < L.length := Nat.lt_of_lt_of_le h (fstN_le g L a)
  have := List.not_of_lt_findIdx h
  have e : L.getD j 0 = (L)[j] := by simp [List.getD, hl]
  rw [e]
  simp at this
  omega
theorem fstN_yes {g : Nat → Sm} {L : List Nat} {a : Int} (h : fstN g L a < L.length) : a ≤ (g (L.getD (fstN g L a) 0)).t := by
  have := List.findIdx_getElem (w := h)
  have e : L.getD (fstN g L a) 0 = (L)[fstN g L a] := by simp [List.getD, h]
  rw [e]
  unfold fstN
  simpa using this
theorem fstN_uniq {g : Nat → Sm} {L : List Nat} {a : Int} {k : Nat} (hk : k ≤ L.length) (h1 : ∀ j, j < k → (g (L.getD j 0)).t < a) (h2 : k < L.length → a ≤ (g (L.getD k 0)).t) : fstN g L a = k := by
  rcases Nat.lt_trichotomy (fstN g L a) k with h | h | h
  · have := fstN_yes (show fstN g L a < L.length by omega)
    have := h1 _ h
    omega
  · exact h
  · have := fstN_no h
    have := h2 (by have := fstN_le g L a; omega)
    omega
/-- .. as a number of Go: -1 if there is none. -/
def fstI (g : Nat → Sm) (L : List Nat) (a : Int) : Int := if fstN g L a < L.length then (fstN g L a : Int) else -1
/-- The cells of solid samples with their numbers. -/
def SolAt (W : World) (g : Nat → Sm) (L : List Nat) (b o : Nat) : Prop := ∀ k, k < L.length → W.cell? ⟨b, o + k * 4, none⟩ = some (.int .i64 (g (L.getD k 0)).t) ∧ W.cell? ⟨b, o + k * 4 + 1, none⟩ = some (.int .i64 (g (L.getD k 0)).n) ∧ W.cell? ⟨b, o + k * 4 + 2, none⟩ = some (.int .i64 (g (L.getD k 0)).m) ∧ W.cell? ⟨b, o + k * 4 + 3, none⟩ = some (.int .i64 ((L.getD k 0 : Nat) : Int))
theorem SolAt.gx {W : World} {g : Nat → Sm} {L : List Nat} {b o : Nat} {x : Ext} (h : SolAt W g L b o) : SolAt (gx W x) g L b o := fun k hk => by
  obtain ⟨h1, h2, h3, h4⟩ := h k hk
  exact ⟨cell_keep_gx h1, cell_keep_gx h2, cell_keep_gx h3, cell_keep_gx h4⟩
theorem sol_cells {b0 : Nat} {W : World} {g : Nat → Sm} {L : List Nat} {A : Option Addr} {c : Nat} (h : Own b0 W 49 4 (.slice A L.length c) L.length (slC g L)) (hl : 0 < L.length) : ∃ b o, A = some ⟨b, o, none⟩ ∧ SolAt W g L b o := by
  obtain ⟨A', c', e, _, _, _, hsh⟩ := h.is
  injection e with e1 e2 e3
  subst e1
  unfold Shows at hsh
  obtain ⟨gS, o, rfl, hc⟩ := hsh (by have := slC_len g L; omega)
  refine ⟨gS, o, rfl, fun k hk => ?_⟩
  obtain ⟨e1, e2, e3, e4⟩ := slC_at g L k hk
  exact ⟨hc _ _ e1, by rw [Nat.add_assoc]; exact hc _ _ e2, by rw [Nat.add_assoc]; exact hc _ _ e3, by rw [Nat.add_assoc]; exact hc _ _ e4⟩
theorem between1_any (t n m k a : Int) (ba : Nat) (W : World) (ha : W.cell? ⟨ba, 0, none⟩ = some (.int .i64 a)) :
    Calls Try.prog 20 (#[.agg #[.int .i64 t, .int .i64 n, .int .i64 m, .int .i64 k]] ++ #[.pointer (some ⟨ba, 0, none⟩)]) W fun e w' => e = .returned (.bool (decide (a ≤ t))) ∧ ∃ x, w' = gx W x := by
  have ha' : (W.alloc (.cells #[.int .i64 t, .int .i64 n, .int .i64 m, .int .i64 k] 49)).cell? ⟨ba, 0, none⟩ = some (.int .i64 a) := cell_keep_alloc ha
  go_enter Try.func20, Try.ntmps20
  go_wp2
  go_ret
  exact ⟨rfl, (by repeat (first | (with_reducible exact Gx.refl _) | (with_reducible assumption) | (with_reducible refine Gx.gx ?_) | (with_reducible refine Gx.alloc ?_) | (with_reducible refine Gx.drew ?_) | (with_reducible refine Gx.drewN ?_) | (with_reducible refine Gx.setRow ?_ (by first | omega | (simp; done) | (simp <;> omega))) | (with_reducible refine Gx.setCell ?_ (by first | omega | (simp; done) | (simp <;> omega)))))⟩
set_option maxHeartbeats 4000000 in
set_option maxRecDepth 100000 in
theorem IndexFunc_any (g : Nat → Sm) (L : List Nat) (A : Option Addr) (c ba : Nat) (a : Int) (w : World) (hl : L.length ≤ 20000) (hb : 0 < L.length → ∃ b o, A = some ⟨b, o, none⟩ ∧ SolAt w g L b o) (ha : w.cell? ⟨ba, 0, none⟩ = some (.int .i64 a)) :
    Calls Try.prog 19 #[.slice A L.length c, .func (.func 20) #[] #[.pointer (some ⟨ba, 0, none⟩)]] w fun e w' => e = .returned (.int .i64 (fstI g L a)) ∧ ∃ x, w' = gx w x := by
  have eg : ∀ args w, (callFunc 20 args).run Try.prog w = .ok (.enter 20 args) w := enters_of Try.func20 (by kernel_rfl) rfl
  obtain ⟨n, hn⟩ : ∃ n, n = L.length := ⟨_, rfl⟩
  have HN := Lib.hid hn
  rw [← hn] at hl hb ⊢
  clear hn
  go_enter Try.func19, Try.ntmps19
  go_wp2
  go_loopw [8] (fun i wr => ∃ k : Nat, k ≤ n ∧ i = .int .i64 k ∧ Hid (∀ j, j < k → (g (L.getD j 0)).t < a) ∧ ∃ x, wr = gx w x) (fun i _ => n - (intOf i).toNat)
  case atStart => exact ⟨0, Nat.zero_le _, rfl, fun j hj => by omega, (by repeat (first | (with_reducible exact Gx.refl _) | (with_reducible assumption) | (with_reducible refine Gx.gx ?_) | (with_reducible refine Gx.alloc ?_) | (with_reducible refine Gx.drew ?_) | (with_reducible refine Gx.drewN ?_) | (with_reducible refine Gx.setRow ?_ (by first | omega | (simp; done) | (simp <;> omega))) | (with_reducible refine Gx.setCell ?_ (by first | omega | (simp; done) | (simp <;> omega)))))⟩
  case round =>
    obtain ⟨k, hk, rfl, H1, hG⟩ := hrel
    by_cases hlt : k < n
    · have hkz : (k : Int) < (n : Int) := by omega
      obtain ⟨b, o, rfl, HS⟩ := hb (by omega)
      obtain ⟨x, hx⟩ := id hG
      obtain ⟨s1, s2, s3, s4⟩ := HS k (by rw [← HN.out]; exact hlt)
      have d1 : wr.cell? ⟨b, o + k * 4, none⟩ = some (.int .i64 (g (L.getD k 0)).t) := by rw [hx]; exact cell_keep_gx s1
      have d2 : wr.cell? ⟨b, o + k * 4 + 1, none⟩ = some (.int .i64 (g (L.getD k 0)).n) := by rw [hx]; exact cell_keep_gx s2
      have d3 : wr.cell? ⟨b, o + k * 4 + 2, none⟩ = some (.int .i64 (g (L.getD k 0)).m) := by rw [hx]; exact cell_keep_gx s3
      have d4 : wr.cell? ⟨b, o + k * 4 + 3, none⟩ = some (.int .i64 ((L.getD k 0 : Nat) : Int)) := by rw [hx]; exact cell_keep_gx s4
      have hc : wr.cell? ⟨ba, 0, none⟩ = some (.int .i64 a) := by rw [hx]; exact cell_keep_gx ha
      have hb0 : b < wr.heap.size := World.block_lt_of_cell? wr _ d1
      have HC := Lib.hid (between1_any (g (L.getD k 0)).t (g (L.getD k 0)).n (g (L.getD k 0)).m ((L.getD k 0 : Nat) : Int) a ba wr hc)
      have HG := Lib.hid hG
      clear hx s1 s2 s3 s4 hG hc HS
      by_cases h3 : a ≤ (g (L.getD k 0)).t
      · have p3 : decide (a ≤ (g (L.getD k 0)).t) = true := decide_eq_true h3
        rw [p3] at HC
        have HF : Hid (fstI g L a = (k : Int)) := by
          have e := fstN_uniq (g := g) (L := L) (a := a) (k := k) (by rw [← HN.out]; omega) H1.out (fun _ => h3)
          unfold Hid fstI; rw [if_pos (by rw [e, ← HN.out]; exact hlt), e]
        clear h3 p3 H1
        generalize (g (L.getD k 0)).t = t at *
        generalize (g (L.getD k 0)).n = xn at *
        generalize (g (L.getD k 0)).m = xm at *
        generalize ((L.getD k 0 : Nat) : Int) = xi at *
        go_wp2_with (go_at_fn 20; refine (HC.out).mono ?_; rintro e w' ⟨rfl, y, rfl⟩)
        go_ret
        exact ⟨by rw [HF.out]; first | done | rfl, Gx.gx HG.out⟩
      · have p3 : decide (a ≤ (g (L.getD k 0)).t) = false := decide_eq_false h3
        rw [p3] at HC
        have N1 : Hid (∀ j, j < k + 1 → (g (L.getD j 0)).t < a) := fun j hj => by
          rcases Nat.lt_or_ge j k with h | h
          · exact H1.out j h
          · obtain rfl : j = k := by omega
            omega
        clear h3 p3 H1
        generalize (g (L.getD k 0)).t = t at d1 HC
        generalize (g (L.getD k 0)).n = xn at d2 HC
        generalize (g (L.getD k 0)).m = xm at d3 HC
        generalize ((L.getD k 0 : Nat) : Int) = xi at d4 HC
        go_wp2_with (go_at_fn 20; refine (HC.out).mono ?_; rintro e w' ⟨rfl, y, rfl⟩)
        go_roundw
        case rel => exact ⟨k + 1, by omega, by go_num, N1, Gx.gx HG.out⟩
        case measure => simp [intOf]; omega
    · obtain rfl : k = n := by omega
      have HF : Hid (fstI g L a = -1) := by
        have e := fstN_uniq (g := g) (L := L) (a := a) (k := k) (by rw [← HN.out]; omega) H1.out (fun h => by rw [← HN.out] at h; omega)
        unfold Hid fstI; rw [if_neg (by rw [e, ← HN.out]; omega)]
      clear H1
      go_wp2
      go_ret
      exact ⟨by rw [HF.out]; first | done | rfl, hG⟩
end Go.Proofs.Ytlnbadjjgbecgaa
