/-
  lowest of the program: a fraction in lowest terms.
-/
import Derived.Test.YtikgfidpdghkpaaDoorSRatV
import Derived.Test.YtikgfidpdghkpaaDoorSInk
import Derived.Test.YtikgfidpdghkpaaDoorSWidP
import Derived.BigRegion
namespace Go.Proofs.YtikgfidpdghkpaaDoor
open Go.RowKit
-- AT2

set_option maxHeartbeats 4000000 in
set_option maxRecDepth 100000 in
theorem lowest_any (n : Int) (D : Nat) (hn : n.natAbs < 4611686018427387904) (h0 : 0 < D) (hD : D < 4611686018427387904) (w : World) :
    Calls Tryd.prog 37 #[.int .i64 n, .int .i64 D] w fun e w' => e = .returned (ratV (lowN n D) (lowD n D)) ∧ ∃ x, w' = gx w x := by
  obtain ⟨a, ha⟩ : ∃ a, a = n.natAbs := ⟨_, rfl⟩
  obtain ⟨G, hG⟩ : ∃ G, G = Nat.gcd a D := ⟨_, rfl⟩
  have hG0 : 0 < G := by rw [hG]; exact Nat.gcd_pos_of_pos_right _ h0
  have eg : ((Int.gcd n D : Nat) : Int) = (G : Int) := by rw [hG, ha]; rfl
  have HS : ∀ W, Calls Tryd.prog 38 #[.int .i64 n] W fun e w' => e = .returned (.int .i64 a) ∧ W = w' := fun W => by
    have h := size_any n W (by omega) (by omega)
    have hs := sz_cases n
    rw [show sz n = (a : Int) by omega] at h
    exact h
  have HS := Lib.hid HS
  unfold lowN lowD
  rw [eg]
  have HG := Lib.hid hG
  obtain ⟨N, hN⟩ : ∃ N, N = n.tdiv (G : Int) := ⟨_, rfl⟩
  obtain ⟨E, hE⟩ : ∃ E, E = D / G := ⟨_, rfl⟩
  have e2 : (D : Int).tdiv (G : Int) = (E : Int) := by rw [hE]; rfl
  rw [← hN, e2]
  have hNb : N.natAbs ≤ n.natAbs := by rw [hN, Int.natAbs_tdiv]; exact Nat.div_le_self _ _
  have hEb : E ≤ D := by rw [hE]; exact Nat.div_le_self _ _
  have f1 : IntKind.i64.wrap N = N := by rw [IntKind.wrap_i64]; omega
  have f2 : IntKind.i64.wrap (E : Int) = (E : Int) := by rw [IntKind.wrap_i64]; omega
  have g0 : ¬ (G : Int) = 0 := by omega
  have g1 : ((G : Int) == 0) = false := by rw [beq_eq_false_iff_ne]; omega
  have hN' := hN.symm
  clear hN hE hNb hEb eg hG
  have hab : a < 9223372036854775808 := by omega
  have hDb : D < 9223372036854775808 := by omega
  clear ha hn hD h0
  go_enter Tryd.func37, Tryd.ntmps37
  go_wp2_with (go_at_call 38; refine (HS.out _).mono ?_; rintro e w' ⟨rfl, rfl⟩)
  go_loopw [5, 6] (fun p q wr => ∃ x y : Nat, p = .int .i64 x ∧ q = .int .i64 y ∧ x < 9223372036854775808 ∧ y < 9223372036854775808 ∧ Nat.gcd x y = G ∧ (∃ z, wr = gx w z) ∧ At wr w.heap.size (.cells #[.int .i64 0, .int .i64 0] 35 (0, 0))) (fun _ q _ => (intOf q).toNat)
  case atStart => exact ⟨_, _, rfl, rfl, hab, hDb, HG.out.symm, (by repeat (first | (with_reducible exact Gx.refl _) | (with_reducible assumption) | (with_reducible refine Gx.gx ?_) | (with_reducible refine Gx.alloc ?_) | (with_reducible refine Gx.drew ?_) | (with_reducible refine Gx.drewN ?_) | (with_reducible refine Gx.setRow ?_ (by simp)) | (with_reducible refine Gx.setCell ?_ (by simp)))), by (focus (repeat (first | (with_reducible assumption) | (with_reducible exact At.new _ _) | (with_reducible refine At.row ?_) | (with_reducible refine At.app ?_) | (with_reducible refine At.tick ?_) | (with_reducible refine At.gx ?_) | ((with_reducible refine At.new' ?_); focus (simp; done)) | (with_reducible refine At.alloc ?_) | (with_reducible refine At.drew ?_) | (with_reducible exact Is.new _ _ _) | (with_reducible refine Is.row ?_) | (with_reducible refine Is.gx ?_) | ((with_reducible refine Is.new' ?_); focus (simp; done)) | (with_reducible refine Is.alloc ?_) | (with_reducible refine Is.drew ?_))))⟩
  case round =>
    obtain ⟨x, y, rfl, rfl, hx, hy, hxy, hG, hA⟩ := hrel
    have HW := Lib.hid hG
    have HA := Lib.hid hA
    have l0 : w.heap.size < wr.heap.size := hA.lt
    clear hG hA
    by_cases h : y = 0
    · subst h
      rw [Nat.gcd_zero_right] at hxy
      subst hxy
      have c0 : wr.cell? ⟨w.heap.size, 0, none⟩ = some (.int .i64 0) := by rw [cell_of_row wr _ _ _ _ _ HA.out]; rfl
      have c1 : wr.cell? ⟨w.heap.size, 1, none⟩ = some (.int .i64 0) := by rw [cell_of_row wr _ _ _ _ _ HA.out]; rfl
      have z0 : wr.frozen? ⟨w.heap.size, 0, none⟩ = false := HA.out.frz
      have z1 : wr.frozen? ⟨w.heap.size, 1, none⟩ = false := HA.out.frz
      go_wp2
      go_region
      go_wp2
      have r1 : (wr.setCell ⟨w.heap.size, 0, none⟩ (.int .i64 N)).cell? ⟨w.heap.size, 1, none⟩ = some (.int .i64 0) := (World.cell?_setCell_other _ _ _ _ (by simp)).trans c1
      have q0 : (wr.setCell ⟨w.heap.size, 0, none⟩ (.int .i64 N)).cell? ⟨w.heap.size, 0, none⟩ = some (.int .i64 N) := World.cell?_setCell_same _ _ _ c0
      have q1 : ((wr.setCell ⟨w.heap.size, 0, none⟩ (.int .i64 N)).setCell ⟨w.heap.size, 1, none⟩ (.int .i64 E)).cell? ⟨w.heap.size, 1, none⟩ = some (.int .i64 E) := World.cell?_setCell_same _ _ _ r1
      exact bodyPost_ret (v := ratV N E) (by simp [results, Tryd.results37, go_sem, q0, q1]) rfl ⟨rfl, by obtain ⟨k, rfl⟩ := HW.out; exact (by repeat (first | (with_reducible exact Gx.refl _) | (with_reducible assumption) | (with_reducible refine Gx.gx ?_) | (with_reducible refine Gx.alloc ?_) | (with_reducible refine Gx.drew ?_) | (with_reducible refine Gx.drewN ?_) | (with_reducible refine Gx.setRow ?_ (by simp)) | (with_reducible refine Gx.setCell ?_ (by simp))))⟩
    · have n0 : ¬ (y : Int) = 0 := by omega
      have n1 : ((y : Int) == 0) = false := by rw [beq_eq_false_iff_ne]; omega
      have n2 : ((y : Int) != 0) = true := by simp; omega
      have e1 : (x : Int).tmod (y : Int) = ((x % y : Nat) : Int) := rfl
      have hlt := Nat.mod_lt x (Nat.pos_of_ne_zero h)
      rw [gcd_loop] at hxy
      generalize x % y = z at *
      have e3 : IntKind.i64.wrap (z : Int) = (z : Int) := by rw [IntKind.wrap_i64]; omega
      go_wp2
      go_region
      go_wp2
      go_roundw
      case rel => exact ⟨y, z, rfl, rfl, hy, by omega, hxy, by obtain ⟨k, rfl⟩ := HW.out; exact (by repeat (first | (with_reducible exact Gx.refl _) | (with_reducible assumption) | (with_reducible refine Gx.gx ?_) | (with_reducible refine Gx.alloc ?_) | (with_reducible refine Gx.drew ?_) | (with_reducible refine Gx.drewN ?_) | (with_reducible refine Gx.setRow ?_ (by simp)) | (with_reducible refine Gx.setCell ?_ (by simp)))), HA.out⟩
      case measure => simp [intOf]; omega
end Go.Proofs.YtikgfidpdghkpaaDoor
