/-
  Between of the program and between of the reference, side by side.
-/
import Derived.Test.YtlnbadjjgbecgaaSRBtw
namespace Go.Proofs.Ytlnbadjjgbecgaa
open Go.RowKit
-- AT2
-- AT3

/-- What the two sides' lines are. -/
theorem line_math (un nn : Int) (P Q T : Nat) (hPQ : P + Q = T) (hT0 : 0 < T) (hT : T ≤ 1099511627776) (hu : -1125899906842624 ≤ un ∧ un ≤ 1125899906842624) (hn : -1125899906842624 ≤ nn ∧ nn ≤ 1125899906842624) :
    ∃ (v1 v2 v3 : Value) (rN rD : Int) (rF : Bool), (∀ W, Calls Try.prog 29 #[.int .i64 un, .int .i64 P] W fun e w' => e = .returned v1 ∧ ∃ x, w' = gx W x) ∧
      (∀ W, Calls Try.prog 29 #[.int .i64 nn, .int .i64 Q] W fun e w' => e = .returned v2 ∧ ∃ x, w' = gx W x) ∧
      (∀ W, Calls Try.prog 28 #[v1, v2] W fun e w' => e = .returned v3 ∧ ∃ x, w' = gx W x) ∧
      (∀ W, Calls Try.prog 30 #[v3, .int .i64 T] W fun e w' => e = .returned (.tuple #[ratV rN rD, .bool rF]) ∧ ∃ x, w' = gx W x) ∧
      (rF = true → IntKind.i64.wrap (lowN (un * P + nn * Q) T) = rN ∧ lowD (un * P + nn * Q) T = rD) := by
  have b1 : un.natAbs * P ≤ 1125899906842624 * 1099511627776 := Nat.mul_le_mul (by omega) (by omega)
  have b2 : nn.natAbs * Q ≤ 1125899906842624 * 1099511627776 := Nat.mul_le_mul (by omega) (by omega)
  have hv := wd_add (decide (un < 0)) (un.natAbs * P) (decide (nn < 0)) (nn.natAbs * Q)
  rw [wd_prod, wd_prod] at hv
  have hm := wdM_le (decide (un < 0)) (un.natAbs * P) (decide (nn < 0)) (nn.natAbs * Q)
  have p1 := fun W => product_any un P (by omega) (by omega) W
  have p2 := fun W => product_any nn Q (by omega) (by omega) W
  have p3 := fun W => add_any (decide (un < 0)) (decide (nn < 0)) (un.natAbs * P) (nn.natAbs * Q) (by omega) (by omega) (by omega) W
  generalize wdM (decide (un < 0)) (un.natAbs * P) (decide (nn < 0)) (nn.natAbs * Q) = m at *
  generalize wdN (decide (un < 0)) (un.natAbs * P) (decide (nn < 0)) (nn.natAbs * Q) = neg at *
  rw [← hv]
  by_cases hq : m / Nat.gcd m T ≤ 4611686018427387904
  · refine ⟨_, _, _, lowN (wdV neg m) T, lowD (wdV neg m) T, true, p1, p2, p3, fun W => ratio_fine neg m T (by omega) hT0 (by omega) hq W, fun _ => ⟨?_, rfl⟩⟩
    have h1 := (low_wd neg m T hT0).1
    have h2 := wdV_abs neg (m / Nat.gcd m T)
    rw [h1, IntKind.wrap_i64]
    omega
  · exact ⟨_, _, _, 0, 0, false, p1, p2, p3, fun W => ratio_big neg m T (by omega) hT0 (by omega) (by omega) W, fun h => by cases h⟩
theorem sm_eq {x : Sm} {a : Int} (h : x.t = a) : x = ⟨a, x.n, x.m⟩ := by subst h; rfl
theorem solL_getD {g : Nat → Sm} {n j : Nat} (h : j < (solL g n).length) : (solL g n).getD j 0 < n := by
  refine solL_lt g n _ ?_
  simp [List.getD, h]
set_option maxHeartbeats 1000000 in
theorem btw_both (den : Int) (g : Nat → Sm) (n c : Nat) (A : Option Addr) (a l : Int) (h : holdE den g n a l = 0) :
    ∃ (pN pD rN rD : Int) (pB rB rF : Bool),
      (∀ W, SmAt W g n A → Calls Try.prog 7 #[serV den A n c, .int .i64 a, .int .i64 l] W fun e w' => e = .returned (.tuple #[ratV pN pD, .bool pB, .int .i64 0]) ∧ ∃ x, w' = gx W x) ∧
      (∀ W, SmAt W g n A → Calls Try.prog 22 #[serV den A n c, .int .i64 a, .int .i64 l] W fun e w' => e = .returned (.tuple #[ratV rN rD, .bool rB, .bool rF]) ∧ ∃ x, w' = gx W x) ∧
      (rF = true → pN = rN ∧ pD = rD ∧ pB = rB) := by
  obtain ⟨e1, ⟨a1, a2⟩, l1, l2⟩ := holdE_0 h
  obtain ⟨_, hn, hG⟩ := goodS_of e1
  have hlen : (solL g n).length ≤ 20000 := by have := solL_len g n; omega
  have hok : ∀ i, i < n → 0 ≤ (g i).t ∧ (g i).t ≤ 1099511627776 ∧ -1125899906842624 ≤ (g i).n ∧ (g i).n ≤ 1125899906842624 := fun i hi => by
    have := hG.ok i hi
    unfold smOk at this
    omega
  have hT : Hid (∀ i, i < n → -1099511627776 ≤ (g i).t ∧ (g i).t ≤ 1099511627776) := fun i hi => by have := hok i hi; omega
  have K1 : ∀ w, SmAt w g n A → Hid (∀ W, (∃ y, W = gx (((w.alloc (.cells #[.int .i64 den, .slice A n c] 24)).alloc (.cells #[.int .i64 a] 3)).alloc (.cells #[.int .i64 0, .int .i64 0] 31)) y) → Calls Try.prog 13 #[serV den A n c, .int .i64 a, .int .i64 l] W fun e w' => e = .returned (.int .i64 0) ∧ ∃ x, w' = gx W x) := fun w hL W hW => by
    obtain ⟨y, rfl⟩ := hW
    rw [← h]
    exact checkHold_any den g n c A a l _ hL.alloc.alloc.alloc.gx
  have K2 : ∀ w, SmAt w g n A → Hid (∀ W, (∃ y, W = gx (((w.alloc (.cells #[.int .i64 den, .slice A n c] 24)).alloc (.cells #[.int .i64 a] 3)).alloc (.cells #[.int .i64 0, .int .i64 0] 31)) y) → Calls Try.prog 18 #[.slice A n c] W fun e w' => ∃ A' c' x, e = .returned (.slice A' (solL g n).length c') ∧ w' = gx W x ∧ Own W.heap.size w' 49 4 (.slice A' (solL g n).length c') (solL g n).length (slC g (solL g n))) := fun w hL W hW => by
    obtain ⟨y, rfl⟩ := hW
    exact solids_any g n c A _ hL.alloc.alloc.alloc.gx hn
  have K3 : ∀ w : World, Hid (∀ A' c' W, (0 < (solL g n).length → ∃ b o, A' = some ⟨b, o, none⟩ ∧ SolAt W g (solL g n) b o) → W.cell? ⟨w.heap.size + 1, 0, none⟩ = some (.int .i64 a) → Calls Try.prog 19 #[.slice A' (solL g n).length c', .func (.func 20) #[] #[.pointer (some ⟨w.heap.size + 1, 0, none⟩)]] W fun e w' => e = .returned (.int .i64 (fstI g (solL g n) a)) ∧ ∃ x, w' = gx W x) := fun w A' c' W hb hc =>
    IndexFunc_any g (solL g n) A' c' (w.heap.size + 1) a W hlen hb hc
  have R1 : ∀ w, SmAt w g n A → Hid (∀ W, (∃ y, W = gx ((w.alloc (.cells #[.int .i64 den, .slice A n c] 24)).alloc (.cells #[.int .i64 0, .int .i64 0] 31)) y) → Calls Try.prog 35 #[serV den A n c] W fun e w' => ∃ A' c' x, e = .returned (.slice A' (solL g n).length c') ∧ w' = gx W x ∧ Own W.heap.size w' 3 1 (.slice A' (solL g n).length c') (solL g n).length (numI (solL g n))) := fun w hL W hW => by
    obtain ⟨y, rfl⟩ := hW
    exact RSolids_any den g n c A _ hL.alloc.alloc.gx hn
  have hLn := solL_lt g n
  have hgd : ∀ j, j < (solL g n).length → (solL g n).getD j 0 < n := fun j hj => solL_getD hj
  have hinc : ∀ j, j + 1 ≤ fstN g (solL g n) a → (g ((solL g n).getD j 0)).t < a := fun j hj => fstN_no hj
  have hge : fstN g (solL g n) a < (solL g n).length → a ≤ (g ((solL g n).getD (fstN g (solL g n) a) 0)).t := fun h => fstN_yes h
  generalize solL g n = L at *
  rcases ahd (g := g) (L := L) (a := a) with ⟨hN, hI⟩ | ⟨hN, hI⟩
  · by_cases ht : (g (L.getD (fstN g L a) 0)).t = a
    · -- the sample is there
      refine ⟨(g (L.getD (fstN g L a) 0)).n, 1, (g (L.getD (fstN g L a) 0)).n, 1, true, true, true, fun w hL => ?_, fun w hL => ?_, fun _ => ⟨rfl, rfl, rfl⟩⟩
      · exact Between_hit den g n c A a l L _ w (K1 w hL) (K2 w hL) (K3 w) _ hN hI _ (g (L.getD (fstN g L a) 0)).m (sm_eq ht)
      · refine rbetween_core den g n c A a l L hLn hlen w _ _ _ _ hL hT (R1 w hL) (fun e => by omega) (fun k hk e _ => by subst e; exact ⟨rfl, rfl, rfl, rfl⟩) (fun h0 e hne => absurd ht (by rw [e]; exact hne)) (fun j hj e hne _ => absurd ht (by rw [e]; exact hne)) (fun j hj e hne _ => absurd ht (by rw [e]; exact hne))
    · rcases Nat.eq_zero_or_pos (fstN g L a) with h0 | h0
      · -- none ahead
        refine ⟨0, 0, 0, 0, false, false, true, fun w hL => ?_, fun w hL => ?_, fun _ => ⟨rfl, rfl, rfl⟩⟩
        · exact Between_first den g n c A a l L _ w (K1 w hL) (K2 w hL) (K3 w) (by omega) (by rw [hI, h0]; rfl) (by rw [h0] at ht; exact ht)
        · refine rbetween_core den g n c A a l L hLn hlen w _ _ _ _ hL hT (R1 w hL) (fun e => ⟨rfl, rfl, rfl, rfl⟩) (fun k hk e e2 => absurd e2 (by rw [← e]; exact ht)) (fun _ _ _ => ⟨rfl, rfl, rfl, rfl⟩) (fun j hj e hne _ => ⟨rfl, rfl, rfl, rfl⟩) (fun j hj e hne _ => by omega)
      · obtain ⟨j, hj⟩ : ∃ j, fstN g L a = j + 1 := ⟨fstN g L a - 1, by omega⟩
        have hu := hinc j (by omega)
        have hg := hge hN
        rw [hj] at hI ht hN hg
        have o1 := hok _ (hgd (j + 1) hN)
        have o2 := hok _ (hgd j (by omega))
        have hI' : fstI g L a = (j : Int) + 1 := by rw [hI]; rfl
        by_cases hf : l < (g (L.getD (j + 1) 0)).t - (g (L.getD j 0)).t
        · refine ⟨0, 0, 0, 0, false, false, true, fun w hL => ?_, fun w hL => ?_, fun _ => ⟨rfl, rfl, rfl⟩⟩
          · exact Between_far den g n c A a l L _ w (K1 w hL) (K2 w hL) (K3 w) hlen j hN hI' _ (g (L.getD (j + 1) 0)).n (g (L.getD (j + 1) 0)).m _ (g (L.getD j 0)).n (g (L.getD j 0)).m rfl rfl ht (by omega) (by omega) hf
          · refine rbetween_core den g n c A a l L hLn hlen w _ _ _ _ hL hT (R1 w hL) (fun e => ⟨rfl, rfl, rfl, rfl⟩) (fun k hk e e2 => absurd e2 (by rw [← e, hj]; exact ht)) (fun _ _ _ => ⟨rfl, rfl, rfl, rfl⟩) (fun j hj e hne _ => ⟨rfl, rfl, rfl, rfl⟩) (fun i hi e hne hl => absurd hl (by obtain rfl : i = j := (by omega); omega))
        · obtain ⟨P, hP⟩ : ∃ P : Nat, (g (L.getD (j + 1) 0)).t - a = (P : Int) := ⟨((g (L.getD (j + 1) 0)).t - a).toNat, by omega⟩
          obtain ⟨Q, hQ⟩ : ∃ Q : Nat, a - (g (L.getD j 0)).t = (Q : Int) := ⟨(a - (g (L.getD j 0)).t).toNat, by omega⟩
          obtain ⟨T, hTT⟩ : ∃ T : Nat, (g (L.getD (j + 1) 0)).t - (g (L.getD j 0)).t = (T : Int) := ⟨((g (L.getD (j + 1) 0)).t - (g (L.getD j 0)).t).toNat, by omega⟩
          obtain ⟨v1, v2, v3, rN, rD, rF, M1, M2, M3, M4, M5⟩ := line_math (g (L.getD j 0)).n (g (L.getD (j + 1) 0)).n P Q T (by omega) (by omega) (by omega) (by omega) (by omega)
          refine ⟨IntKind.i64.wrap (lowN ((g (L.getD j 0)).n * P + (g (L.getD (j + 1) 0)).n * Q) T), lowD ((g (L.getD j 0)).n * P + (g (L.getD (j + 1) 0)).n * Q) T, rN, rD, true, rF, rF, fun w hL => ?_, fun w hL => ?_, fun h => ⟨(M5 h).1, (M5 h).2, h.symm⟩⟩
          · refine Between_line den g n c A a l L _ w (K1 w hL) (K2 w hL) (K3 w) hlen j hN hI' _ (g (L.getD (j + 1) 0)).n (g (L.getD (j + 1) 0)).m _ (g (L.getD j 0)).n (g (L.getD j 0)).m rfl rfl ht (by omega) (by omega) (by omega) _ _ (fun W => ?_)
            have hq := onLine_any (g (L.getD j 0)).t (g (L.getD j 0)).n (g (L.getD j 0)).m (g (L.getD (j + 1) 0)).t (g (L.getD (j + 1) 0)).n (g (L.getD (j + 1) 0)).m a T hTT (by omega) (by omega) (by omega) (by omega) (by omega) (by omega) W
            rw [show (T : Int) - (a - (g (L.getD j 0)).t) = (P : Int) by omega, hQ] at hq
            exact hq
          · refine rbetween_core den g n c A a l L hLn hlen w _ _ _ _ hL hT (R1 w hL) (fun e => by omega) (fun k hk e e2 => absurd e2 (by rw [← e, hj]; exact ht)) (fun _ e _ => by omega) (fun i hi e hne hl => ?_) (fun i hi e hne hl => ?_)
            · obtain rfl : i = j := by omega
              exact absurd hl hf
            · obtain rfl : i = j := by omega
              refine ⟨v1, v2, v3, P, Q, by rw [hP, IntKind.wrap_i64]; omega, by rw [hQ, IntKind.wrap_i64]; omega, M1, M2, M3, ?_, rfl⟩
              rw [hTT]
              exact M4
  · -- none behind
    have hN' : fstN g L a = L.length := by have := fstN_le g L a; omega
    refine ⟨0, 0, 0, 0, false, false, true, fun w hL => ?_, fun w hL => ?_, fun _ => ⟨rfl, rfl, rfl⟩⟩
    · exact Between_none den g n c A a l L _ w (K1 w hL) (K2 w hL) (K3 w) hI
    · refine rbetween_core den g n c A a l L hLn hlen w _ _ _ _ hL hT (R1 w hL) (fun e => ⟨rfl, rfl, rfl, rfl⟩) (fun k hk e e2 => by omega) (fun _ _ _ => ⟨rfl, rfl, rfl, rfl⟩) (fun j hj e hne _ => ⟨rfl, rfl, rfl, rfl⟩) (fun j hj e hne _ => by omega)
end Go.Proofs.Ytlnbadjjgbecgaa
