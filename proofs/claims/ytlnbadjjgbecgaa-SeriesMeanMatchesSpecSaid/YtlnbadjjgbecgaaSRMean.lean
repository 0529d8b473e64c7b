/-
  Mean of the reference.
-/
import Derived.Test.YtlnbadjjgbecgaaSMean
namespace Go.Proofs.Ytlnbadjjgbecgaa
open Go.RowKit
-- AT2
-- AT3

theorem At.set3 {W : World} {K : Nat} {a b c u v x : Value} {t : TypeId} (h : At W K (.cells #[a, b, c] t (0, 0))) :
    At (((W.setCell ⟨K, 0, none⟩ u).setCell ⟨K, 1, none⟩ v).setCell ⟨K, 2, none⟩ x) K (.cells #[u, v, x] t (0, 0)) := by
  unfold At at *
  simp [World.setCell, Array.getElem?_modify, h]
/-- What stands while the mean is made. -/
structure MSt (w wr : World) (gW : Nat) (den : Int) (A : Option Addr) (n c : Nat) (ng : Bool) (hi lo : Int) : Prop where
  ser : At wr w.heap.size (.cells #[.int .i64 den, .slice A n c] 24 (0, 0))
  rat : At wr (w.heap.size + 1) (.cells #[.int .i64 0, .int .i64 0] 31 (0, 0))
  wid : At wr gW (.cells #[.bool ng, .int .u64 hi, .int .u64 lo] 63 (0, 0))
  lt : w.heap.size + 1 < gW
  grew : ∃ x, wr = gx w x
theorem MSt.gx {w wr : World} {gW : Nat} {den : Int} {A : Option Addr} {n c : Nat} {ng : Bool} {hi lo : Int} {x : Ext} (h : MSt w wr gW den A n c ng hi lo) : MSt w (gx wr x) gW den A n c ng hi lo :=
  ⟨h.ser.gx, h.rat.gx, h.wid.gx, h.lt, Gx.gx h.grew⟩
theorem MSt.alloc {w wr : World} {gW : Nat} {den : Int} {A : Option Addr} {n c : Nat} {ng : Bool} {hi lo : Int} {o : Obj} (h : MSt w wr gW den A n c ng hi lo) : MSt w (wr.alloc o) gW den A n c ng hi lo := by
  rw [alloc_is]; exact h.gx
theorem MSt.drew {w wr : World} {gW : Nat} {den : Int} {A : Option Addr} {n c : Nat} {ng : Bool} {hi lo : Int} (h : MSt w wr gW den A n c ng hi lo) : MSt w wr.drew gW den A n c ng hi lo := by
  rw [drew_is]; exact h.gx
theorem MSt.put {w wr : World} {gW : Nat} {den : Int} {A : Option Addr} {n c : Nat} {ng ng2 : Bool} {hi lo hi2 lo2 : Int} (h : MSt w wr gW den A n c ng hi lo) :
    MSt w (((wr.setCell ⟨gW, 0, none⟩ (.bool ng2)).setCell ⟨gW, 1, none⟩ (.int .u64 hi2)).setCell ⟨gW, 2, none⟩ (.int .u64 lo2)) gW den A n c ng2 hi2 lo2 := by
  have h1 := h.lt
  refine ⟨?_, ?_, h.wid.set3, h1, Gx.setCell (Gx.setCell (Gx.setCell h.grew (by omega)) (by omega)) (by omega)⟩
  · exact At.setc_other (At.setc_other (At.setc_other h.ser (by omega)) (by omega)) (by omega)
  · exact At.setc_other (At.setc_other (At.setc_other h.rat (by omega)) (by omega)) (by omega)
set_option maxHeartbeats 8000000 in
set_option maxRecDepth 100000 in
theorem RMean_core (den : Int) (g : Nat → Sm) (n c : Nat) (A : Option Addr) (fr to lg : Int) (w : World) (hL : SmAt w g n A) (hn : n ≤ 20000) (hG : GoodS g n) (T : Nat) (hT : Hid (T = sumT (mnL g n fr to lg n))) (hT2 : ∀ k, k ≤ n → sumT (mnL g n fr to lg k) ≤ 1073741824)
    (hf : 0 ≤ fr ∧ fr ≤ 1099511627776) (ht : 0 ≤ to ∧ to ≤ 1099511627776) (hl : 0 ≤ lg ∧ lg ≤ 1099511627776)
    (r1 : decide (fr < 0) = false) (r2 : decide (to < fr) = false) (r3 : decide (1099511627776 < to) = false) (r4 : IntKind.i64.wrap (to - fr) = to - fr) (r5 : decide (1073741824 < to - fr) = false) (r6 : inB 0 1099511627776 lg = true)
    (H1 : Hid (∀ W, SmAt W g n A → Calls Try.prog 15 #[serV den A n c] W fun e w' => e = .returned (.int .i64 0) ∧ ∃ x, w' = gx W x))
    (p q : Int) (ok : Bool)
    (H3 : Hid (0 < T → ∀ ng m, wdV ng m = sumS (mnL g n fr to lg n) → ∀ W, Calls Try.prog 30 #[wvV ng m, .int .i64 T] W fun e w' => e = .returned (.tuple #[ratV p q, .bool ok]) ∧ ∃ x, w' = gx W x))
    (P Q R E : Int) (E0 : Hid (T = 0 → P = 0 ∧ Q = 0 ∧ R = 0 ∧ E = 13)) (E1 : Hid (0 < T → ok = true → P = p ∧ Q = q ∧ R = T ∧ E = 0)) (E2 : Hid (0 < T → ok = false → P = 0 ∧ Q = 0 ∧ R = 0 ∧ E = 3)) :
    Calls Try.prog 12 #[serV den A n c, .int .i64 fr, .int .i64 to, .int .i64 lg] w fun e w' => e = .returned (.tuple #[ratV P Q, .int .i64 R, .int .i64 E]) ∧ ∃ x, w' = gx w x := by
  go_enter Try.func12, Try.ntmps12
  go_wp2_with first
    | (go_at_call 15; refine (H1.out _ (by (repeat (first | (with_reducible exact hL) | (with_reducible refine SmAt.gx ?_) | (with_reducible refine SmAt.alloc ?_))))).mono ?_; rintro e w' ⟨rfl, x1, rfl⟩)
    | (go_at_call 16; refine (outside_any _ _ _ _).mono ?_; rw [r6]; rintro e w' ⟨rfl, rfl⟩)
  obtain ⟨W1, hW1⟩ : ∃ W1, W1 = ((gx ((w.alloc (.cells #[.int .i64 den, .slice A n c] 24)).alloc (.cells #[.int .i64 0, .int .i64 0] 31)) x1).alloc (.cells #[.bool false, .int .u64 0, .int .u64 0] 63)) := ⟨_, rfl⟩
  rw [← hW1]
  have M1 : MSt w W1 (w.heap.size + 1 + 1 + x1.n) den A n c false 0 0 := by
    rw [hW1]
    exact ⟨At.alloc (At.gx (At.alloc (At.new _ _))), At.alloc (At.gx (At.new' (by simp))), At.new' (by simp), by omega, (by repeat (first | (with_reducible exact Gx.refl _) | (with_reducible assumption) | (with_reducible refine Gx.gx ?_) | (with_reducible refine Gx.alloc ?_) | (with_reducible refine Gx.drew ?_) | (with_reducible refine Gx.drewN ?_) | (with_reducible refine Gx.setRow ?_ (by first | omega | (simp; done) | (simp <;> omega))) | (with_reducible refine Gx.setCell ?_ (by first | omega | (simp; done) | (simp <;> omega)))))⟩
  clear hW1
  generalize w.heap.size + 1 + 1 + x1.n = gW at *
  have HM1 := Lib.hid M1
  clear M1
  go_loopw [14, 13] (fun i s wr => ∃ (k : Nat) (ng : Bool) (m : Nat) (hi lo : Int), k ≤ n ∧ i = .int .i64 k ∧ s = .int .i64 (sumT (mnL g n fr to lg k) : Int) ∧ Hid (wdV ng m = sumS (mnL g n fr to lg k)) ∧ Hid (hi = ((m / 18446744073709551616 : Nat) : Int)) ∧ Hid (lo = ((m % 18446744073709551616 : Nat) : Int)) ∧ MSt w wr gW den A n c ng hi lo) (fun i _ _ => n - (intOf i).toNat)
  case atStart => exact ⟨0, false, 0, 0, 0, Nat.zero_le _, rfl, rfl, rfl, rfl, rfl, HM1.out⟩
  case round =>
    obtain ⟨k, ng, m, hi, lo, hk, rfl, rfl, hS, hhi, hlo, hM⟩ := hrel
    have q0 : wr.cell? ⟨w.heap.size, 1, none⟩ = some (.slice A n c) := by rw [cell_of_row wr _ _ _ _ _ hM.ser]; rfl
    have l0 : w.heap.size < wr.heap.size := hM.ser.lt
    have v0 : wr.cell? ⟨gW, 0, none⟩ = some (.bool ng) := by rw [cell_of_row wr _ _ _ _ _ hM.wid]; rfl
    have v1 : wr.cell? ⟨gW, 1, none⟩ = some (.int .u64 hi) := by rw [cell_of_row wr _ _ _ _ _ hM.wid]; rfl
    have v2 : wr.cell? ⟨gW, 2, none⟩ = some (.int .u64 lo) := by rw [cell_of_row wr _ _ _ _ _ hM.wid]; rfl
    have lW : gW < wr.heap.size := hM.wid.lt
    have y0 : wr.frozen? ⟨gW, 0, none⟩ = false := hM.wid.frz
    have y1 : wr.frozen? ⟨gW, 1, none⟩ = false := hM.wid.frz
    have y2 : wr.frozen? ⟨gW, 2, none⟩ = false := hM.wid.frz
    have hL2 : SmAt wr g n A := by obtain ⟨y, hy⟩ := hM.grew; rw [hy]; exact hL.gx
    have HM := Lib.hid hM
    by_cases hlt : k < n
    · have hkz : (k : Int) < (n : Int) := by omega
      obtain ⟨b, o, rfl, hbw, HCs⟩ := hL2.get (by omega)
      obtain ⟨d1, d2, d3⟩ := HCs.out k hlt
      have hok := hG.ok k hlt
      unfold smOk at hok
      obtain ⟨o1, o2, o3, o4, o5, o6⟩ := hok
      have t1 := hT2 k (by omega)
      have t2 := hT2 (k + 1) (by omega)
      have hab := sumS_abs _ (mnL_small hG fr to lg k (by omega))
      rw [← hS.out, wdV_abs] at hab
      clear hM hL2
      by_cases h1 : k + 1 < n
      · skip
        have hkz1 : (k : Int) + 1 < (n : Int) := by omega
        have dn := (HCs.out (k + 1) h1).1
        have hok2 := hG.ok (k + 1) h1
        unfold smOk at hok2
        have eW : mnW g n fr to lg k = (min ((g k).t + lg + 1) (min (g (k + 1)).t to)) - max (g k).t fr := by unfold mnW; rw [if_pos h1]; omega
        have e8 : IntKind.i64.wrap ((min ((g k).t + lg + 1) (min (g (k + 1)).t to)) - max (g k).t fr) = (min ((g k).t + lg + 1) (min (g (k + 1)).t to)) - max (g k).t fr := by rw [IntKind.wrap_i64]; omega
        obtain ⟨Z, hZ⟩ : ∃ Z, (min ((g k).t + lg + 1) (min (g (k + 1)).t to)) - max (g k).t fr = Z := ⟨_, rfl⟩
        rw [hZ] at eW
        have e9 : IntKind.i64.wrap ((min ((g k).t + lg + 1) (min (g (k + 1)).t to)) - max (g k).t fr) = Z := by rw [e8, hZ]
        clear e8
        have f1 : IntKind.i64.wrap ((g k).t + lg) = (g k).t + lg := by rw [IntKind.wrap_i64]; omega
        have f2 : IntKind.i64.wrap ((g k).t + lg + 1) = (g k).t + lg + 1 := by rw [IntKind.wrap_i64]; omega
        by_cases h3 : 3 ≤ (g k).m
        · have p3 : decide (3 ≤ (g k).m) = true := decide_eq_true h3
          by_cases hw : 0 < Z
          · obtain ⟨K, rfl⟩ : ∃ K : Nat, Z = (K : Int) := ⟨Z.toNat, by omega⟩
            have pw : decide ((0 : Int) < (K : Int)) = true := decide_eq_true hw
            have pw' : decide (0 < K) = true := decide_eq_true (by omega)
            have pw2 : 0 < K := by omega
            have hy := mnL_yes (n := n) (fr := fr) (to := to) (lg := lg) h3 (by rw [eW]; omega)
            have eK : (mnW g n fr to lg k).toNat = K := by rw [eW]; rfl
            rw [eK] at hy
            have n1 : sumT (mnL g n fr to lg (k + 1)) = sumT (mnL g n fr to lg k) + K := by rw [hy, sumT_app]
            have n2 : sumS (mnL g n fr to lg (k + 1)) = sumS (mnL g n fr to lg k) + (g k).n * K := by rw [hy, sumS_app]
            have hP := fun W => product_any (g k).n K (by omega) (by omega) W
            have hml : (g k).n.natAbs * K ≤ 1125899906842624 * 1073741824 := Nat.mul_le_mul (by omega) (by omega)
            have hmm : m ≤ 1125899906842624 * 1073741824 := Nat.le_trans hab (Nat.mul_le_mul_left _ t1)
            have hwl := wdM_le ng m (decide ((g k).n < 0)) ((g k).n.natAbs * K)
            have hA := fun W => add_any ng (decide ((g k).n < 0)) m ((g k).n.natAbs * K) (by omega) (by omega) (by omega) W
            have hv := wd_add ng m (decide ((g k).n < 0)) ((g k).n.natAbs * K)
            rw [wd_prod, hS.out, ← n2] at hv
            have HV := Lib.hid hv
            rw [n1] at t2
            have N1 := Lib.hid n1
            unfold wvV at hA
            rw [← hhi.out, ← hlo.out] at hA
            generalize wdN ng m (decide ((g k).n < 0)) ((g k).n.natAbs * K) = ng2 at *
            generalize wdM ng m (decide ((g k).n < 0)) ((g k).n.natAbs * K) = m2 at *
            obtain ⟨hi2, hh2⟩ : ∃ h, h = ((m2 / 18446744073709551616 : Nat) : Int) := ⟨_, rfl⟩
            obtain ⟨lo2, hl2⟩ : ∃ h, h = ((m2 % 18446744073709551616 : Nat) : Int) := ⟨_, rfl⟩
            rw [← hh2, ← hl2] at hA
            have HH2 := Lib.hid hh2
            have HL2 := Lib.hid hl2
            unfold wvV at hP
            obtain ⟨V1, hV1⟩ : ∃ V1, V1 = Value.agg #[.bool (decide ((g k).n < 0)), .int .u64 (((g k).n.natAbs * K / 18446744073709551616 : Nat) : Int), .int .u64 (((g k).n.natAbs * K % 18446744073709551616 : Nat) : Int)] := ⟨_, rfl⟩
            rw [← hV1] at hP hA
            have HP := Lib.hid hP
            have HA := Lib.hid hA
            have g9 : IntKind.i64.wrap ((sumT (mnL g n fr to lg k) : Int) + (K : Int)) = ((sumT (mnL g n fr to lg k) + K : Nat) : Int) := by rw [IntKind.wrap_i64]; omega
            clear hP hA hv n1 n2 hy eK eW h3 hw h1 HCs hZ hml hmm hwl hh2 hl2 hV1 hab hS hhi hlo t1 t2 hok2
            generalize sumT (mnL g n fr to lg k) = s1 at *
            generalize (g k).t = xt at *
            generalize (g k).n = xn at *
            generalize (g k).m = xm at *
            generalize (g (k + 1)).t = yt at *
            go_wp2_with (go_at_call 27; refine (Rsolid_any _ _).mono ?_; rw [p3]; rintro e w' ⟨rfl, rfl⟩)
            first | (with_reducible refine region_gx_tail 6 (by kernel_rfl) (by kernel_rfl) ?_) | (with_reducible refine region_w_tail 6 (by kernel_rfl) (by kernel_rfl) ?_)
            simp only [List.take_succ_cons, List.take_zero, List.drop_succ_cons, List.drop_zero]
            repeat (any_goals (first | (refine quiet_fr rfl _ rfl _ rfl ?_ ?_ ?_ ?_; rotate_left; (focus (rintro _ ⟨x, rfl⟩; (focus (repeat (first | (with_reducible assumption) | (with_reducible exact At.new _ _) | (with_reducible refine At.row ?_) | ((with_reducible refine At.row_other ?_ ?_); rotate_left; (focus (simp <;> omega))) | (with_reducible refine At.app ?_) | (with_reducible refine At.tick ?_) | (with_reducible refine At.gx ?_) | ((with_reducible refine At.new' ?_); focus (simp; done)) | (with_reducible refine At.alloc ?_) | (with_reducible refine At.drew ?_) | (with_reducible exact Is.new _ _ _) | (with_reducible refine Is.row ?_) | ((with_reducible refine Is.row_other ?_ ?_); rotate_left; (focus (simp <;> omega))) | (with_reducible refine Is.gx ?_) | ((with_reducible refine Is.new' ?_); focus (simp; done)) | (with_reducible refine Is.alloc ?_) | (with_reducible refine Is.drew ?_)))))); (focus (with_reducible (first | exact hl | exact hl1 | exact hl2 | exact hl3 | exact hl4 | exact zeroF_len)))) | go_big_quiet_step ((first | (go_at_call 29; with_reducible exact calls_gx (HP.out _)) | (go_at_call 28; with_reducible exact calls_gx (HA.out _)))) | quiet_step ((first | (go_at_call 29; with_reducible exact calls_gx (HP.out _)) | (go_at_call 28; with_reducible exact calls_gx (HA.out _))))))
            refine wpQuiet_nil ?_
            rintro _ ⟨x, rfl⟩
            go_wp2
            go_roundw
            case rel => exact ⟨k + 1, ng2, m2, hi2, lo2, by omega, by go_num, by rw [N1.out, Int.natCast_add], HV.out, HH2.out, HL2.out, by have hm := HM.out; first | exact hm.alloc.put.gx | exact hm.put.alloc.gx | exact hm.put.gx⟩
            case measure => simp [intOf]; omega
          · have pw : decide ((0 : Int) < Z) = false := decide_eq_false hw
            have hs := Lib.hid (mnL_no (g := g) (n := n) (fr := fr) (to := to) (lg := lg) (k := k) (by rw [eW]; omega))
            clear h3 hw eW hZ h1 HCs hab t1 t2 hok2
            generalize (g k).t = xt at *
            generalize (g k).n = xn at *
            generalize (g k).m = xm at *
            generalize (g (k + 1)).t = yt at *
            go_wp2_with (go_at_call 27; refine (Rsolid_any _ _).mono ?_; rw [p3]; rintro e w' ⟨rfl, rfl⟩)
            go_roundw
            case rel => exact ⟨k + 1, ng, m, hi, lo, by omega, by go_num, by rw [hs.out], by rw [hs.out]; exact hS, hhi, hlo, HM.out.alloc⟩
            case measure => simp [intOf]; omega
        · have p3 : decide (3 ≤ (g k).m) = false := decide_eq_false h3
          have hs := Lib.hid (mnL_no (g := g) (n := n) (fr := fr) (to := to) (lg := lg) (k := k) (fun h => h3 h.1))
          clear h3 eW hZ h1 HCs hab t1 t2 hok2
          generalize (g k).t = xt at *
          generalize (g k).n = xn at *
          generalize (g k).m = xm at *
          generalize (g (k + 1)).t = yt at *
          go_wp2_with (go_at_call 27; refine (Rsolid_any _ _).mono ?_; rw [p3]; rintro e w' ⟨rfl, rfl⟩)
          go_roundw
          case rel => exact ⟨k + 1, ng, m, hi, lo, by omega, by go_num, by rw [hs.out], by rw [hs.out]; exact hS, hhi, hlo, HM.out.alloc⟩
          case measure => simp [intOf]; omega
      · skip
        have hkz1 : decide ((k : Int) + 1 < (n : Int)) = false := decide_eq_false (by omega)
        have eW : mnW g n fr to lg k = (min ((g k).t + lg + 1) to) - max (g k).t fr := by unfold mnW; rw [if_neg h1]; omega
        have e8 : IntKind.i64.wrap ((min ((g k).t + lg + 1) to) - max (g k).t fr) = (min ((g k).t + lg + 1) to) - max (g k).t fr := by rw [IntKind.wrap_i64]; omega
        obtain ⟨Z, hZ⟩ : ∃ Z, (min ((g k).t + lg + 1) to) - max (g k).t fr = Z := ⟨_, rfl⟩
        rw [hZ] at eW
        have e9 : IntKind.i64.wrap ((min ((g k).t + lg + 1) to) - max (g k).t fr) = Z := by rw [e8, hZ]
        clear e8
        have f1 : IntKind.i64.wrap ((g k).t + lg) = (g k).t + lg := by rw [IntKind.wrap_i64]; omega
        have f2 : IntKind.i64.wrap ((g k).t + lg + 1) = (g k).t + lg + 1 := by rw [IntKind.wrap_i64]; omega
        by_cases h3 : 3 ≤ (g k).m
        · have p3 : decide (3 ≤ (g k).m) = true := decide_eq_true h3
          by_cases hw : 0 < Z
          · obtain ⟨K, rfl⟩ : ∃ K : Nat, Z = (K : Int) := ⟨Z.toNat, by omega⟩
            have pw : decide ((0 : Int) < (K : Int)) = true := decide_eq_true hw
            have pw' : decide (0 < K) = true := decide_eq_true (by omega)
            have pw2 : 0 < K := by omega
            have hy := mnL_yes (n := n) (fr := fr) (to := to) (lg := lg) h3 (by rw [eW]; omega)
            have eK : (mnW g n fr to lg k).toNat = K := by rw [eW]; rfl
            rw [eK] at hy
            have n1 : sumT (mnL g n fr to lg (k + 1)) = sumT (mnL g n fr to lg k) + K := by rw [hy, sumT_app]
            have n2 : sumS (mnL g n fr to lg (k + 1)) = sumS (mnL g n fr to lg k) + (g k).n * K := by rw [hy, sumS_app]
            have hP := fun W => product_any (g k).n K (by omega) (by omega) W
            have hml : (g k).n.natAbs * K ≤ 1125899906842624 * 1073741824 := Nat.mul_le_mul (by omega) (by omega)
            have hmm : m ≤ 1125899906842624 * 1073741824 := Nat.le_trans hab (Nat.mul_le_mul_left _ t1)
            have hwl := wdM_le ng m (decide ((g k).n < 0)) ((g k).n.natAbs * K)
            have hA := fun W => add_any ng (decide ((g k).n < 0)) m ((g k).n.natAbs * K) (by omega) (by omega) (by omega) W
            have hv := wd_add ng m (decide ((g k).n < 0)) ((g k).n.natAbs * K)
            rw [wd_prod, hS.out, ← n2] at hv
            have HV := Lib.hid hv
            rw [n1] at t2
            have N1 := Lib.hid n1
            unfold wvV at hA
            rw [← hhi.out, ← hlo.out] at hA
            generalize wdN ng m (decide ((g k).n < 0)) ((g k).n.natAbs * K) = ng2 at *
            generalize wdM ng m (decide ((g k).n < 0)) ((g k).n.natAbs * K) = m2 at *
            obtain ⟨hi2, hh2⟩ : ∃ h, h = ((m2 / 18446744073709551616 : Nat) : Int) := ⟨_, rfl⟩
            obtain ⟨lo2, hl2⟩ : ∃ h, h = ((m2 % 18446744073709551616 : Nat) : Int) := ⟨_, rfl⟩
            rw [← hh2, ← hl2] at hA
            have HH2 := Lib.hid hh2
            have HL2 := Lib.hid hl2
            unfold wvV at hP
            obtain ⟨V1, hV1⟩ : ∃ V1, V1 = Value.agg #[.bool (decide ((g k).n < 0)), .int .u64 (((g k).n.natAbs * K / 18446744073709551616 : Nat) : Int), .int .u64 (((g k).n.natAbs * K % 18446744073709551616 : Nat) : Int)] := ⟨_, rfl⟩
            rw [← hV1] at hP hA
            have HP := Lib.hid hP
            have HA := Lib.hid hA
            have g9 : IntKind.i64.wrap ((sumT (mnL g n fr to lg k) : Int) + (K : Int)) = ((sumT (mnL g n fr to lg k) + K : Nat) : Int) := by rw [IntKind.wrap_i64]; omega
            clear hP hA hv n1 n2 hy eK eW h3 hw h1 HCs hZ hml hmm hwl hh2 hl2 hV1 hab hS hhi hlo t1 t2
            generalize sumT (mnL g n fr to lg k) = s1 at *
            generalize (g k).t = xt at *
            generalize (g k).n = xn at *
            generalize (g k).m = xm at *
            go_wp2_with (go_at_call 27; refine (Rsolid_any _ _).mono ?_; rw [p3]; rintro e w' ⟨rfl, rfl⟩)
            first | (with_reducible refine region_gx_tail 6 (by kernel_rfl) (by kernel_rfl) ?_) | (with_reducible refine region_w_tail 6 (by kernel_rfl) (by kernel_rfl) ?_)
            simp only [List.take_succ_cons, List.take_zero, List.drop_succ_cons, List.drop_zero]
            repeat (any_goals (first | (refine quiet_fr rfl _ rfl _ rfl ?_ ?_ ?_ ?_; rotate_left; (focus (rintro _ ⟨x, rfl⟩; (focus (repeat (first | (with_reducible assumption) | (with_reducible exact At.new _ _) | (with_reducible refine At.row ?_) | ((with_reducible refine At.row_other ?_ ?_); rotate_left; (focus (simp <;> omega))) | (with_reducible refine At.app ?_) | (with_reducible refine At.tick ?_) | (with_reducible refine At.gx ?_) | ((with_reducible refine At.new' ?_); focus (simp; done)) | (with_reducible refine At.alloc ?_) | (with_reducible refine At.drew ?_) | (with_reducible exact Is.new _ _ _) | (with_reducible refine Is.row ?_) | ((with_reducible refine Is.row_other ?_ ?_); rotate_left; (focus (simp <;> omega))) | (with_reducible refine Is.gx ?_) | ((with_reducible refine Is.new' ?_); focus (simp; done)) | (with_reducible refine Is.alloc ?_) | (with_reducible refine Is.drew ?_)))))); (focus (with_reducible (first | exact hl | exact hl1 | exact hl2 | exact hl3 | exact hl4 | exact zeroF_len)))) | go_big_quiet_step ((first | (go_at_call 29; with_reducible exact calls_gx (HP.out _)) | (go_at_call 28; with_reducible exact calls_gx (HA.out _)))) | quiet_step ((first | (go_at_call 29; with_reducible exact calls_gx (HP.out _)) | (go_at_call 28; with_reducible exact calls_gx (HA.out _))))))
            refine wpQuiet_nil ?_
            rintro _ ⟨x, rfl⟩
            go_wp2
            go_roundw
            case rel => exact ⟨k + 1, ng2, m2, hi2, lo2, by omega, by go_num, by rw [N1.out, Int.natCast_add], HV.out, HH2.out, HL2.out, by have hm := HM.out; first | exact hm.alloc.put.gx | exact hm.put.alloc.gx | exact hm.put.gx⟩
            case measure => simp [intOf]; omega
          · have pw : decide ((0 : Int) < Z) = false := decide_eq_false hw
            have hs := Lib.hid (mnL_no (g := g) (n := n) (fr := fr) (to := to) (lg := lg) (k := k) (by rw [eW]; omega))
            clear h3 hw eW hZ h1 HCs hab t1 t2
            generalize (g k).t = xt at *
            generalize (g k).n = xn at *
            generalize (g k).m = xm at *
            go_wp2_with (go_at_call 27; refine (Rsolid_any _ _).mono ?_; rw [p3]; rintro e w' ⟨rfl, rfl⟩)
            go_roundw
            case rel => exact ⟨k + 1, ng, m, hi, lo, by omega, by go_num, by rw [hs.out], by rw [hs.out]; exact hS, hhi, hlo, HM.out.alloc⟩
            case measure => simp [intOf]; omega
        · have p3 : decide (3 ≤ (g k).m) = false := decide_eq_false h3
          have hs := Lib.hid (mnL_no (g := g) (n := n) (fr := fr) (to := to) (lg := lg) (k := k) (fun h => h3 h.1))
          clear h3 eW hZ h1 HCs hab t1 t2
          generalize (g k).t = xt at *
          generalize (g k).n = xn at *
          generalize (g k).m = xm at *
          go_wp2_with (go_at_call 27; refine (Rsolid_any _ _).mono ?_; rw [p3]; rintro e w' ⟨rfl, rfl⟩)
          go_roundw
          case rel => exact ⟨k + 1, ng, m, hi, lo, by omega, by go_num, by rw [hs.out], by rw [hs.out]; exact hS, hhi, hlo, HM.out.alloc⟩
          case measure => simp [intOf]; omega
    · obtain rfl : k = n := by omega
      have c0 : wr.cell? ⟨w.heap.size + 1, 0, none⟩ = some (.int .i64 0) := by rw [cell_of_row wr _ _ _ _ _ hM.rat]; rfl
      have c1 : wr.cell? ⟨w.heap.size + 1, 1, none⟩ = some (.int .i64 0) := by rw [cell_of_row wr _ _ _ _ _ hM.rat]; rfl
      have z0 : wr.frozen? ⟨w.heap.size + 1, 0, none⟩ = false := hM.rat.frz
      have z1 : wr.frozen? ⟨w.heap.size + 1, 1, none⟩ = false := hM.rat.frz
      have l1 : w.heap.size + 1 < wr.heap.size := hM.rat.lt
      have HXG := Lib.hid hM.grew
      rw [← hT.out]
      clear hM hL2 hL
      rcases Nat.eq_zero_or_pos T with h0 | h0
      · obtain ⟨rfl, rfl, rfl, rfl⟩ := E0.out h0
        subst h0
        clear E0 E1 E2 H3 hT
        go_wp2
        exact bodyPost_ret (v := .tuple #[ratV 0 0, .int .i64 0, .int .i64 13]) (by simp [results, Try.results12, go_sem, c0, c1]) rfl ⟨rfl, by have hx := HXG.out; exact (by repeat (first | (with_reducible exact Gx.refl _) | (with_reducible assumption) | (with_reducible refine Gx.gx ?_) | (with_reducible refine Gx.alloc ?_) | (with_reducible refine Gx.drew ?_) | (with_reducible refine Gx.drewN ?_) | (with_reducible refine Gx.setRow ?_ (by first | omega | (simp; done) | (simp <;> omega))) | (with_reducible refine Gx.setCell ?_ (by first | omega | (simp; done) | (simp <;> omega)))))⟩
      · have q1 : ¬ (T : Int) = 0 := by omega
        have q2 : ((T : Int) == 0) = false := by rw [beq_eq_false_iff_ne]; omega
        have h4 := H3.out h0 ng m hS.out
        unfold wvV at h4
        rw [← hhi.out, ← hlo.out] at h4
        have H4 := Lib.hid h4
        clear h4
        cases ok
        · obtain ⟨rfl, rfl, rfl, rfl⟩ := E2.out h0 rfl
          clear E0 E1 E2 H3 hT h0
          go_wp2_with (go_at_call 30; refine (H4.out _).mono ?_; rintro e w' ⟨rfl, y, rfl⟩)
          exact bodyPost_ret (v := .tuple #[ratV 0 0, .int .i64 0, .int .i64 3]) (by simp [results, Try.results12, go_sem, cell_keep_alloc (cell_keep_gx (two_cells' c0 c1).1), cell_keep_alloc (cell_keep_gx (two_cells' c0 c1).2)]) rfl ⟨rfl, by have hx := HXG.out; exact (by repeat (first | (with_reducible exact Gx.refl _) | (with_reducible assumption) | (with_reducible refine Gx.gx ?_) | (with_reducible refine Gx.alloc ?_) | (with_reducible refine Gx.drew ?_) | (with_reducible refine Gx.drewN ?_) | (with_reducible refine Gx.setRow ?_ (by first | omega | (simp; done) | (simp <;> omega))) | (with_reducible refine Gx.setCell ?_ (by first | omega | (simp; done) | (simp <;> omega)))))⟩
        · obtain ⟨rfl, rfl, rfl, rfl⟩ := E1.out h0 rfl
          clear E0 E1 E2 H3 hT h0
          go_wp2_with (go_at_call 30; refine (H4.out _).mono ?_; rintro e w' ⟨rfl, y, rfl⟩)
          exact bodyPost_ret (v := .tuple #[ratV P Q, .int .i64 T, .int .i64 0]) (by simp [results, Try.results12, go_sem, cell_keep_alloc (cell_keep_gx (two_cells' c0 c1).1), cell_keep_alloc (cell_keep_gx (two_cells' c0 c1).2)]) rfl ⟨rfl, by have hx := HXG.out; exact (by repeat (first | (with_reducible exact Gx.refl _) | (with_reducible assumption) | (with_reducible refine Gx.gx ?_) | (with_reducible refine Gx.alloc ?_) | (with_reducible refine Gx.drew ?_) | (with_reducible refine Gx.drewN ?_) | (with_reducible refine Gx.setRow ?_ (by first | omega | (simp; done) | (simp <;> omega))) | (with_reducible refine Gx.setCell ?_ (by first | omega | (simp; done) | (simp <;> omega)))))⟩
end Go.Proofs.Ytlnbadjjgbecgaa
