/-
  Nearest, the reference's: contract.
-/
import Derived.Test.YtkfolbhdjppgaaaSCand
import Derived.Test.YtkfolbhdjppgaaaSLawNear
namespace Go.Proofs.Ytkfolbhdjppgaaa
open Go.RowKit
-- AT2

/-- Which values the reference has seen: the candidates of the first k lines, and the first j of the line k. -/
def SeenC (g : Nat → Ln) (lo hi x : Int) (k j : Nat) (w : Int) : Prop := (∃ i, i < k ∧ w ∈ cands (g i) lo hi x) ∨ (∃ i, i < j ∧ w = gw (cands (g k) lo hi x) i)
theorem SeenC.next {g : Nat → Ln} {lo hi x : Int} {k j : Nat} {cj : Int} (hc : gw (cands (g k) lo hi x) j = cj) : ∀ w, SeenC g lo hi x k (j + 1) w → SeenC g lo hi x k j w ∨ w = cj := by
  rintro w (h | ⟨i, hi', rfl⟩)
  · exact .inl (.inl h)
  · rcases Nat.lt_or_ge i j with h1 | h1
    · exact .inl (.inr ⟨i, h1, rfl⟩)
    · obtain rfl : i = j := by omega
      exact .inr hc
theorem SeenC.line {g : Nat → Ln} {lo hi x : Int} {k N : Nat} (hN : (cands (g k) lo hi x).length = N) : ∀ w, SeenC g lo hi x (k + 1) 0 w → SeenC g lo hi x k N w := by
  rintro w (⟨i, hi', h⟩ | ⟨i, hi', _⟩)
  · rcases Nat.lt_or_ge i k with h1 | h1
    · exact .inl ⟨i, h1, h⟩
    · obtain rfl : i = k := by omega
      obtain ⟨j, hj, rfl⟩ := List.getElem_of_mem h
      exact .inr ⟨j, by omega, by unfold gw; simp [List.getD, List.getElem?_eq_getElem hj]⟩
  · omega
theorem SeenC.all {g : Nat → Ln} {lo hi x : Int} {n : Nat} : ∀ w, (∃ k, k < n ∧ w ∈ cands (g k) lo hi x) → SeenC g lo hi x n 0 w := fun _ h => .inl h
attribute [irreducible] SeenC
theorem apply_is {den : Int} {g : Nat → Ln} {n c : Nat} {A : Option Addr} {lo hi v m : Int} {is : Bool} (w : World) (hL : LnAt w g n A) (h0 : 0 < n) (hn : n ≤ 50) (hG : Good g n) (h : App g n lo hi v m is) :
    Calls Try.prog 25 #[calV den A n c lo hi, .int .i64 v] w fun e w' => e = .returned (.tuple #[.int .i64 m, .bool is]) ∧ ∃ x, w' = gx w x :=
  (Rapply_any den g n c A lo hi v w hL h0 hn hG).mono fun e w' ⟨m', is', he, h', hx⟩ => by
    obtain ⟨rfl, rfl⟩ := h'.eq hG h; exact ⟨he, hx⟩

set_option maxHeartbeats 8000000 in
set_option maxRecDepth 100000 in
theorem RNearest_any (den : Int) (g : Nat → Ln) (n c : Nat) (A : Option Addr) (lo hi xn : Int) (w : World) (hL : LnAt w g n A) :
    Calls Try.prog 13 #[calV den A n c lo hi, .int .i64 xn] w (NearPost den g n lo hi xn w) := by
  have hlw : LnAt (w.alloc (.cells #[.int .i64 den, .slice A n c, .int .i64 lo, .int .i64 hi] 24)) g n A := by rw [alloc_is]; exact hL.gx
  have HC := Lib.hid (fun W h => RCheckCal_any den g n c A lo hi W h)
  by_cases h : calE den g n lo hi = 0
  · obtain ⟨g1, g2, g3, g4, g5, g6⟩ := calE_ok h
    rw [h] at HC
    have HE := Lib.hid h
    clear h
    by_cases hx : isN xn
    · have b1 : inB (-1125899906842624) 1125899906842624 xn = true := by rw [← nB_in]; exact nB_iff.2 hx
      obtain ⟨b, o, rfl, hbw, HL⟩ := hL.get g1
      clear hL
      go_enter Try.func13, Try.ntmps13
      go_wp2_with first
        | (go_at_call 11; refine (HC.out _ hlw).mono ?_; rintro e w' ⟨rfl, z, rfl⟩)
        | (go_at_call 29; refine (outside_any _ _ _ _).mono ?_; rw [b1]; rintro e w' ⟨rfl, rfl⟩)
      go_loopw [7, 8, 9, 10] (fun v d s i wr => ∃ (k : Nat) (v' d' : Int) (s' : Bool), k ≤ n ∧ i = .int .i64 k ∧ v = .int .i64 v' ∧ d = .int .i64 d' ∧ s = .bool s' ∧ RBest g n (SeenC g lo hi xn k 0) lo hi xn v' d' s' ∧ ∃ x, wr = gx (w.alloc (.cells #[.int .i64 den, .slice (some ⟨b, o, none⟩) n c, .int .i64 lo, .int .i64 hi] 24)) x) (fun _ _ _ i _ => n - (intOf i).toNat)
      case atStart => exact ⟨0, 0, 0, false, Nat.zero_le _, rfl, rfl, rfl, rfl, RBest.none (by unfold SeenC; rintro w (⟨i, h, _⟩ | ⟨i, h, _⟩) <;> omega), _, rfl⟩
      case round =>
        obtain ⟨k, v, d, s, hk, rfl, rfl, rfl, rfl, hb, y, rfl⟩ := hrel
        have HB := Lib.hid hb
        clear hb
        by_cases hlt : k < n
        · obtain ⟨c1, c2, c3, c4⟩ := HL.out k hlt
          have hok := g3.ok k hlt
          have HCand := fun W => cand_any den (some ⟨b, o, none⟩) n c lo hi xn (g k) W hok g4 g5 hx
          go_wp2
          first | (with_reducible refine region_gx_tail 7 (by kernel_rfl) (by kernel_rfl) ?_) | (with_reducible refine region_w_tail 7 (by kernel_rfl) (by kernel_rfl) ?_)
          simp only [List.take_succ_cons, List.take_zero, List.drop_succ_cons, List.drop_zero]
          repeat (any_goals (first | (refine quiet_fr rfl _ rfl _ rfl ?_ ?_ ?_ ?_; rotate_left; (focus (rintro _ ⟨x, rfl⟩; (focus (repeat (first | (with_reducible assumption) | (with_reducible exact At.new _ _) | (with_reducible refine At.row ?_) | (with_reducible refine At.app ?_) | (with_reducible refine At.tick ?_) | (with_reducible refine At.gx ?_) | ((with_reducible refine At.new' ?_); focus (simp; done)) | (with_reducible refine At.alloc ?_) | (with_reducible refine At.drew ?_) | (with_reducible exact Is.new _ _ _) | (with_reducible refine Is.row ?_) | (with_reducible refine Is.gx ?_) | ((with_reducible refine Is.new' ?_); focus (simp; done)) | (with_reducible refine Is.alloc ?_) | (with_reducible refine Is.drew ?_)))))); (focus (with_reducible (first | exact hl | exact hl1 | exact hl2 | exact hl3 | exact hl4 | exact zeroF_len)))) | go_big_quiet_step ((first | fail)) | quiet_step ((first | fail))))
          refine wpQuiet_nil ?_
          rintro _ ⟨x, rfl⟩
          go_wp2_with (go_at_call 34; go_loud (refine (HCand _).mono ?_; rintro e W1 ⟨vS, z2, N, rfl, hw, hN14, hO⟩; rw [← hw] at hO; obtain ⟨A2, cc2, rfl, hn2, hcm2, hnil, hsh⟩ := hO.is; have HSh := Lib.hid hsh; have hlen := hO.len; rw [iC_len, Nat.mul_one] at hlen; have Hlen := Lib.hid hlen; have hW1 : ∃ x, W1 = gx (w.alloc (.cells #[.int .i64 den, .slice (some ⟨b, o, none⟩) n c, .int .i64 lo, .int .i64 hi] 24)) x := (by rw [hw]; exact (by repeat (first | (with_reducible exact Gx.refl _) | (with_reducible assumption) | (with_reducible refine Gx.gx ?_) | (with_reducible refine Gx.alloc ?_) | (with_reducible refine Gx.drew ?_) | (with_reducible refine Gx.drewN ?_) | (with_reducible refine Gx.setRow ?_ (by simp)) | (with_reducible refine Gx.setCell ?_ (by simp))))); have HW1 := Lib.hid hW1; clear hO hsh hlen hW1 hw))
          have hz : w.heap.size < W1.heap.size := by obtain ⟨x, hx⟩ := HW1.out; rw [hx]; simp; omega
          have t0 : W1.cell? ⟨w.heap.size, 0, none⟩ = some (.int .i64 den) := by obtain ⟨x, hx⟩ := HW1.out; rw [hx]; simp [go_sem]
          have t1 : W1.cell? ⟨w.heap.size, 1, none⟩ = some (.slice (some ⟨b, o, none⟩) n c) := by obtain ⟨x, hx⟩ := HW1.out; rw [hx]; simp [go_sem]
          have t2 : W1.cell? ⟨w.heap.size, 2, none⟩ = some (.int .i64 lo) := by obtain ⟨x, hx⟩ := HW1.out; rw [hx]; simp [go_sem]
          have t3 : W1.cell? ⟨w.heap.size, 3, none⟩ = some (.int .i64 hi) := by obtain ⟨x, hx⟩ := HW1.out; rw [hx]; simp [go_sem]
          have hL1 : LnAt W1 g n (some ⟨b, o, none⟩) := by obtain ⟨x, hx⟩ := HW1.out; rw [hx]; exact hlw.gx
          go_loopw [7, 8, 9, 12] (fun v d s i wr => ∃ (j : Nat) (v' d' : Int) (s' : Bool), j ≤ N ∧ i = .int .i64 j ∧ v = .int .i64 v' ∧ d = .int .i64 d' ∧ s = .bool s' ∧ RBest g n (SeenC g lo hi xn k j) lo hi xn v' d' s' ∧ ∃ x, wr = gx W1 x) (fun _ _ _ i _ => N - (intOf i).toNat)
          case atStart => exact ⟨0, _, _, _, Nat.zero_le _, rfl, rfl, rfl, rfl, HB.out, Gx.refl _⟩
          case round =>
            clear HB
            obtain ⟨j, v, d, s, hj, rfl, rfl, rfl, rfl, hb, y2, rfl⟩ := hrel
            have HB := Lib.hid hb
            clear hb
            by_cases hltj : j < N
            · have hjl : j < (cands (g k) lo hi xn).length := by rw [Hlen.out]; exact hltj
              obtain ⟨gb, ob, rfl, hcS⟩ : ∃ gb ob, A2 = some ⟨gb, ob, none⟩ ∧ ∀ i u, (iC (cands (g k) lo hi xn))[i]? = some u → W1.cell? ⟨gb, ob + i, none⟩ = some u := by
                have := HSh.out; unfold Shows at this; exact this (by rw [iC_len]; omega)
              have hcj := hcS j _ (iC_get hjl)
              have hgb : gb < W1.heap.size := World.block_lt_of_cell? W1 _ hcj
              obtain ⟨cj, hcj0⟩ : ∃ cj, gw (cands (g k) lo hi xn) j = cj := ⟨_, rfl⟩
              rw [hcj0] at hcj
              have HL0 := Lib.hid hcj0
              clear hcS hcj0 hjl
              obtain ⟨m, is, hA⟩ := App.ex g n lo hi cj
              have HA := fun W (hW : LnAt W g n (some ⟨b, o, none⟩)) => apply_is (den := den) (c := c) W hW g1 g2 g3 hA
              cases is with
              | false =>
                have hno : ∀ m', ¬ Can g n lo hi cj m' := by
                  rcases hA with ⟨h, _⟩ | ⟨_, _, h⟩
                  · cases h
                  · exact h
                have HR := Lib.hid (RBest.same (S' := SeenC g lo hi xn k (j + 1)) (HB.out.skip hno) (SeenC.next HL0.out))
                clear hA hno
                go_wp2
                first | (with_reducible refine region_gxx (by kernel_rfl) (by kernel_rfl) ?_) | (with_reducible refine region_gx (by kernel_rfl) (by kernel_rfl) ?_)
                repeat (any_goals (first | (refine quiet_fr rfl _ rfl _ rfl ?_ ?_ ?_ ?_; rotate_left; (focus (rintro _ ⟨x, rfl⟩; (focus (repeat (first | (with_reducible assumption) | (with_reducible exact At.new _ _) | (with_reducible refine At.row ?_) | (with_reducible refine At.app ?_) | (with_reducible refine At.tick ?_) | (with_reducible refine At.gx ?_) | ((with_reducible refine At.new' ?_); focus (simp; done)) | (with_reducible refine At.alloc ?_) | (with_reducible refine At.drew ?_) | (with_reducible exact Is.new _ _ _) | (with_reducible refine Is.row ?_) | (with_reducible refine Is.gx ?_) | ((with_reducible refine Is.new' ?_); focus (simp; done)) | (with_reducible refine Is.alloc ?_) | (with_reducible refine Is.drew ?_)))))); (focus (with_reducible (first | exact hl | exact hl1 | exact hl2 | exact hl3 | exact hl4 | exact zeroF_len)))) | go_big_quiet_step ((first | (go_at_call 25; exact calls_gx (HA _ hL1.gx)))) | quiet_step ((first | (go_at_call 25; exact calls_gx (HA _ hL1.gx))))))
                refine wpQuiet_nil ?_
                rintro _ ⟨x, rfl⟩
                go_wp2
                go_roundw
                case rel => exact ⟨j + 1, _, _, _, by omega, by go_num, rfl, rfl, rfl, HR.out, (by repeat (first | (with_reducible exact Gx.refl _) | (with_reducible assumption) | (with_reducible refine Gx.gx ?_) | (with_reducible refine Gx.alloc ?_) | (with_reducible refine Gx.drew ?_) | (with_reducible refine Gx.drewN ?_) | (with_reducible refine Gx.setRow ?_ (by simp)) | (with_reducible refine Gx.setCell ?_ (by simp))))⟩
                case measure => simp [intOf]; omega
              | true =>
                have hcan : Can g n lo hi cj m := by
                  rcases hA with ⟨_, h⟩ | ⟨h, _⟩
                  · exact h
                  · cases h
                have hmb : lo ≤ m ∧ m ≤ hi := by obtain ⟨i, _, _, _, _, h1, h2⟩ := hcan; exact ⟨h1, h2⟩
                have HCan := Lib.hid hcan
                clear hA hcan
                have hx' := hx
                have g4' := g4
                have g5' := g5
                unfold isN at hx' g4' g5'
                have HP := fun W => apart_any m xn W (by omega) (by omega)
                have HT : Hid ((s = true → sz (m - xn) < d ∨ sz (m - xn) = d ∧ cj < v) → RBest g n (SeenC g lo hi xn k (j + 1)) lo hi xn cj (sz (m - xn)) true) := fun h => RBest.same (HB.out.take g3 HCan.out h) (SeenC.next HL0.out)
                have HST : Hid (s = true → (d < sz (m - xn) ∨ sz (m - xn) = d ∧ v ≤ cj) → RBest g n (SeenC g lo hi xn k (j + 1)) lo hi xn v d true) := fun hs h => by
                  have := HB.out; rw [hs] at this; exact RBest.same (this.stay g3 HCan.out h) (SeenC.next HL0.out)
                clear HB HCan
                generalize sz (m - xn) = dd at *
                cases s with
                | false =>
                  have HR := Lib.hid (HT.out (fun h => by cases h))
                  go_wp2
                  first | (with_reducible refine region_gxx (by kernel_rfl) (by kernel_rfl) ?_) | (with_reducible refine region_gx (by kernel_rfl) (by kernel_rfl) ?_)
                  repeat (any_goals (first | (refine quiet_fr rfl _ rfl _ rfl ?_ ?_ ?_ ?_; rotate_left; (focus (rintro _ ⟨x, rfl⟩; (focus (repeat (first | (with_reducible assumption) | (with_reducible exact At.new _ _) | (with_reducible refine At.row ?_) | (with_reducible refine At.app ?_) | (with_reducible refine At.tick ?_) | (with_reducible refine At.gx ?_) | ((with_reducible refine At.new' ?_); focus (simp; done)) | (with_reducible refine At.alloc ?_) | (with_reducible refine At.drew ?_) | (with_reducible exact Is.new _ _ _) | (with_reducible refine Is.row ?_) | (with_reducible refine Is.gx ?_) | ((with_reducible refine Is.new' ?_); focus (simp; done)) | (with_reducible refine Is.alloc ?_) | (with_reducible refine Is.drew ?_)))))); (focus (with_reducible (first | exact hl | exact hl1 | exact hl2 | exact hl3 | exact hl4 | exact zeroF_len)))) | go_big_quiet_step ((first | (go_at_call 25; exact calls_gx (HA _ hL1.gx)))) | quiet_step ((first | (go_at_call 25; exact calls_gx (HA _ hL1.gx))))))
                  refine wpQuiet_nil ?_
                  rintro _ ⟨x, rfl⟩
                  go_wp2_with (go_at_call 35; refine (HP _).mono ?_; rintro e w' ⟨rfl, rfl⟩)
                  go_roundw
                  case rel => exact ⟨j + 1, _, _, _, by omega, by go_num, rfl, rfl, rfl, HR.out, (by repeat (first | (with_reducible exact Gx.refl _) | (with_reducible assumption) | (with_reducible refine Gx.gx ?_) | (with_reducible refine Gx.alloc ?_) | (with_reducible refine Gx.drew ?_) | (with_reducible refine Gx.drewN ?_) | (with_reducible refine Gx.setRow ?_ (by simp)) | (with_reducible refine Gx.setCell ?_ (by simp))))⟩
                  case measure => simp [intOf]; omega
                | true =>
                  rcases (by omega : dd < d ∨ (dd = d ∧ cj < v) ∨ (dd = d ∧ v ≤ cj) ∨ d < dd) with q | q | q | q
                  · have HR := Lib.hid (HT.out (fun _ => .inl q))
                    have e1 : decide (dd < d) = true := decide_eq_true q
                    clear q
                    go_wp2
                    first | (with_reducible refine region_gxx (by kernel_rfl) (by kernel_rfl) ?_) | (with_reducible refine region_gx (by kernel_rfl) (by kernel_rfl) ?_)
                    repeat (any_goals (first | (refine quiet_fr rfl _ rfl _ rfl ?_ ?_ ?_ ?_; rotate_left; (focus (rintro _ ⟨x, rfl⟩; (focus (repeat (first | (with_reducible assumption) | (with_reducible exact At.new _ _) | (with_reducible refine At.row ?_) | (with_reducible refine At.app ?_) | (with_reducible refine At.tick ?_) | (with_reducible refine At.gx ?_) | ((with_reducible refine At.new' ?_); focus (simp; done)) | (with_reducible refine At.alloc ?_) | (with_reducible refine At.drew ?_) | (with_reducible exact Is.new _ _ _) | (with_reducible refine Is.row ?_) | (with_reducible refine Is.gx ?_) | ((with_reducible refine Is.new' ?_); focus (simp; done)) | (with_reducible refine Is.alloc ?_) | (with_reducible refine Is.drew ?_)))))); (focus (with_reducible (first | exact hl | exact hl1 | exact hl2 | exact hl3 | exact hl4 | exact zeroF_len)))) | go_big_quiet_step ((first | (go_at_call 25; exact calls_gx (HA _ hL1.gx)))) | quiet_step ((first | (go_at_call 25; exact calls_gx (HA _ hL1.gx))))))
                    refine wpQuiet_nil ?_
                    rintro _ ⟨x, rfl⟩
                    go_wp2_with (go_at_call 35; refine (HP _).mono ?_; rintro e w' ⟨rfl, rfl⟩)
                    go_roundw
                    case rel => exact ⟨j + 1, _, _, _, by omega, by go_num, rfl, rfl, rfl, HR.out, (by repeat (first | (with_reducible exact Gx.refl _) | (with_reducible assumption) | (with_reducible refine Gx.gx ?_) | (with_reducible refine Gx.alloc ?_) | (with_reducible refine Gx.drew ?_) | (with_reducible refine Gx.drewN ?_) | (with_reducible refine Gx.setRow ?_ (by simp)) | (with_reducible refine Gx.setCell ?_ (by simp))))⟩
                    case measure => simp [intOf]; omega
                  · have HR := Lib.hid (HT.out (fun _ => .inr q))
                    have e1 : decide (dd < d) = false := decide_eq_false (by omega)
                    have e2 : (dd == d) = true := by simpa using q.1
                    have e3 : decide (cj < v) = true := decide_eq_true q.2
                    clear q
                    go_wp2
                    first | (with_reducible refine region_gxx (by kernel_rfl) (by kernel_rfl) ?_) | (with_reducible refine region_gx (by kernel_rfl) (by kernel_rfl) ?_)
                    repeat (any_goals (first | (refine quiet_fr rfl _ rfl _ rfl ?_ ?_ ?_ ?_; rotate_left; (focus (rintro _ ⟨x, rfl⟩; (focus (repeat (first | (with_reducible assumption) | (with_reducible exact At.new _ _) | (with_reducible refine At.row ?_) | (with_reducible refine At.app ?_) | (with_reducible refine At.tick ?_) | (with_reducible refine At.gx ?_) | ((with_reducible refine At.new' ?_); focus (simp; done)) | (with_reducible refine At.alloc ?_) | (with_reducible refine At.drew ?_) | (with_reducible exact Is.new _ _ _) | (with_reducible refine Is.row ?_) | (with_reducible refine Is.gx ?_) | ((with_reducible refine Is.new' ?_); focus (simp; done)) | (with_reducible refine Is.alloc ?_) | (with_reducible refine Is.drew ?_)))))); (focus (with_reducible (first | exact hl | exact hl1 | exact hl2 | exact hl3 | exact hl4 | exact zeroF_len)))) | go_big_quiet_step ((first | (go_at_call 25; exact calls_gx (HA _ hL1.gx)))) | quiet_step ((first | (go_at_call 25; exact calls_gx (HA _ hL1.gx))))))
                    refine wpQuiet_nil ?_
                    rintro _ ⟨x, rfl⟩
                    go_wp2_with (go_at_call 35; refine (HP _).mono ?_; rintro e w' ⟨rfl, rfl⟩)
                    go_roundw
                    case rel => exact ⟨j + 1, _, _, _, by omega, by go_num, rfl, rfl, rfl, HR.out, (by repeat (first | (with_reducible exact Gx.refl _) | (with_reducible assumption) | (with_reducible refine Gx.gx ?_) | (with_reducible refine Gx.alloc ?_) | (with_reducible refine Gx.drew ?_) | (with_reducible refine Gx.drewN ?_) | (with_reducible refine Gx.setRow ?_ (by simp)) | (with_reducible refine Gx.setCell ?_ (by simp))))⟩
                    case measure => simp [intOf]; omega
                  · have HR := Lib.hid (HST.out rfl (.inr q))
                    have e1 : decide (dd < d) = false := decide_eq_false (by omega)
                    have e2 : (dd == d) = true := by simpa using q.1
                    have e3 : decide (cj < v) = false := decide_eq_false (by omega)
                    clear q
                    go_wp2
                    first | (with_reducible refine region_gxx (by kernel_rfl) (by kernel_rfl) ?_) | (with_reducible refine region_gx (by kernel_rfl) (by kernel_rfl) ?_)
                    repeat (any_goals (first | (refine quiet_fr rfl _ rfl _ rfl ?_ ?_ ?_ ?_; rotate_left; (focus (rintro _ ⟨x, rfl⟩; (focus (repeat (first | (with_reducible assumption) | (with_reducible exact At.new _ _) | (with_reducible refine At.row ?_) | (with_reducible refine At.app ?_) | (with_reducible refine At.tick ?_) | (with_reducible refine At.gx ?_) | ((with_reducible refine At.new' ?_); focus (simp; done)) | (with_reducible refine At.alloc ?_) | (with_reducible refine At.drew ?_) | (with_reducible exact Is.new _ _ _) | (with_reducible refine Is.row ?_) | (with_reducible refine Is.gx ?_) | ((with_reducible refine Is.new' ?_); focus (simp; done)) | (with_reducible refine Is.alloc ?_) | (with_reducible refine Is.drew ?_)))))); (focus (with_reducible (first | exact hl | exact hl1 | exact hl2 | exact hl3 | exact hl4 | exact zeroF_len)))) | go_big_quiet_step ((first | (go_at_call 25; exact calls_gx (HA _ hL1.gx)))) | quiet_step ((first | (go_at_call 25; exact calls_gx (HA _ hL1.gx))))))
                    refine wpQuiet_nil ?_
                    rintro _ ⟨x, rfl⟩
                    go_wp2_with (go_at_call 35; refine (HP _).mono ?_; rintro e w' ⟨rfl, rfl⟩)
                    go_roundw
                    case rel => exact ⟨j + 1, _, _, _, by omega, by go_num, rfl, rfl, rfl, HR.out, (by repeat (first | (with_reducible exact Gx.refl _) | (with_reducible assumption) | (with_reducible refine Gx.gx ?_) | (with_reducible refine Gx.alloc ?_) | (with_reducible refine Gx.drew ?_) | (with_reducible refine Gx.drewN ?_) | (with_reducible refine Gx.setRow ?_ (by simp)) | (with_reducible refine Gx.setCell ?_ (by simp))))⟩
                    case measure => simp [intOf]; omega
                  · have HR := Lib.hid (HST.out rfl (.inl q))
                    have e1 : decide (dd < d) = false := decide_eq_false (by omega)
                    have e2 : (dd == d) = false := by simpa using (by omega : dd ≠ d)
                    clear q
                    go_wp2
                    first | (with_reducible refine region_gxx (by kernel_rfl) (by kernel_rfl) ?_) | (with_reducible refine region_gx (by kernel_rfl) (by kernel_rfl) ?_)
                    repeat (any_goals (first | (refine quiet_fr rfl _ rfl _ rfl ?_ ?_ ?_ ?_; rotate_left; (focus (rintro _ ⟨x, rfl⟩; (focus (repeat (first | (with_reducible assumption) | (with_reducible exact At.new _ _) | (with_reducible refine At.row ?_) | (with_reducible refine At.app ?_) | (with_reducible refine At.tick ?_) | (with_reducible refine At.gx ?_) | ((with_reducible refine At.new' ?_); focus (simp; done)) | (with_reducible refine At.alloc ?_) | (with_reducible refine At.drew ?_) | (with_reducible exact Is.new _ _ _) | (with_reducible refine Is.row ?_) | (with_reducible refine Is.gx ?_) | ((with_reducible refine Is.new' ?_); focus (simp; done)) | (with_reducible refine Is.alloc ?_) | (with_reducible refine Is.drew ?_)))))); (focus (with_reducible (first | exact hl | exact hl1 | exact hl2 | exact hl3 | exact hl4 | exact zeroF_len)))) | go_big_quiet_step ((first | (go_at_call 25; exact calls_gx (HA _ hL1.gx)))) | quiet_step ((first | (go_at_call 25; exact calls_gx (HA _ hL1.gx))))))
                    refine wpQuiet_nil ?_
                    rintro _ ⟨x, rfl⟩
                    go_wp2_with (go_at_call 35; refine (HP _).mono ?_; rintro e w' ⟨rfl, rfl⟩)
                    go_roundw
                    case rel => exact ⟨j + 1, _, _, _, by omega, by go_num, rfl, rfl, rfl, HR.out, (by repeat (first | (with_reducible exact Gx.refl _) | (with_reducible assumption) | (with_reducible refine Gx.gx ?_) | (with_reducible refine Gx.alloc ?_) | (with_reducible refine Gx.drew ?_) | (with_reducible refine Gx.drewN ?_) | (with_reducible refine Gx.setRow ?_ (by simp)) | (with_reducible refine Gx.setCell ?_ (by simp))))⟩
                    case measure => simp [intOf]; omega
            · obtain rfl : j = N := by omega
              have HR := Lib.hid (RBest.same (S' := SeenC g lo hi xn (k + 1) 0) HB.out (SeenC.line Hlen.out))
              go_wp2
              go_roundw
              case rel => exact ⟨k + 1, _, _, _, by omega, by go_num, rfl, rfl, rfl, HR.out, Gx.trans ⟨_, rfl⟩ HW1.out⟩
              case measure => simp [intOf]; omega
        · obtain rfl : k = n := by omega
          cases s with
          | false =>
            have HR := Lib.hid (HB.out.same SeenC.all).done
            go_wp2
            go_ret2
            have hv : v = 0 := by
              rcases HB.out with ⟨h, _⟩ | ⟨_, h, _⟩
              · cases h
              · exact h
            exact ⟨_, _, rfl, .inr (.inr ⟨HE.out, hx, by have := HR.out; rw [hv] at this; exact this⟩), (by repeat (first | (with_reducible exact Gx.refl _) | (with_reducible assumption) | (with_reducible refine Gx.gx ?_) | (with_reducible refine Gx.alloc ?_) | (with_reducible refine Gx.drew ?_) | (with_reducible refine Gx.drewN ?_) | (with_reducible refine Gx.setRow ?_ (by simp)) | (with_reducible refine Gx.setCell ?_ (by simp))))⟩
          | true =>
            have HR := Lib.hid (HB.out.same SeenC.all).done
            go_wp2
            go_ret2
            exact ⟨_, _, rfl, .inr (.inr ⟨HE.out, hx, HR.out⟩), (by repeat (first | (with_reducible exact Gx.refl _) | (with_reducible assumption) | (with_reducible refine Gx.gx ?_) | (with_reducible refine Gx.alloc ?_) | (with_reducible refine Gx.drew ?_) | (with_reducible refine Gx.drewN ?_) | (with_reducible refine Gx.setRow ?_ (by simp)) | (with_reducible refine Gx.setCell ?_ (by simp))))⟩
    · have b1 : inB (-1125899906842624) 1125899906842624 xn = false := by rw [← nB_in]; exact nB_no.2 hx
      have HX := Lib.hid hx
      clear hx
      go_enter Try.func13, Try.ntmps13
      go_wp2_with first
        | (go_at_call 11; refine (HC.out _ hlw).mono ?_; rintro e w' ⟨rfl, z, rfl⟩)
        | (go_at_call 29; refine (outside_any _ _ _ _).mono ?_; rw [b1]; rintro e w' ⟨rfl, rfl⟩)
      go_ret2
      exact ⟨_, _, rfl, .inr (.inl ⟨HE.out, HX.out, rfl, rfl⟩), (by repeat (first | (with_reducible exact Gx.refl _) | (with_reducible assumption) | (with_reducible refine Gx.gx ?_) | (with_reducible refine Gx.alloc ?_) | (with_reducible refine Gx.drew ?_) | (with_reducible refine Gx.drewN ?_) | (with_reducible refine Gx.setRow ?_ (by simp)) | (with_reducible refine Gx.setCell ?_ (by simp))))⟩
  · have HE := Lib.hid h
    have n1 := ne0 h
    have n2 := ne0' h
    clear h
    go_enter Try.func13, Try.ntmps13
    go_wp2_with (go_at_call 11; refine (HC.out _ hlw).mono ?_; rintro e w' ⟨rfl, z, rfl⟩)
    go_ret2
    exact ⟨_, _, rfl, .inl ⟨HE.out, rfl, rfl⟩, (by repeat (first | (with_reducible exact Gx.refl _) | (with_reducible assumption) | (with_reducible refine Gx.gx ?_) | (with_reducible refine Gx.alloc ?_) | (with_reducible refine Gx.drew ?_) | (with_reducible refine Gx.drewN ?_) | (with_reducible refine Gx.setRow ?_ (by simp)) | (with_reducible refine Gx.setCell ?_ (by simp))))⟩
end Go.Proofs.Ytkfolbhdjppgaaa
