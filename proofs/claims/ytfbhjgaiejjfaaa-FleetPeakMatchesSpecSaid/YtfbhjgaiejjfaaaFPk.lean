/-
  Peaks of both sides.
-/
import Derived.Test.YtfbhjgaiejjfaaaFPkP
import Derived.Test.YtfbhjgaiejjfaaaFFl
namespace Go.Proofs.Ytfbhjgaiejjfaaa
open Go.RowKit
-- AT2
-- AT3

/-- The peak of the track named b: V, if B. -/
@[irreducible] def IsPk (J : Nat → TkR) (n : Nat) (b : ByteArray) (fr to V : Int) (B : Bool) : Prop := (∃ K, K < n ∧ (J K).s = b ∧ IsMx (J K).f (J K).n fr to V B) ∨ ((∀ i, i < n → (J i).s ≠ b) ∧ V = 0 ∧ B = false)
theorem IsPk.out {J : Nat → TkR} {n : Nat} {b : ByteArray} {fr to V : Int} {B : Bool} (h : IsPk J n b fr to V B) : (∃ K, K < n ∧ (J K).s = b ∧ IsMx (J K).f (J K).n fr to V B) ∨ ((∀ i, i < n → (J i).s ≠ b) ∧ V = 0 ∧ B = false) := by unfold IsPk at h; exact h
set_option maxHeartbeats 4000000 in
set_option maxRecDepth 100000 in
theorem peakOf_none (tl rt : ByteArray) (dy fr to : Int) (A : Option Addr) (n c : Nat) (b : ByteArray) (w : World) (HT : Hid (∀ W, (∃ x, W = gx w x) → Calls Try.prog 21 #[.slice A n c, .string b] W fun e W' => e = .returned (.int .i64 (-1)) ∧ ∃ x, W' = gx W x)) :
    Calls Try.prog 10 #[flV tl rt dy fr to A n c, .string b] w fun e w' => e = .returned (.tuple #[.agg #[.int .i64 0, .int .i64 0, .int .i64 0], .bool false]) ∧ ∃ x, w' = gx w x := by
  go_enter Try.func10, Try.ntmps10
  go_wp2_with (first | go_skip | (go_at_call 21; refine (HT.out _ (by repeat (first | (with_reducible exact Gx.refl _) | (with_reducible assumption) | (with_reducible refine Gx.gx ?_) | (with_reducible refine Gx.alloc ?_) | (with_reducible refine Gx.drew ?_) | (with_reducible refine Gx.drewN ?_) | (with_reducible refine Gx.setRow ?_ (by first | omega | (simp; done) | (simp <;> omega))) | (with_reducible refine Gx.setCell ?_ (by first | omega | (simp; done) | (simp <;> omega)))))).mono ?_; rintro e w' ⟨rfl, x1, rfl⟩))
  exact bodyPost_ret (v := .tuple #[.agg #[.int .i64 0, .int .i64 0, .int .i64 0], .bool false]) (by simp [results, Try.results10, go_sem]) rfl ⟨rfl, (by repeat (first | (with_reducible exact Gx.refl _) | (with_reducible assumption) | (with_reducible refine Gx.gx ?_) | (with_reducible refine Gx.alloc ?_) | (with_reducible refine Gx.drew ?_) | (with_reducible refine Gx.drewN ?_) | (with_reducible refine Gx.setRow ?_ (by first | omega | (simp; done) | (simp <;> omega))) | (with_reducible refine Gx.setCell ?_ (by first | omega | (simp; done) | (simp <;> omega)))))⟩
set_option maxHeartbeats 4000000 in
set_option maxRecDepth 100000 in
theorem peakOf_at (tl rt : ByteArray) (dy fr to : Int) (b0 o0 n c K : Nat) (hK : K < n) (b : ByteArray) (den : Int) (A1 : Option Addr) (n1 m1 : Nat) (F1 : Nat → Sm) (m : Nat) (a t1 a2 lo V E : Int) (B : Bool) (w : World)
    (HT : Hid (∀ W, (∃ x, W = gx w x) → Calls Try.prog 21 #[.slice (some ⟨b0, o0, none⟩) n c, .string b] W fun e W' => e = .returned (.int .i64 (K : Int)) ∧ ∃ x, W' = gx W x))
    (hn : n ≤ 50) (c1 : w.cell? ⟨b0, o0 + K * 4 + 1, none⟩ = some (.int .i64 den)) (c2 : w.cell? ⟨b0, o0 + K * 4 + 2, none⟩ = some (.slice A1 n1 m1))
    (e1 : IntKind.i64.wrap (64 * fr) = a) (e2 : IntKind.i64.wrap (to + 1) = t1) (e3 : IntKind.i64.wrap (64 * t1) = a2)
    (HP : Hid (∀ W, (∃ x, W = gx w x) → Calls Try.prog 22 #[serV den A1 n1 m1, .int .i64 a, .int .i64 a2] W (SerPost W den F1 m 0)))
    (HG : Hid (∀ W A2 c2, SmAt W F1 m A2 → Calls Try.prog 23 #[serV den A2 m c2] W fun e W' => e = .returned (.tuple #[.int .i64 lo, .int .i64 V, .int .i64 E]) ∧ ∃ x, W' = gx W x))
    (hB : (E == 0) = B) (hB2 : decide (E = 0) = B) :
    Calls Try.prog 10 #[flV tl rt dy fr to (some ⟨b0, o0, none⟩) n c, .string b] w fun e w' => e = .returned (.tuple #[.agg #[.int .i64 0, .int .i64 V, .int .i64 den], .bool B]) ∧ ∃ x, w' = gx w x := by
  have hbw : b0 < w.heap.size := World.block_lt_of_cell? w _ c1
  have hKn : (K : Int) < (n : Int) := by omega
  have hK0 : decide ((K : Int) < 0) = false := decide_eq_false (by omega)
  go_enter Try.func10, Try.ntmps10
  go_wp2_with (first | go_skip | (go_at_call 21; refine (HT.out _ (by repeat (first | (with_reducible exact Gx.refl _) | (with_reducible assumption) | (with_reducible refine Gx.gx ?_) | (with_reducible refine Gx.alloc ?_) | (with_reducible refine Gx.drew ?_) | (with_reducible refine Gx.drewN ?_) | (with_reducible refine Gx.setRow ?_ (by first | omega | (simp; done) | (simp <;> omega))) | (with_reducible refine Gx.setCell ?_ (by first | omega | (simp; done) | (simp <;> omega)))))).mono ?_; rintro e w' ⟨rfl, x1, rfl⟩) | (go_at_call 22; refine (HP.out _ (by repeat (first | (with_reducible exact Gx.refl _) | (with_reducible assumption) | (with_reducible refine Gx.gx ?_) | (with_reducible refine Gx.alloc ?_) | (with_reducible refine Gx.drew ?_) | (with_reducible refine Gx.drewN ?_) | (with_reducible refine Gx.setRow ?_ (by first | omega | (simp; done) | (simp <;> omega))) | (with_reducible refine Gx.setCell ?_ (by first | omega | (simp; done) | (simp <;> omega)))))).mono ?_; rintro e W2 ⟨A2, q2, x2, rfl, rfl, hs2⟩) | (go_at_call 23; refine (HG.out _ _ _ (SmAt.alloc hs2)).mono ?_; rintro e w' ⟨rfl, x3, rfl⟩))
  exact bodyPost_ret (v := .tuple #[.agg #[.int .i64 0, .int .i64 V, .int .i64 den], .bool B]) (by simp [results, Try.results10, go_sem, hB]) rfl ⟨rfl, (by repeat (first | (with_reducible exact Gx.refl _) | (with_reducible assumption) | (with_reducible refine Gx.gx ?_) | (with_reducible refine Gx.alloc ?_) | (with_reducible refine Gx.drew ?_) | (with_reducible refine Gx.drewN ?_) | (with_reducible refine Gx.setRow ?_ (by first | omega | (simp; done) | (simp <;> omega))) | (with_reducible refine Gx.setCell ?_ (by first | omega | (simp; done) | (simp <;> omega)))))⟩
theorem IsPk.eq {J : Nat → TkR} {n : Nat} {b : ByteArray} {fr to V V' : Int} {B B' : Bool} (hd : ∀ j k, j < k → k < n → (J j).s ≠ (J k).s) (h : IsPk J n b fr to V B) (h' : IsPk J n b fr to V' B') : V = V' ∧ B = B' := by
  rcases h.out with ⟨K, hK, he, hm⟩ | ⟨hn, rfl, rfl⟩
  · rcases h'.out with ⟨K', hK', he', hm'⟩ | ⟨hn', rfl, rfl⟩
    · obtain rfl : K = K' := by
        rcases Nat.lt_trichotomy K K' with q | q | q
        · exact absurd (he.trans he'.symm) (hd K K' q hK')
        · exact q
        · exact absurd (he'.trans he.symm) (hd K' K q hK)
      exact hm.eq hm'
    · exact absurd he (hn' K hK)
  · rcases h'.out with ⟨K', hK', he', hm'⟩ | ⟨hn', rfl, rfl⟩
    · exact absurd he' (hn K' hK')
    · exact ⟨rfl, rfl⟩
theorem IsPk.zero (J : Nat → TkR) (b : ByteArray) (fr to : Int) : IsPk J 0 b fr to 0 false := by unfold IsPk; exact .inr ⟨fun i h => by omega, rfl, rfl⟩
theorem IsPk.past {J : Nat → TkR} {k : Nat} {b : ByteArray} {fr to V : Int} {B : Bool} (h : IsPk J k b fr to V B) (hne : (J k).s ≠ b) : IsPk J (k + 1) b fr to V B := by
  rcases h.out with ⟨K, hK, he, hm⟩ | ⟨hn, rfl, rfl⟩
  · unfold IsPk; exact .inl ⟨K, by omega, he, hm⟩
  · unfold IsPk
    refine .inr ⟨fun i hi => ?_, rfl, rfl⟩
    by_cases e : i = k
    · rw [e]; exact hne
    · exact hn i (by omega)
theorem IsPk.first {J : Nat → TkR} {n k : Nat} {b : ByteArray} {fr to V : Int} {B : Bool} (hd : ∀ j k, j < k → k < n → (J j).s ≠ (J k).s) (hk : k < n) (h : IsPk J k b fr to V B) (he : (J k).s = b) : V = 0 ∧ B = false := by
  rcases h.out with ⟨K, hK, he', -⟩ | ⟨-, h1, h2⟩
  · exact absurd (he'.trans he.symm) (hd K k hK hk)
  · exact ⟨h1, h2⟩
theorem IsPk.here {J : Nat → TkR} {k : Nat} {b : ByteArray} {fr to V : Int} {B : Bool} (he : (J k).s = b) (h : IsMx (J k).f (J k).n fr to V B) : IsPk J (k + 1) b fr to V B := by
  unfold IsPk; exact .inl ⟨k, by omega, he, h⟩
set_option maxHeartbeats 4000000 in
set_option maxRecDepth 100000 in
theorem Rpeak_any (tl rt : ByteArray) (dy fr to : Int) (A : Option Addr) (n c : Nat) (J : Nat → TkR) (b : ByteArray) (w : World) (hL : TksAt w J n A) (hn : n ≤ 50) (hd : ∀ j k, j < k → k < n → (J j).s ≠ (J k).s) (hs : ∀ k, k < n → (J k).n ≤ 20000) (hf : 0 ≤ fr ∧ fr ≤ to ∧ to < 4194304) (V : Int) (B : Bool) (hV : IsPk J n b fr to V B) :
    Calls Try.prog 13 #[flV tl rt dy fr to A n c, .string b] w fun e w' => ∃ d : Int, e = .returned (.tuple #[.int .i64 V, .int .i64 d, .bool B]) ∧ ∃ x, w' = gx w x := by
  obtain ⟨a1, ha1⟩ : ∃ a1, 64 * fr = a1 := ⟨_, rfl⟩
  obtain ⟨a2, ha2⟩ : ∃ a2, 64 * to = a2 := ⟨_, rfl⟩
  obtain ⟨a3, ha3⟩ : ∃ a3, a2 + 64 = a3 := ⟨_, rfl⟩
  obtain ⟨a4, ha4⟩ : ∃ a4, a3 - 1 = a4 := ⟨_, rfl⟩
  have e1 : IntKind.i64.wrap (64 * fr) = a1 := by rw [IntWalk.i64_in _ (by omega), ha1]
  have e2 : IntKind.i64.wrap (64 * to) = a2 := by rw [IntWalk.i64_in _ (by omega), ha2]
  have e3 : IntKind.i64.wrap (a2 + 64) = a3 := by rw [IntWalk.i64_in _ (by omega), ha3]
  have e4 : IntKind.i64.wrap (a3 - 1) = a4 := by rw [IntWalk.i64_in _ (by omega), ha4]
  have hw : ∀ x : Sm, inW fr to x ↔ 3 ≤ x.m ∧ a1 ≤ x.t ∧ x.t ≤ a4 := fun x => by rw [inW_iff]; omega
  have HW := Lib.hid hw
  have HD := Lib.hid hd
  have HSn := Lib.hid hs
  have HV := Lib.hid hV
  clear ha1 ha2 ha3 ha4 hf hw hd hs hV
  go_enter Try.func13, Try.ntmps13
  go_wp2
  go_loopw [7, 8, 9, 10] (fun v d s i wr => ∃ (k : Nat) (V' d' : Int) (B' : Bool), k ≤ n ∧ v = .int .i64 V' ∧ d = .int .i64 d' ∧ s = .bool B' ∧ i = .int .i64 k ∧ IsPk J k b fr to V' B' ∧ ∃ x, wr = gx (w.alloc (.cells #[.string tl, .string rt, .int .i64 dy, .int .i64 fr, .int .i64 to, .slice A n c] 24)) x) (fun _ _ _ i _ => n - (intOf i).toNat)
  case atStart => exact ⟨0, 0, 1, false, Nat.zero_le _, rfl, rfl, rfl, rfl, IsPk.zero _ _ _ _, Gx.refl _⟩
  case round =>
    obtain ⟨k, V', d', B', hk, rfl, rfl, rfl, rfl, hpk, y, rfl⟩ := hrel
    by_cases hlt : k < n
    · have HX0 := Lib.hid (IsPk.past hpk)
      have HX1 := Lib.hid (fun he => IsPk.first HD.out hlt hpk he)
      have HX2 := Lib.hid (fun (he : (J k).s = b) V B (h : IsMx (J k).f (J k).n fr to V B) => IsPk.here he h)
      have HSk := Lib.hid (HSn.out k hlt)
      obtain ⟨b0, o0, rfl, hbw, HK, HZ⟩ := hL.get (by omega)
      obtain ⟨c0, c1, c2, c3⟩ := HK.out k hlt
      have hsm := HZ.out k hlt
      have hkn : (k : Int) < (n : Int) := by omega
      have HPk : Hid (∀ V B, IsPk J (k + 1) b fr to V B → IsPk J (k + 1) b fr to V B) := Lib.hid fun _ _ h => h
      clear hpk HK HZ hL HD HSn HV
      generalize hI : J k = I at *
      obtain ⟨s, den, A1, n1, m1, lg, f⟩ := I
      dsimp only at *
      by_cases he : s = b
      · obtain ⟨rfl, rfl⟩ := HX1.out he
        have b1 := eqS he
        have b2 := eqS he.symm
        have HX3 := Lib.hid (fun V B h => HX2.out he V B h)
        have hn1 := HSk.out
        clear HX0 HX1 HX2 he HPk hI
        go_wp2
        go_loopw [7, 9, 12] (fun v s i wr => ∃ (j : Nat) (V1 : Int) (B1 : Bool), j ≤ n1 ∧ v = .int .i64 V1 ∧ s = .bool B1 ∧ i = .int .i64 j ∧ IsMx f j fr to V1 B1 ∧ ∃ x, wr = gx ((gx (w.alloc (.cells #[.string tl, .string rt, .int .i64 dy, .int .i64 fr, .int .i64 to, .slice (some ⟨b0, o0, none⟩) n c] 24)) y).alloc (.cells #[.int .i64 den, .slice A1 n1 m1] 60)) x) (fun _ _ i _ => n1 - (intOf i).toNat)
        case atStart => exact ⟨0, 0, false, Nat.zero_le _, rfl, rfl, rfl, IsMx.no fun k h => by omega, Gx.refl _⟩
        case round =>
          obtain ⟨j, V1, B1, hj, rfl, rfl, rfl, hmx, z, rfl⟩ := hrel
          by_cases hlj : j < n1
          · obtain ⟨b3, o3, rfl, hbw3, HC3⟩ := hsm.get (by omega)
            obtain ⟨d0, d1, d2⟩ := HC3.out j hlj
            have hjn : (j : Int) < (n1 : Int) := by omega
            have HXs : Hid (¬ inW fr to (f j) → IsMx f (j + 1) fr to V1 B1) := Lib.hid fun h => hmx.skip h
            have HXt : Hid (inW fr to (f j) → (B1 = false ∨ V1 < (f j).n) → IsMx f (j + 1) fr to (f j).n true) := Lib.hid fun h h2 => hmx.take h h2
            have HXy : Hid (B1 = true → (f j).n ≤ V1 → IsMx f (j + 1) fr to V1 B1) := Lib.hid fun h h2 => by subst h; exact hmx.stay h2
            have HWj := Lib.hid (HW.out (f j))
            clear hmx HC3 hsm HW
            generalize f j = q at *
            obtain ⟨t, N, m⟩ := q
            dsimp only at *
            by_cases g1 : m < 3
            · have HX := Lib.hid (HXs.out fun h => by have := HWj.out.1 h; omega)
              have k1 : decide (m < 3) = true := decide_eq_true g1
              clear HXs HXt HXy HWj g1
              go_wp2
              go_roundw
              case rel => exact ⟨j + 1, V1, B1, by omega, rfl, rfl, by go_num, HX.out, (by repeat (first | (with_reducible exact Gx.refl _) | (with_reducible assumption) | (with_reducible refine Gx.gx ?_) | (with_reducible refine Gx.alloc ?_) | (with_reducible refine Gx.drew ?_) | (with_reducible refine Gx.drewN ?_) | (with_reducible refine Gx.setRow ?_ (by first | omega | (simp; done) | (simp <;> omega))) | (with_reducible refine Gx.setCell ?_ (by first | omega | (simp; done) | (simp <;> omega)))))⟩
              case measure => simp [intOf]; omega
            by_cases g2 : t < a1
            · have HX := Lib.hid (HXs.out fun h => by have := HWj.out.1 h; omega)
              have k1 : decide (m < 3) = false := decide_eq_false g1
              have k2 : decide (t < a1) = true := decide_eq_true g2
              clear HXs HXt HXy HWj g1 g2
              go_wp2
              go_roundw
              case rel => exact ⟨j + 1, V1, B1, by omega, rfl, rfl, by go_num, HX.out, (by repeat (first | (with_reducible exact Gx.refl _) | (with_reducible assumption) | (with_reducible refine Gx.gx ?_) | (with_reducible refine Gx.alloc ?_) | (with_reducible refine Gx.drew ?_) | (with_reducible refine Gx.drewN ?_) | (with_reducible refine Gx.setRow ?_ (by first | omega | (simp; done) | (simp <;> omega))) | (with_reducible refine Gx.setCell ?_ (by first | omega | (simp; done) | (simp <;> omega)))))⟩
              case measure => simp [intOf]; omega
            by_cases g3 : a4 < t
            · have HX := Lib.hid (HXs.out fun h => by have := HWj.out.1 h; omega)
              have k1 : decide (m < 3) = false := decide_eq_false g1
              have k2 : decide (t < a1) = false := decide_eq_false g2
              have k3 : decide (a4 < t) = true := decide_eq_true g3
              clear HXs HXt HXy HWj g1 g2 g3
              go_wp2
              go_roundw
              case rel => exact ⟨j + 1, V1, B1, by omega, rfl, rfl, by go_num, HX.out, (by repeat (first | (with_reducible exact Gx.refl _) | (with_reducible assumption) | (with_reducible refine Gx.gx ?_) | (with_reducible refine Gx.alloc ?_) | (with_reducible refine Gx.drew ?_) | (with_reducible refine Gx.drewN ?_) | (with_reducible refine Gx.setRow ?_ (by first | omega | (simp; done) | (simp <;> omega))) | (with_reducible refine Gx.setCell ?_ (by first | omega | (simp; done) | (simp <;> omega)))))⟩
              case measure => simp [intOf]; omega
            have hin : inW fr to ⟨t, N, m⟩ := HWj.out.2 ⟨by omega, by omega, by omega⟩
            have k1 : decide (m < 3) = false := decide_eq_false g1
            have k2 : decide (t < a1) = false := decide_eq_false g2
            have k3 : decide (a4 < t) = false := decide_eq_false g3
            clear g1 g2 g3
            cases B1 with
            | false =>
              have HX := Lib.hid (HXt.out hin (.inl rfl))
              clear HXs HXt HXy HWj hin
              go_wp2
              go_roundw
              case rel => exact ⟨j + 1, N, true, by omega, rfl, rfl, by go_num, HX.out, (by repeat (first | (with_reducible exact Gx.refl _) | (with_reducible assumption) | (with_reducible refine Gx.gx ?_) | (with_reducible refine Gx.alloc ?_) | (with_reducible refine Gx.drew ?_) | (with_reducible refine Gx.drewN ?_) | (with_reducible refine Gx.setRow ?_ (by first | omega | (simp; done) | (simp <;> omega))) | (with_reducible refine Gx.setCell ?_ (by first | omega | (simp; done) | (simp <;> omega)))))⟩
              case measure => simp [intOf]; omega
            | true =>
              by_cases g4 : V1 < N
              · have HX := Lib.hid (HXt.out hin (.inr g4))
                have k4 : decide (V1 < N) = true := decide_eq_true g4
                clear HXs HXt HXy HWj hin g4
                go_wp2
                go_roundw
                case rel => exact ⟨j + 1, N, true, by omega, rfl, rfl, by go_num, HX.out, (by repeat (first | (with_reducible exact Gx.refl _) | (with_reducible assumption) | (with_reducible refine Gx.gx ?_) | (with_reducible refine Gx.alloc ?_) | (with_reducible refine Gx.drew ?_) | (with_reducible refine Gx.drewN ?_) | (with_reducible refine Gx.setRow ?_ (by first | omega | (simp; done) | (simp <;> omega))) | (with_reducible refine Gx.setCell ?_ (by first | omega | (simp; done) | (simp <;> omega)))))⟩
                case measure => simp [intOf]; omega
              · have HX := Lib.hid (HXy.out rfl (by omega))
                have k4 : decide (V1 < N) = false := decide_eq_false g4
                clear HXs HXt HXy HWj hin g4
                go_wp2
                go_roundw
                case rel => exact ⟨j + 1, V1, true, by omega, rfl, rfl, by go_num, HX.out, (by repeat (first | (with_reducible exact Gx.refl _) | (with_reducible assumption) | (with_reducible refine Gx.gx ?_) | (with_reducible refine Gx.alloc ?_) | (with_reducible refine Gx.drew ?_) | (with_reducible refine Gx.drewN ?_) | (with_reducible refine Gx.setRow ?_ (by first | omega | (simp; done) | (simp <;> omega))) | (with_reducible refine Gx.setCell ?_ (by first | omega | (simp; done) | (simp <;> omega)))))⟩
                case measure => simp [intOf]; omega
          · obtain rfl : j = n1 := by omega
            have HX := Lib.hid (HX3.out V1 B1 hmx)
            clear hmx
            go_wp2
            go_roundw
            case rel => exact ⟨k + 1, V1, den, B1, by omega, rfl, rfl, rfl, by go_num, HX.out, (by repeat (first | (with_reducible exact Gx.refl _) | (with_reducible assumption) | (with_reducible refine Gx.gx ?_) | (with_reducible refine Gx.alloc ?_) | (with_reducible refine Gx.drew ?_) | (with_reducible refine Gx.drewN ?_) | (with_reducible refine Gx.setRow ?_ (by first | omega | (simp; done) | (simp <;> omega))) | (with_reducible refine Gx.setCell ?_ (by first | omega | (simp; done) | (simp <;> omega)))))⟩
            case measure => simp [intOf]; omega
      · have b1 := neS he
        have b2 := neS fun h => he h.symm
        have HX := Lib.hid (HX0.out he)
        clear HX0 HX1 HX2 he HPk hI
        go_wp2
        go_roundw
        case rel => exact ⟨k + 1, V', d', B', by omega, rfl, rfl, rfl, by go_num, HX.out, (by repeat (first | (with_reducible exact Gx.refl _) | (with_reducible assumption) | (with_reducible refine Gx.gx ?_) | (with_reducible refine Gx.alloc ?_) | (with_reducible refine Gx.drew ?_) | (with_reducible refine Gx.drewN ?_) | (with_reducible refine Gx.setRow ?_ (by first | omega | (simp; done) | (simp <;> omega))) | (with_reducible refine Gx.setCell ?_ (by first | omega | (simp; done) | (simp <;> omega)))))⟩
        case measure => simp [intOf]; omega
    · obtain rfl : k = n := by omega
      obtain ⟨rfl, rfl⟩ := IsPk.eq HD.out hpk HV.out
      go_wp2
      exact bodyPost_ret (v := .tuple #[.int .i64 V', .int .i64 d', .bool B']) (by simp [results, Try.results13, go_sem]) rfl ⟨d', rfl, (by repeat (first | (with_reducible exact Gx.refl _) | (with_reducible assumption) | (with_reducible refine Gx.gx ?_) | (with_reducible refine Gx.alloc ?_) | (with_reducible refine Gx.drew ?_) | (with_reducible refine Gx.drewN ?_) | (with_reducible refine Gx.setRow ?_ (by first | omega | (simp; done) | (simp <;> omega))) | (with_reducible refine Gx.setCell ?_ (by first | omega | (simp; done) | (simp <;> omega)))))⟩
end Go.Proofs.Ytfbhjgaiejjfaaa
