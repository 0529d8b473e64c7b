/-
  FrameDistanceIsAMetric: the walk. The plain part: the ones of an exclusive or make a metric.
-/
import Derived.Test.YtemgjiajpgepiaaDoorFramed
namespace Go.Proofs.YtemgjiajpgepiaaDoor
open Go.RowKit

theorem pop_xor_self_zero : ∀ f a b : Nat, a < 2 ^ f → b < 2 ^ f → (pop f (a ^^^ b) = 0 ↔ a = b)
  | 0, a, b, ha, hb => by simp at ha hb; subst ha hb; simp [pop]
  | f + 1, a, b, ha, hb => by
    simp only [pop]
    have e1 : (a ^^^ b) / 2 = a / 2 ^^^ b / 2 := Nat.xor_div_two_pow (n := 1)
    have e2 : (a ^^^ b) % 2 = a % 2 ^^^ b % 2 := Nat.xor_mod_two_pow (n := 1)
    have ih := pop_xor_self_zero f (a / 2) (b / 2) (by rw [Nat.pow_succ] at ha; omega) (by rw [Nat.pow_succ] at hb; omega)
    rw [e1, e2]
    have h2 : (a % 2 ^^^ b % 2 = 0 ↔ a % 2 = b % 2) ∧ a % 2 ^^^ b % 2 < 2 := by
      have ha2 : a % 2 = 0 ∨ a % 2 = 1 := by omega
      have hb2 : b % 2 = 0 ∨ b % 2 = 1 := by omega
      rcases ha2 with h | h <;> rcases hb2 with h' | h' <;> rw [h, h'] <;> decide
    constructor
    · intro h
      have := ih.1 (by omega)
      have := h2.1.1 (by omega)
      omega
    · rintro rfl
      have := ih.2 rfl
      have := h2.1.2 rfl
      omega
theorem pop_xor_le : ∀ f a b : Nat, pop f (a ^^^ b) ≤ pop f a + pop f b
  | 0, _, _ => Nat.le_refl _
  | f + 1, a, b => by
    simp only [pop]
    have e1 : (a ^^^ b) / 2 = a / 2 ^^^ b / 2 := Nat.xor_div_two_pow (n := 1)
    have e2 : (a ^^^ b) % 2 = a % 2 ^^^ b % 2 := Nat.xor_mod_two_pow (n := 1)
    have ih := pop_xor_le f (a / 2) (b / 2)
    rw [e1, e2]
    have h2 : a % 2 ^^^ b % 2 ≤ a % 2 + b % 2 := by
      have ha2 : a % 2 = 0 ∨ a % 2 = 1 := by omega
      have hb2 : b % 2 = 0 ∨ b % 2 = 1 := by omega
      rcases ha2 with h | h <;> rcases hb2 with h' | h' <;> rw [h, h'] <;> decide
    omega
def dx (F G : List Int) (k : Nat) : Int := onesI (xorI (gw F k) (gw G k))
theorem dx_bd (F G : List Int) (k : Nat) : 0 ≤ dx F G k ∧ dx F G k ≤ 16 := onesI_bd _
theorem dx_comm (F G : List Int) (k : Nat) : dx F G k = dx G F k := by unfold dx xorI; rw [Nat.xor_comm]
theorem dx_zero {F G : List Int} (hF : Fr F) (hG : Fr G) (k : Nat) : dx F G k = 0 ↔ gw F k = gw G k := by
  unfold dx onesI xorI ones
  have h1 := hF.bd k
  have h2 := hG.bd k
  rw [Int.toNat_natCast]
  have := pop_xor_self_zero 16 (gw F k).toNat (gw G k).toNat (by omega) (by omega)
  omega
theorem dx_tri (F G K : List Int) (k : Nat) : dx F G k ≤ dx F K k + dx K G k := by
  unfold dx onesI xorI ones
  simp only [Int.toNat_natCast]
  have e : (gw F k).toNat ^^^ (gw G k).toNat = ((gw F k).toNat ^^^ (gw K k).toNat) ^^^ ((gw K k).toNat ^^^ (gw G k).toNat) := by
    rw [Nat.xor_assoc, ← Nat.xor_assoc (gw K k).toNat, Nat.xor_self, Nat.zero_xor]
  rw [e]
  have := pop_xor_le 16 ((gw F k).toNat ^^^ (gw K k).toNat) ((gw K k).toNat ^^^ (gw G k).toNat)
  omega
/-- The distance of the first k words. -/
def dTo (F G : List Int) : Nat → Int
  | 0 => 0
  | k + 1 => dTo F G k + dx F G k
theorem dTo_bd (F G : List Int) : ∀ k : Nat, 0 ≤ dTo F G k ∧ dTo F G k ≤ 16 * k
  | 0 => by simp [dTo]
  | k + 1 => by have := dTo_bd F G k; have := dx_bd F G k; simp only [dTo]; omega
theorem dTo_comm (F G : List Int) : ∀ k, dTo F G k = dTo G F k
  | 0 => rfl
  | k + 1 => by simp only [dTo]; rw [dTo_comm F G k, dx_comm]
theorem dTo_zero {F G : List Int} (hF : Fr F) (hG : Fr G) : ∀ k, dTo F G k = 0 ↔ ∀ j, j < k → gw F j = gw G j
  | 0 => by simp [dTo]
  | k + 1 => by
    have ih := dTo_zero hF hG k
    have h1 := dTo_bd F G k
    have h2 := dx_bd F G k
    have h3 := dx_zero hF hG k
    simp only [dTo]
    constructor
    · intro h j hj
      rcases Nat.lt_or_ge j k with hjk | hjk
      · exact ih.1 (by omega) j hjk
      · obtain rfl : j = k := by omega
        exact h3.1 (by omega)
    · intro h
      have := ih.2 fun j hj => h j (by omega)
      have := h3.2 (h k (by omega))
      omega
theorem dTo_tri (F G K : List Int) : ∀ k, dTo F G k ≤ dTo F K k + dTo K G k
  | 0 => by simp [dTo]
  | k + 1 => by have := dTo_tri F G K k; have := dx_tri F G K k; simp only [dTo]; omega
def distI (F G : List Int) : Int := dTo F G 64
theorem distI_comm (F G : List Int) : distI F G = distI G F := dTo_comm F G 64
theorem distI_tri (F G K : List Int) : distI F G ≤ distI F K + distI K G := dTo_tri F G K 64
theorem distI_bd (F G : List Int) : 0 ≤ distI F G ∧ distI F G ≤ 1024 := by have := dTo_bd F G 64; unfold distI; omega
theorem distI_eq {F G : List Int} (hF : Fr F) (hG : Fr G) : (distI F G == 0) = eqF F G := by
  rw [Bool.eq_iff_iff, beq_iff_eq, eqF_iff hF.len hG.len]
  unfold distI
  rw [dTo_zero hF hG 64]
  constructor
  · intro h; exact ext_gw (by rw [hF.len, hG.len]) fun k hk => h k (by rw [hF.len] at hk; exact hk)
  · rintro rfl j _; rfl
theorem distI_end (F G : List Int) : dTo F G 64 = distI F G := rfl
attribute [irreducible] dx dTo distI

set_option maxHeartbeats 600000 in
set_option maxRecDepth 100000 in
theorem Distance_any (F G : List Int) (hF : Fr F) (hG : Fr G) (w : World) :
    Calls Tryd.prog 42 #[.agg (fc F), .agg (fc G)] w fun e w' => e = .returned (.int .i64 (distI F G)) ∧ ∃ x, w' = gx w x := by
  have hl := hF.len
  have hl1 := hG.len
  go_enter Tryd.func42, Tryd.ntmps42
  go_wp2
  go_loopw [5, 7] (fun s i wr => ∃ (k : Nat) (x : Ext), k ≤ 64 ∧ i = .int .i64 k ∧ s = .int .i64 (dTo F G k) ∧ wr = gx ((w.alloc (.cells (fc F) 32)).alloc (.cells (fc G) 32)) x) (fun _ i _ => 64 - (intOf i).toNat)
  case atStart => exact ⟨0, _, Nat.zero_le _, rfl, by rw [dTo], (gx_none _).symm⟩
  case round =>
    obtain ⟨k, y, hk, rfl, rfl, rfl⟩ := hrel
    have hb := dTo_bd F G k
    have b0 := hb.1
    have b1 : dTo F G k ≤ 1024 := by omega
    clear hb
    by_cases hlt : k < 64
    · have f0 := (hF.bd k).1
      have f1 := (hF.bd k).2
      have g0 := (hG.bd k).1
      have g1 := (hG.bd k).2
      have hx : bits .xor .u16 (gw F k) (gw G k) = xorI (gw F k) (gw G k) := bits_xor .u16 16 (by decide) wraps_u16 _ _ f0 (by omega) g0 (by omega)
      have q := xorI_bd 16 (gw F k) (gw G k) (by omega) (by omega)
      have q0 := q.1
      have q1 : xorI (gw F k) (gw G k) ≤ 65535 := by have := q.2; omega
      clear q
      have o := onesI_bd (xorI (gw F k) (gw G k))
      have o0 := o.1
      have o1 := o.2
      clear o
      have s1 : IntKind.i64.wrap (dTo F G k + onesI (xorI (gw F k) (gw G k))) = dTo F G k + onesI (xorI (gw F k) (gw G k)) := IntWalk.i64_in _ (by omega)
      go_wp2
      first | (with_reducible refine region_gxx (by kernel_rfl) (by kernel_rfl) ?_) | (with_reducible refine region_gx (by kernel_rfl) (by kernel_rfl) ?_)
      repeat (any_goals (first | (refine quiet_fr rfl _ rfl _ rfl ?_ ?_ ?_ ?_; rotate_left; (focus (rintro _ ⟨x, rfl⟩; (focus (repeat (first | (with_reducible exact At.new _ _) | (with_reducible refine At.row ?_) | (with_reducible refine At.gx ?_) | ((with_reducible refine At.new' ?_); focus (simp; done)) | (with_reducible refine At.alloc ?_) | (with_reducible refine At.drew ?_) | (with_reducible exact Is.new _ _ _) | (with_reducible refine Is.row ?_) | (with_reducible refine Is.gx ?_) | ((with_reducible refine Is.new' ?_); focus (simp; done)) | (with_reducible refine Is.alloc ?_) | (with_reducible refine Is.drew ?_)))))); (focus (with_reducible (first | exact hl | exact hl1 | exact hl2 | exact hl3 | exact hl4 | exact zeroF_len)))) | go_big_quiet_step ((first | (go_at_call 102; exact calls_gx (ones_any _ q0 q1 _)))) | quiet_step ((first | (go_at_call 102; exact calls_gx (ones_any _ q0 q1 _))))))
      refine wpQuiet_nil ?_
      rintro _ ⟨x, rfl⟩
      go_wp2
      go_roundw
      case rel => exact ⟨k + 1, _, by omega, by go_num, by rw [dTo, dx], rfl⟩
      case measure => simp [intOf]; omega
    · obtain rfl : k = 64 := by omega
      rw [distI_end]
      go_wp2
      go_ret
      exact ⟨rfl, (by repeat (first | (with_reducible exact Gx.refl _) | (with_reducible refine Gx.gx ?_) | (with_reducible refine Gx.alloc ?_) | (with_reducible refine Gx.drew ?_) | (with_reducible refine Gx.drewN ?_) | (with_reducible refine Gx.setRow ?_ (by simp)) | (with_reducible refine Gx.setCell ?_ (by simp))))⟩

set_option maxHeartbeats 1000000 in
set_option maxRecDepth 100000 in
theorem RDistance_any (F G : List Int) (hF : Fr F) (hG : Fr G) (w : World) :
    Calls Tryd.prog 43 #[.agg (fc F), .agg (fc G)] w fun e w' => e = .returned (.int .i64 (distI F G)) ∧ ∃ x, w' = gx w x := by
  have hl := hF.len
  have hl1 := hG.len
  go_enter Tryd.func43, Tryd.ntmps43
  go_wp2
  go_loopw [5, 8] (fun s i wr => ∃ (k : Nat) (x : Ext), k ≤ 64 ∧ i = .int .i64 k ∧ s = .int .i64 (dTo F G k) ∧ wr = gx ((w.alloc (.cells (fc F) 32)).alloc (.cells (fc G) 32)) x) (fun _ i _ => 64 - (intOf i).toNat)
  case atStart => exact ⟨0, _, Nat.zero_le _, rfl, by rw [dTo], (gx_none _).symm⟩
  case round =>
    obtain ⟨k, y, hk, rfl, rfl, rfl⟩ := hrel
    have hb := dTo_bd F G k
    have b0 := hb.1
    have b1 : dTo F G k ≤ 1024 := by omega
    clear hb
    by_cases hlt : k < 64
    · have f0 := (hF.bd k).1
      have f1 := (hF.bd k).2
      have g0 := (hG.bd k).1
      have g1 := (hG.bd k).2
      have hx : bits .xor .u16 (gw F k) (gw G k) = xorI (gw F k) (gw G k) := bits_xor .u16 16 (by decide) wraps_u16 _ _ f0 (by omega) g0 (by omega)
      have q := xorI_bd 16 (gw F k) (gw G k) (by omega) (by omega)
      have q0 := q.1
      have q1 : xorI (gw F k) (gw G k) ≤ 65535 := by have := q.2; omega
      clear q
      have hd : dTo F G (k + 1) = dTo F G k + onesI (xorI (gw F k) (gw G k)) := by rw [dTo, dx]
      have Hd := Lib.hid hd
      clear hd
      go_wp2
      first | (with_reducible refine region_gxx (by kernel_rfl) (by kernel_rfl) ?_) | (with_reducible refine region_gx (by kernel_rfl) (by kernel_rfl) ?_)
      repeat (any_goals (first | (refine quiet_fr rfl _ rfl _ rfl ?_ ?_ ?_ ?_; rotate_left; (focus (rintro _ ⟨x, rfl⟩; (focus (repeat (first | (with_reducible exact At.new _ _) | (with_reducible refine At.row ?_) | (with_reducible refine At.gx ?_) | ((with_reducible refine At.new' ?_); focus (simp; done)) | (with_reducible refine At.alloc ?_) | (with_reducible refine At.drew ?_) | (with_reducible exact Is.new _ _ _) | (with_reducible refine Is.row ?_) | (with_reducible refine Is.gx ?_) | ((with_reducible refine Is.new' ?_); focus (simp; done)) | (with_reducible refine Is.alloc ?_) | (with_reducible refine Is.drew ?_)))))); (focus (with_reducible (first | exact hl | exact hl1 | exact hl2 | exact hl3 | exact hl4 | exact zeroF_len)))) | go_big_quiet_step ((first | fail)) | quiet_step ((first | fail))))
      refine wpQuiet_nil ?_
      rintro _ ⟨x, rfl⟩
      generalize xorI (gw F k) (gw G k) = X at *
      go_wp2
      go_loop [5, 7] (fun s x => ∃ m q : Int, 0 ≤ m ∧ m ≤ X ∧ x = .int .u16 m ∧ s = .int .i64 q ∧ 0 ≤ q ∧ q + onesI m = dTo F G k + onesI X) (fun _ x => (intOf x).toNat)
      case atStart => exact ⟨X, dTo F G k, q0, Int.le_refl _, rfl, rfl, b0, rfl⟩
      case round =>
        obtain ⟨m, q, m0, m1, rfl, rfl, hq0, hq⟩ := hrel
        have om := onesI_bd m
        have oX := onesI_bd X
        by_cases hm : 0 < m
        · have hs := onesI_step m m0 (by omega)
          have HS : Hid (q + m % 2 + onesI (m / 2) = dTo F G k + onesI X) := by show _ = _; omega
          have hq1 : q ≤ 2000 := by omega
          clear hq hs om oX
          have hw2 : IntKind.u16.wrap (m.tdiv 2) = m / 2 := by rw [Int.tdiv_eq_ediv_of_nonneg m0]; exact IntWalk.u16_in _ (by omega)
          go_wp2
          go_round
          case rel => exact ⟨m / 2, q + m % 2, by omega, by omega, rfl, rfl, by omega, HS.out⟩
          case measure => simp [intOf]; omega
        · obtain rfl : m = 0 := by omega
          have e : q = dTo F G k + onesI X := by rw [onesI_zero] at hq; omega
          clear hq om oX
          subst e
          go_wp2
          go_roundw
          case rel => exact ⟨k + 1, _, by omega, by go_num, by rw [Hd.out], rfl⟩
          case measure => simp [intOf]; omega
    · obtain rfl : k = 64 := by omega
      rw [distI_end]
      go_wp2
      go_ret
      exact ⟨rfl, (by repeat (first | (with_reducible exact Gx.refl _) | (with_reducible refine Gx.gx ?_) | (with_reducible refine Gx.alloc ?_) | (with_reducible refine Gx.drew ?_) | (with_reducible refine Gx.drewN ?_) | (with_reducible refine Gx.setRow ?_ (by simp)) | (with_reducible refine Gx.setCell ?_ (by simp))))⟩

set_option maxHeartbeats 1000000 in
set_option maxRecDepth 100000 in
theorem distanceLaw (F G K : List Int) (hF : Fr F) (hG : Fr G) (hK : Fr K) (w : World) (hT : Tab w) :
    Calls Tryd.prog 9 #[.agg (fc F), .agg (fc G), .agg (fc K)] w fun e w' => e = .returned (.bool true) ∧ ∃ x, w' = gx w x := by
  have hl := hF.len
  have hl1 := hG.len
  have hl2 := hK.len
  have d1 := distI_bd F G
  have d10 := d1.1
  have d11 := d1.2
  have d2 := distI_bd F K
  have d20 := d2.1
  have d21 := d2.2
  have d3 := distI_bd K G
  have d30 := d3.1
  have d31 := d3.2
  clear d1 d2 d3
  have c := distI_comm G F
  have e := distI_eq hF hG
  have t := distI_tri F G K
  go_enter Tryd.func9, Tryd.ntmps9
  go_wp2_with (first | (refine load_fr rfl _ rfl _ rfl ?_ ?_ ?_ ?_; rotate_left; (focus (repeat (first | (with_reducible exact At.new _ _) | (with_reducible refine At.row ?_) | (with_reducible refine At.gx ?_) | ((with_reducible refine At.new' ?_); focus (simp; done)) | (with_reducible refine At.alloc ?_) | (with_reducible refine At.drew ?_) | (with_reducible exact Is.new _ _ _) | (with_reducible refine Is.row ?_) | (with_reducible refine Is.gx ?_) | ((with_reducible refine Is.new' ?_); focus (simp; done)) | (with_reducible refine Is.alloc ?_) | (with_reducible refine Is.drew ?_)))); (focus (with_reducible (first | exact hl | exact hl1 | exact hl2 | exact hl3 | exact hl4 | exact zeroF_len)))) | (go_at_call 42; refine (Distance_any _ _ ‹_› ‹_› _).mono ?_; rintro e w' ⟨rfl, z, rfl⟩))
  first | (with_reducible refine region_gxx (by kernel_rfl) (by kernel_rfl) ?_) | (with_reducible refine region_gx (by kernel_rfl) (by kernel_rfl) ?_)
  repeat (any_goals (first | (refine quiet_fr rfl _ rfl _ rfl ?_ ?_ ?_ ?_; rotate_left; (focus (rintro _ ⟨x, rfl⟩; (focus (repeat (first | (with_reducible exact At.new _ _) | (with_reducible refine At.row ?_) | (with_reducible refine At.gx ?_) | ((with_reducible refine At.new' ?_); focus (simp; done)) | (with_reducible refine At.alloc ?_) | (with_reducible refine At.drew ?_) | (with_reducible exact Is.new _ _ _) | (with_reducible refine Is.row ?_) | (with_reducible refine Is.gx ?_) | ((with_reducible refine Is.new' ?_); focus (simp; done)) | (with_reducible refine Is.alloc ?_) | (with_reducible refine Is.drew ?_)))))); (focus (with_reducible (first | exact hl | exact hl1 | exact hl2 | exact hl3 | exact hl4 | exact zeroF_len)))) | go_big_quiet_step ((first | (go_at_call 42; refine calls_gx (Distance_any _ _ ‹_› ‹_› _)) | (go_at_call 43; refine calls_gx (RDistance_any _ _ ‹_› ‹_› _)) | (go_at_call 22; refine calls_gx (framed_any _ ?_); (focus (repeat (first | (with_reducible exact hT) | (with_reducible refine Tab.gx ?_ _) | (with_reducible refine Tab.alloc ?_ _))))))) | quiet_step ((first | (go_at_call 42; refine calls_gx (Distance_any _ _ ‹_› ‹_› _)) | (go_at_call 43; refine calls_gx (RDistance_any _ _ ‹_› ‹_› _)) | (go_at_call 22; refine calls_gx (framed_any _ ?_); (focus (repeat (first | (with_reducible exact hT) | (with_reducible refine Tab.gx ?_ _) | (with_reducible refine Tab.alloc ?_ _)))))))))
  refine wpQuiet_nil ?_
  rintro _ ⟨x, rfl⟩
  go_wp2
  go_ret
  exact ⟨rfl, (by repeat (first | (with_reducible exact Gx.refl _) | (with_reducible refine Gx.gx ?_) | (with_reducible refine Gx.alloc ?_) | (with_reducible refine Gx.drew ?_) | (with_reducible refine Gx.drewN ?_) | (with_reducible refine Gx.setRow ?_ (by simp)) | (with_reducible refine Gx.setCell ?_ (by simp))))⟩
end Go.Proofs.YtemgjiajpgepiaaDoor
