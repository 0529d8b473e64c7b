/-
  nearestFrom of the program: contract.
-/
import Derived.Test.YtkfolbhdjppgaaaSNear
namespace Go.Proofs.Ytkfolbhdjppgaaa
open Go.RowKit
-- AT2

set_option maxHeartbeats 4000000 in
set_option maxRecDepth 100000 in
theorem nearestFrom_in (l : Ln) (f t x q : Int) (w : World) (hok : lnOk l) (hx : isN x) (ha : l.a ≠ 0) (he : isN (l.a * l.f + l.b) ∧ isN (l.a * l.t + l.b)) (_hft : f ≤ t) (hf : l.f ≤ f) (ht : t ≤ l.t) (hq : fl (x - l.b) l.a = q) (c1 : f ≤ q) (c2 : q < t) : Calls Try.prog 31 #[lnV l.f l.t l.a l.b, .int .i64 f, .int .i64 t, .int .i64 x] w fun e w' => e = .returned (.int .i64 (nearV l f t x)) ∧ ∃ x, w' = gx w x := by
  have E := nearV_2 (f := f) (t := t) (x := x) (u := q) (v := q + 1) ha (by rw [hq, clamp_is]; omega) (by rw [hq, clamp_is]; omega)
  have qb := fl_bound (a := x - l.b) (b := l.a) (M := 2251799813685248) ha
  rw [hq] at qb
  have nc := num_in he (v := q) (by omega) (by omega)
  have nd := num_in he (v := q + 1) (by omega) (by omega)
  unfold lnOk at hok
  obtain ⟨o1, o2, o3, o4, o5, o6, o7, o8, o9⟩ := hok
  unfold isN at nc
  unfold isN at nd
  unfold isN at hx
  have qb := qb (by omega) (by omega) (by omega)
  have mc := mul_small o6 o7 (v := q) (by omega) (by omega)
  have md := mul_small o6 o7 (v := q + 1) (by omega) (by omega)
  have HE := Lib.hid E
  have a0 : (l.a == 0) = false := by simpa using ha
  have HD := fun W => floor_any (x - l.b) l.a W (by omega) (by omega) ha
  rw [hq] at HD
  have HNc := fun W => numberOf_any l.f l.t l.a l.b (q) W mc o8 o9
  have HNd := fun W => numberOf_any l.f l.t l.a l.b (q + 1) W md o8 o9
  clear E hq he
  obtain ⟨c, hc⟩ : ∃ c, c = l.a * (q) + l.b := ⟨_, rfl⟩
  rw [← hc] at nc HNc
  obtain ⟨d, hd⟩ : ∃ d, d = l.a * (q + 1) + l.b := ⟨_, rfl⟩
  rw [← hd] at nd HNd
  try rw [← hc] at HE
  try rw [← hd] at HE
  clear hc mc
  clear hd md
  have w1 : IntKind.i64.wrap (x - l.b) = x - l.b := IntWalk.i64_in _ (by omega)
  have w_c : IntKind.i64.wrap (c - x) = c - x := IntWalk.i64_in _ (by omega)
  have HSc := fun W => size_any (c - x) W (by omega) (by omega)
  have w_d : IntKind.i64.wrap (d - x) = d - x := IntWalk.i64_in _ (by omega)
  have HSd := fun W => size_any (d - x) W (by omega) (by omega)
  by_cases hlt : sz (d - x) < sz (c - x)
  · have dl : decide (sz (d - x) < sz (c - x)) = true := decide_eq_true hlt
    rw [if_pos hlt] at HE
    generalize sz (d - x) = sd at *
    generalize sz (c - x) = sc at *
    go_enter Try.func31, Try.ntmps31
    go_wp2_with (go_at_call 56; refine (HD _).mono ?_; rintro e w' ⟨rfl, rfl⟩)
    refine region_gx (by kernel_rfl) (by kernel_rfl) ?_
    repeat (any_goals (first | (refine quiet_fr rfl _ rfl _ rfl ?_ ?_ ?_ ?_; rotate_left; (focus (rintro _ ⟨x, rfl⟩; (focus (repeat (first | (with_reducible assumption) | (with_reducible exact At.new _ _) | (with_reducible refine At.row ?_) | (with_reducible refine At.app ?_) | (with_reducible refine At.tick ?_) | (with_reducible refine At.gx ?_) | ((with_reducible refine At.new' ?_); focus (simp; done)) | (with_reducible refine At.alloc ?_) | (with_reducible refine At.drew ?_) | (with_reducible exact Is.new _ _ _) | (with_reducible refine Is.row ?_) | (with_reducible refine Is.gx ?_) | ((with_reducible refine Is.new' ?_); focus (simp; done)) | (with_reducible refine Is.alloc ?_) | (with_reducible refine Is.drew ?_)))))); (focus (with_reducible (first | exact hl | exact hl1 | exact hl2 | exact hl3 | exact hl4 | exact zeroF_len)))) | go_big_quiet_step ((first | (go_at_call 33; with_reducible exact calls_gx (HNc _)) | (go_at_call 33; with_reducible exact calls_gx (HNd _)) | (go_at_call 32; with_reducible exact calls_gx_same (HSc _)) | (go_at_call 32; with_reducible exact calls_gx_same (HSd _)))) | quiet_step ((first | (go_at_call 33; with_reducible exact calls_gx (HNc _)) | (go_at_call 33; with_reducible exact calls_gx (HNd _)) | (go_at_call 32; with_reducible exact calls_gx_same (HSc _)) | (go_at_call 32; with_reducible exact calls_gx_same (HSd _))))))
    refine wpQuiet_nil ?_
    rintro _ ⟨x, rfl⟩
    go_wp2
    go_ret
    exact ⟨by rw [HE.out]; first | done | rfl, (by repeat (first | (with_reducible exact Gx.refl _) | (with_reducible assumption) | (with_reducible refine Gx.gx ?_) | (with_reducible refine Gx.alloc ?_) | (with_reducible refine Gx.drew ?_) | (with_reducible refine Gx.drewN ?_) | (with_reducible refine Gx.setRow ?_ (by simp)) | (with_reducible refine Gx.setCell ?_ (by simp))))⟩
  · have dl : decide (sz (d - x) < sz (c - x)) = false := decide_eq_false hlt
    rw [if_neg hlt] at HE
    generalize sz (d - x) = sd at *
    generalize sz (c - x) = sc at *
    go_enter Try.func31, Try.ntmps31
    go_wp2_with (go_at_call 56; refine (HD _).mono ?_; rintro e w' ⟨rfl, rfl⟩)
    refine region_gx (by kernel_rfl) (by kernel_rfl) ?_
    repeat (any_goals (first | (refine quiet_fr rfl _ rfl _ rfl ?_ ?_ ?_ ?_; rotate_left; (focus (rintro _ ⟨x, rfl⟩; (focus (repeat (first | (with_reducible assumption) | (with_reducible exact At.new _ _) | (with_reducible refine At.row ?_) | (with_reducible refine At.app ?_) | (with_reducible refine At.tick ?_) | (with_reducible refine At.gx ?_) | ((with_reducible refine At.new' ?_); focus (simp; done)) | (with_reducible refine At.alloc ?_) | (with_reducible refine At.drew ?_) | (with_reducible exact Is.new _ _ _) | (with_reducible refine Is.row ?_) | (with_reducible refine Is.gx ?_) | ((with_reducible refine Is.new' ?_); focus (simp; done)) | (with_reducible refine Is.alloc ?_) | (with_reducible refine Is.drew ?_)))))); (focus (with_reducible (first | exact hl | exact hl1 | exact hl2 | exact hl3 | exact hl4 | exact zeroF_len)))) | go_big_quiet_step ((first | (go_at_call 33; with_reducible exact calls_gx (HNc _)) | (go_at_call 33; with_reducible exact calls_gx (HNd _)) | (go_at_call 32; with_reducible exact calls_gx_same (HSc _)) | (go_at_call 32; with_reducible exact calls_gx_same (HSd _)))) | quiet_step ((first | (go_at_call 33; with_reducible exact calls_gx (HNc _)) | (go_at_call 33; with_reducible exact calls_gx (HNd _)) | (go_at_call 32; with_reducible exact calls_gx_same (HSc _)) | (go_at_call 32; with_reducible exact calls_gx_same (HSd _))))))
    refine wpQuiet_nil ?_
    rintro _ ⟨x, rfl⟩
    go_wp2
    go_ret
    exact ⟨by rw [HE.out]; first | done | rfl, (by repeat (first | (with_reducible exact Gx.refl _) | (with_reducible assumption) | (with_reducible refine Gx.gx ?_) | (with_reducible refine Gx.alloc ?_) | (with_reducible refine Gx.drew ?_) | (with_reducible refine Gx.drewN ?_) | (with_reducible refine Gx.setRow ?_ (by simp)) | (with_reducible refine Gx.setCell ?_ (by simp))))⟩
set_option maxHeartbeats 4000000 in
set_option maxRecDepth 100000 in
theorem nearestFrom_any (l : Ln) (f t x : Int) (w : World) (hok : lnOk l) (hx : isN x) (he : isN (l.a * l.f + l.b) ∧ isN (l.a * l.t + l.b)) (hft : f ≤ t) (hf : l.f ≤ f) (ht : t ≤ l.t) : Calls Try.prog 31 #[lnV l.f l.t l.a l.b, .int .i64 f, .int .i64 t, .int .i64 x] w fun e w' => e = .returned (.int .i64 (nearV l f t x)) ∧ ∃ x, w' = gx w x := by
  by_cases ha : l.a = 0
  · have HE := Lib.hid (nearV_0 (f := f) (t := t) (x := x) ha)
    have a0 : (l.a == 0) = true := by simpa using ha
    clear hok he
    go_enter Try.func31, Try.ntmps31
    go_wp2
    go_ret
    exact ⟨by rw [HE.out]; first | done | rfl, (by repeat (first | (with_reducible exact Gx.refl _) | (with_reducible assumption) | (with_reducible refine Gx.gx ?_) | (with_reducible refine Gx.alloc ?_) | (with_reducible refine Gx.drew ?_) | (with_reducible refine Gx.drewN ?_) | (with_reducible refine Gx.setRow ?_ (by simp)) | (with_reducible refine Gx.setCell ?_ (by simp))))⟩
  · obtain ⟨q, hq⟩ : ∃ q, fl (x - l.b) l.a = q := ⟨_, rfl⟩
    rcases (by omega : q + 1 < f ∨ f = q + 1 ∨ (f ≤ q ∧ t < q) ∨ (f ≤ q ∧ t = q) ∨ (f ≤ q ∧ q < t)) with c | c | c | c | c
    · exact nearestFrom_lo l f t x q w hok hx ha he hft hf ht hq c
    · exact nearestFrom_lo2 l f t x q w hok hx ha he hft hf ht hq c
    · exact nearestFrom_hi l f t x q w hok hx ha he hft hf ht hq c.1 c.2
    · exact nearestFrom_hi2 l f t x q w hok hx ha he hft hf ht hq c.1 c.2
    · exact nearestFrom_in l f t x q w hok hx ha he hft hf ht hq c.1 c.2
end Go.Proofs.Ytkfolbhdjppgaaa
