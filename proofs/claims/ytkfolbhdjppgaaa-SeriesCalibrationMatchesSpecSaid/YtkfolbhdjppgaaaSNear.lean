/-
  nearestFrom and Nearest of the program: contracts.
-/
import Derived.Test.YtkfolbhdjppgaaaSFloor
namespace Go.Proofs.Ytkfolbhdjppgaaa
open Go.RowKit
-- AT2

theorem nearV_0 {l : Ln} {f t x : Int} (h : l.a = 0) : nearV l f t x = f := by unfold nearV; rw [if_pos h]
/-- nearV by its two candidates. -/
theorem nearV_2 {l : Ln} {f t x u v : Int} (h : l.a ≠ 0) (hu : clamp (fl (x - l.b) l.a) f t = u) (hv : clamp (fl (x - l.b) l.a + 1) f t = v) :
    nearV l f t x = if sz (l.a * v + l.b - x) < sz (l.a * u + l.b - x) then v else u := by
  unfold nearV; rw [if_neg h, hu, hv]
theorem clamp_is {x f t : Int} : clamp x f t = min (max x f) t := by unfold clamp; rfl

set_option maxHeartbeats 4000000 in
set_option maxRecDepth 100000 in
theorem nearestFrom_lo (l : Ln) (f t x q : Int) (w : World) (hok : lnOk l) (hx : isN x) (ha : l.a ≠ 0) (he : isN (l.a * l.f + l.b) ∧ isN (l.a * l.t + l.b)) (hft : f ≤ t) (hf : l.f ≤ f) (ht : t ≤ l.t) (hq : fl (x - l.b) l.a = q) (c1 : q + 1 < f) : Calls Try.prog 31 #[lnV l.f l.t l.a l.b, .int .i64 f, .int .i64 t, .int .i64 x] w fun e w' => e = .returned (.int .i64 (nearV l f t x)) ∧ ∃ x, w' = gx w x := by
  have E : nearV l f t x = f := by
    rw [nearV_2 (x := x) (u := f) (v := f) ha (by rw [hq, clamp_is]; omega) (by rw [hq, clamp_is]; omega), if_neg (by omega)]
  have qb := fl_bound (a := x - l.b) (b := l.a) (M := 2251799813685248) ha
  rw [hq] at qb
  have nc := num_in he (v := f) (by omega) (by omega)
  unfold lnOk at hok
  obtain ⟨o1, o2, o3, o4, o5, o6, o7, o8, o9⟩ := hok
  unfold isN at nc
  unfold isN at hx
  have qb := qb (by omega) (by omega) (by omega)
  have mc := mul_small o6 o7 (v := f) (by omega) (by omega)
  have HE := Lib.hid E
  have a0 : (l.a == 0) = false := by simpa using ha
  have HD := fun W => floor_any (x - l.b) l.a W (by omega) (by omega) ha
  rw [hq] at HD
  have HNc := fun W => numberOf_any l.f l.t l.a l.b (f) W mc o8 o9
  clear E hq he
  obtain ⟨c, hc⟩ : ∃ c, c = l.a * (f) + l.b := ⟨_, rfl⟩
  rw [← hc] at nc HNc
  try rw [← hc] at HE
  clear hc mc
  have w1 : IntKind.i64.wrap (x - l.b) = x - l.b := IntWalk.i64_in _ (by omega)
  have w_c : IntKind.i64.wrap (c - x) = c - x := IntWalk.i64_in _ (by omega)
  have HSc := fun W => size_any (c - x) W (by omega) (by omega)
  generalize sz (c - x) = sc at *
  go_enter Try.func31, Try.ntmps31
  go_wp2_with (go_at_call 56; refine (HD _).mono ?_; rintro e w' ⟨rfl, rfl⟩)
  refine region_gx (by kernel_rfl) (by kernel_rfl) ?_
  repeat (any_goals (first | (refine quiet_fr rfl _ rfl _ rfl ?_ ?_ ?_ ?_; rotate_left; (focus (rintro _ ⟨x, rfl⟩; (focus (repeat (first | (with_reducible assumption) | (with_reducible exact At.new _ _) | (with_reducible refine At.row ?_) | (with_reducible refine At.app ?_) | (with_reducible refine At.tick ?_) | (with_reducible refine At.gx ?_) | ((with_reducible refine At.new' ?_); focus (simp; done)) | (with_reducible refine At.alloc ?_) | (with_reducible refine At.drew ?_) | (with_reducible exact Is.new _ _ _) | (with_reducible refine Is.row ?_) | (with_reducible refine Is.gx ?_) | ((with_reducible refine Is.new' ?_); focus (simp; done)) | (with_reducible refine Is.alloc ?_) | (with_reducible refine Is.drew ?_)))))); (focus (with_reducible (first | exact hl | exact hl1 | exact hl2 | exact hl3 | exact hl4 | exact zeroF_len)))) | go_big_quiet_step ((first | (go_at_call 33; exact calls_gx (HNc _)) | (go_at_call 32; exact calls_gx_same (HSc _)))) | quiet_step ((first | (go_at_call 33; exact calls_gx (HNc _)) | (go_at_call 32; exact calls_gx_same (HSc _))))))
  refine wpQuiet_nil ?_
  rintro _ ⟨x, rfl⟩
  go_wp2
  go_ret
  exact ⟨by rw [HE.out]; first | done | rfl, (by repeat (first | (with_reducible exact Gx.refl _) | (with_reducible assumption) | (with_reducible refine Gx.gx ?_) | (with_reducible refine Gx.alloc ?_) | (with_reducible refine Gx.drew ?_) | (with_reducible refine Gx.drewN ?_) | (with_reducible refine Gx.setRow ?_ (by simp)) | (with_reducible refine Gx.setCell ?_ (by simp))))⟩
set_option maxHeartbeats 4000000 in
set_option maxRecDepth 100000 in
theorem nearestFrom_lo2 (l : Ln) (f t x q : Int) (w : World) (hok : lnOk l) (hx : isN x) (ha : l.a ≠ 0) (he : isN (l.a * l.f + l.b) ∧ isN (l.a * l.t + l.b)) (hft : f ≤ t) (hf : l.f ≤ f) (ht : t ≤ l.t) (hq : fl (x - l.b) l.a = q) (c1 : f = q + 1) : Calls Try.prog 31 #[lnV l.f l.t l.a l.b, .int .i64 f, .int .i64 t, .int .i64 x] w fun e w' => e = .returned (.int .i64 (nearV l f t x)) ∧ ∃ x, w' = gx w x := by
  subst c1
  have E : nearV l (q + 1) t x = q + 1 := by
    rw [nearV_2 (x := x) (u := q + 1) (v := q + 1) ha (by rw [hq, clamp_is]; omega) (by rw [hq, clamp_is]; omega), if_neg (by omega)]
  have qb := fl_bound (a := x - l.b) (b := l.a) (M := 2251799813685248) ha
  rw [hq] at qb
  have nc := num_in he (v := q + 1) (by omega) (by omega)
  unfold lnOk at hok
  obtain ⟨o1, o2, o3, o4, o5, o6, o7, o8, o9⟩ := hok
  unfold isN at nc
  unfold isN at hx
  have qb := qb (by omega) (by omega) (by omega)
  have mc := mul_small o6 o7 (v := q + 1) (by omega) (by omega)
  have HE := Lib.hid E
  have a0 : (l.a == 0) = false := by simpa using ha
  have HD := fun W => floor_any (x - l.b) l.a W (by omega) (by omega) ha
  rw [hq] at HD
  have HNc := fun W => numberOf_any l.f l.t l.a l.b (q + 1) W mc o8 o9
  clear E hq he
  obtain ⟨c, hc⟩ : ∃ c, c = l.a * (q + 1) + l.b := ⟨_, rfl⟩
  rw [← hc] at nc HNc
  try rw [← hc] at HE
  clear hc mc
  have w1 : IntKind.i64.wrap (x - l.b) = x - l.b := IntWalk.i64_in _ (by omega)
  have w_c : IntKind.i64.wrap (c - x) = c - x := IntWalk.i64_in _ (by omega)
  have HSc := fun W => size_any (c - x) W (by omega) (by omega)
  generalize sz (c - x) = sc at *
  go_enter Try.func31, Try.ntmps31
  go_wp2_with (go_at_call 56; refine (HD _).mono ?_; rintro e w' ⟨rfl, rfl⟩)
  refine region_gx (by kernel_rfl) (by kernel_rfl) ?_
  repeat (any_goals (first | (refine quiet_fr rfl _ rfl _ rfl ?_ ?_ ?_ ?_; rotate_left; (focus (rintro _ ⟨x, rfl⟩; (focus (repeat (first | (with_reducible assumption) | (with_reducible exact At.new _ _) | (with_reducible refine At.row ?_) | (with_reducible refine At.app ?_) | (with_reducible refine At.tick ?_) | (with_reducible refine At.gx ?_) | ((with_reducible refine At.new' ?_); focus (simp; done)) | (with_reducible refine At.alloc ?_) | (with_reducible refine At.drew ?_) | (with_reducible exact Is.new _ _ _) | (with_reducible refine Is.row ?_) | (with_reducible refine Is.gx ?_) | ((with_reducible refine Is.new' ?_); focus (simp; done)) | (with_reducible refine Is.alloc ?_) | (with_reducible refine Is.drew ?_)))))); (focus (with_reducible (first | exact hl | exact hl1 | exact hl2 | exact hl3 | exact hl4 | exact zeroF_len)))) | go_big_quiet_step ((first | (go_at_call 33; exact calls_gx (HNc _)) | (go_at_call 32; exact calls_gx_same (HSc _)))) | quiet_step ((first | (go_at_call 33; exact calls_gx (HNc _)) | (go_at_call 32; exact calls_gx_same (HSc _))))))
  refine wpQuiet_nil ?_
  rintro _ ⟨x, rfl⟩
  go_wp2
  go_ret
  exact ⟨by rw [HE.out]; first | done | rfl, (by repeat (first | (with_reducible exact Gx.refl _) | (with_reducible assumption) | (with_reducible refine Gx.gx ?_) | (with_reducible refine Gx.alloc ?_) | (with_reducible refine Gx.drew ?_) | (with_reducible refine Gx.drewN ?_) | (with_reducible refine Gx.setRow ?_ (by simp)) | (with_reducible refine Gx.setCell ?_ (by simp))))⟩
set_option maxHeartbeats 4000000 in
set_option maxRecDepth 100000 in
theorem nearestFrom_hi (l : Ln) (f t x q : Int) (w : World) (hok : lnOk l) (hx : isN x) (ha : l.a ≠ 0) (he : isN (l.a * l.f + l.b) ∧ isN (l.a * l.t + l.b)) (hft : f ≤ t) (hf : l.f ≤ f) (ht : t ≤ l.t) (hq : fl (x - l.b) l.a = q) (c1 : f ≤ q) (c2 : t < q) : Calls Try.prog 31 #[lnV l.f l.t l.a l.b, .int .i64 f, .int .i64 t, .int .i64 x] w fun e w' => e = .returned (.int .i64 (nearV l f t x)) ∧ ∃ x, w' = gx w x := by
  have E : nearV l f t x = t := by
    rw [nearV_2 (x := x) (u := t) (v := t) ha (by rw [hq, clamp_is]; omega) (by rw [hq, clamp_is]; omega), if_neg (by omega)]
  have qb := fl_bound (a := x - l.b) (b := l.a) (M := 2251799813685248) ha
  rw [hq] at qb
  have nc := num_in he (v := t) (by omega) (by omega)
  unfold lnOk at hok
  obtain ⟨o1, o2, o3, o4, o5, o6, o7, o8, o9⟩ := hok
  unfold isN at nc
  unfold isN at hx
  have qb := qb (by omega) (by omega) (by omega)
  have mc := mul_small o6 o7 (v := t) (by omega) (by omega)
  have HE := Lib.hid E
  have a0 : (l.a == 0) = false := by simpa using ha
  have HD := fun W => floor_any (x - l.b) l.a W (by omega) (by omega) ha
  rw [hq] at HD
  have HNc := fun W => numberOf_any l.f l.t l.a l.b (t) W mc o8 o9
  clear E hq he
  obtain ⟨c, hc⟩ : ∃ c, c = l.a * (t) + l.b := ⟨_, rfl⟩
  rw [← hc] at nc HNc
  try rw [← hc] at HE
  clear hc mc
  have w1 : IntKind.i64.wrap (x - l.b) = x - l.b := IntWalk.i64_in _ (by omega)
  have w_c : IntKind.i64.wrap (c - x) = c - x := IntWalk.i64_in _ (by omega)
  have HSc := fun W => size_any (c - x) W (by omega) (by omega)
  generalize sz (c - x) = sc at *
  go_enter Try.func31, Try.ntmps31
  go_wp2_with (go_at_call 56; refine (HD _).mono ?_; rintro e w' ⟨rfl, rfl⟩)
  refine region_gx (by kernel_rfl) (by kernel_rfl) ?_
  repeat (any_goals (first | (refine quiet_fr rfl _ rfl _ rfl ?_ ?_ ?_ ?_; rotate_left; (focus (rintro _ ⟨x, rfl⟩; (focus (repeat (first | (with_reducible assumption) | (with_reducible exact At.new _ _) | (with_reducible refine At.row ?_) | (with_reducible refine At.app ?_) | (with_reducible refine At.tick ?_) | (with_reducible refine At.gx ?_) | ((with_reducible refine At.new' ?_); focus (simp; done)) | (with_reducible refine At.alloc ?_) | (with_reducible refine At.drew ?_) | (with_reducible exact Is.new _ _ _) | (with_reducible refine Is.row ?_) | (with_reducible refine Is.gx ?_) | ((with_reducible refine Is.new' ?_); focus (simp; done)) | (with_reducible refine Is.alloc ?_) | (with_reducible refine Is.drew ?_)))))); (focus (with_reducible (first | exact hl | exact hl1 | exact hl2 | exact hl3 | exact hl4 | exact zeroF_len)))) | go_big_quiet_step ((first | (go_at_call 33; exact calls_gx (HNc _)) | (go_at_call 32; exact calls_gx_same (HSc _)))) | quiet_step ((first | (go_at_call 33; exact calls_gx (HNc _)) | (go_at_call 32; exact calls_gx_same (HSc _))))))
  refine wpQuiet_nil ?_
  rintro _ ⟨x, rfl⟩
  go_wp2
  go_ret
  exact ⟨by rw [HE.out]; first | done | rfl, (by repeat (first | (with_reducible exact Gx.refl _) | (with_reducible assumption) | (with_reducible refine Gx.gx ?_) | (with_reducible refine Gx.alloc ?_) | (with_reducible refine Gx.drew ?_) | (with_reducible refine Gx.drewN ?_) | (with_reducible refine Gx.setRow ?_ (by simp)) | (with_reducible refine Gx.setCell ?_ (by simp))))⟩
set_option maxHeartbeats 4000000 in
set_option maxRecDepth 100000 in
theorem nearestFrom_hi2 (l : Ln) (f t x q : Int) (w : World) (hok : lnOk l) (hx : isN x) (ha : l.a ≠ 0) (he : isN (l.a * l.f + l.b) ∧ isN (l.a * l.t + l.b)) (hft : f ≤ t) (hf : l.f ≤ f) (ht : t ≤ l.t) (hq : fl (x - l.b) l.a = q) (c1 : f ≤ q) (c2 : t = q) : Calls Try.prog 31 #[lnV l.f l.t l.a l.b, .int .i64 f, .int .i64 t, .int .i64 x] w fun e w' => e = .returned (.int .i64 (nearV l f t x)) ∧ ∃ x, w' = gx w x := by
  subst c2
  have E : nearV l f t x = t := by
    rw [nearV_2 (x := x) (u := t) (v := t) ha (by rw [hq, clamp_is]; omega) (by rw [hq, clamp_is]; omega), if_neg (by omega)]
  have qb := fl_bound (a := x - l.b) (b := l.a) (M := 2251799813685248) ha
  rw [hq] at qb
  have nc := num_in he (v := t) (by omega) (by omega)
  unfold lnOk at hok
  obtain ⟨o1, o2, o3, o4, o5, o6, o7, o8, o9⟩ := hok
  unfold isN at nc
  unfold isN at hx
  have qb := qb (by omega) (by omega) (by omega)
  have mc := mul_small o6 o7 (v := t) (by omega) (by omega)
  have HE := Lib.hid E
  have a0 : (l.a == 0) = false := by simpa using ha
  have HD := fun W => floor_any (x - l.b) l.a W (by omega) (by omega) ha
  rw [hq] at HD
  have HNc := fun W => numberOf_any l.f l.t l.a l.b (t) W mc o8 o9
  clear E hq he
  obtain ⟨c, hc⟩ : ∃ c, c = l.a * (t) + l.b := ⟨_, rfl⟩
  rw [← hc] at nc HNc
  try rw [← hc] at HE
  clear hc mc
  have w1 : IntKind.i64.wrap (x - l.b) = x - l.b := IntWalk.i64_in _ (by omega)
  have w_c : IntKind.i64.wrap (c - x) = c - x := IntWalk.i64_in _ (by omega)
  have HSc := fun W => size_any (c - x) W (by omega) (by omega)
  generalize sz (c - x) = sc at *
  go_enter Try.func31, Try.ntmps31
  go_wp2_with (go_at_call 56; refine (HD _).mono ?_; rintro e w' ⟨rfl, rfl⟩)
  refine region_gx (by kernel_rfl) (by kernel_rfl) ?_
  repeat (any_goals (first | (refine quiet_fr rfl _ rfl _ rfl ?_ ?_ ?_ ?_; rotate_left; (focus (rintro _ ⟨x, rfl⟩; (focus (repeat (first | (with_reducible assumption) | (with_reducible exact At.new _ _) | (with_reducible refine At.row ?_) | (with_reducible refine At.app ?_) | (with_reducible refine At.tick ?_) | (with_reducible refine At.gx ?_) | ((with_reducible refine At.new' ?_); focus (simp; done)) | (with_reducible refine At.alloc ?_) | (with_reducible refine At.drew ?_) | (with_reducible exact Is.new _ _ _) | (with_reducible refine Is.row ?_) | (with_reducible refine Is.gx ?_) | ((with_reducible refine Is.new' ?_); focus (simp; done)) | (with_reducible refine Is.alloc ?_) | (with_reducible refine Is.drew ?_)))))); (focus (with_reducible (first | exact hl | exact hl1 | exact hl2 | exact hl3 | exact hl4 | exact zeroF_len)))) | go_big_quiet_step ((first | (go_at_call 33; exact calls_gx (HNc _)) | (go_at_call 32; exact calls_gx_same (HSc _)))) | quiet_step ((first | (go_at_call 33; exact calls_gx (HNc _)) | (go_at_call 32; exact calls_gx_same (HSc _))))))
  refine wpQuiet_nil ?_
  rintro _ ⟨x, rfl⟩
  go_wp2
  go_ret
  exact ⟨by rw [HE.out]; first | done | rfl, (by repeat (first | (with_reducible exact Gx.refl _) | (with_reducible assumption) | (with_reducible refine Gx.gx ?_) | (with_reducible refine Gx.alloc ?_) | (with_reducible refine Gx.drew ?_) | (with_reducible refine Gx.drewN ?_) | (with_reducible refine Gx.setRow ?_ (by simp)) | (with_reducible refine Gx.setCell ?_ (by simp))))⟩
end Go.Proofs.Ytkfolbhdjppgaaa
