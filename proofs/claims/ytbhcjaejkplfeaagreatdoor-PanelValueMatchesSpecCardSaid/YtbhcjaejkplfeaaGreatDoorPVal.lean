/-
  Value of both sides, and the law.
-/
import Derived.Test.YtbhcjaejkplfeaaGreatDoorPCt
import Derived.Test.YtbhcjaejkplfeaaGreatDoorPLawD
namespace Go.Proofs.YtbhcjaejkplfeaaGreatDoor
open Go.RowKit
-- AT2
-- AT3

theorem outside5_any (n lo hi : Int) (h1 : lo ≤ n) (h2 : n ≤ hi) (w : World) : Calls Tryz.prog 106 #[.int .i64 n, .int .i64 lo, .int .i64 hi] w fun e w' => e = .returned (.bool false) ∧ w = w' := by
  have k1 : decide (n < lo) = false := decide_eq_false (by omega)
  have k2 : decide (hi < n) = false := decide_eq_false (by omega)
  clear h1 h2
  go_enter Tryz.func106, Tryz.ntmps106
  go_wp2_with go_skip
  go_ret
  exact ⟨rfl, rfl⟩
set_option maxHeartbeats 4000000 in
set_option maxRecDepth 100000 in
theorem RHoldG (den : Int) (g : Nat → Sm) (n c : Nat) (A : Option Addr) (a l : Int) (w : World) (hL : SmAt w g n A) (h0 : serE den g n = 0) (ha1 : 0 ≤ a) (ha2 : a ≤ 1099511627776) (hl1 : 0 ≤ l) (hl2 : l ≤ 1099511627776) (v : Sm) (b : Bool) (hv : heldV g (aheadN g (a + 1) n) a l = v) (hb : heldB g (aheadN g (a + 1) n) a l = b) :
    Calls Tryz.prog 76 #[serV den A n c, .int .i64 a, .int .i64 l] w fun e w' => e = .returned (.tuple #[smV v.t v.n v.m, .bool b, .int .i64 0]) ∧ ∃ x, w' = gx w x := by
  obtain ⟨_, hn, hG⟩ := goodS_of h0
  have H1 := Lib.hid (fun W (hW : ∃ x, W = gx w x) => RCheck_any den g n c A W (by obtain ⟨x, rfl⟩ := hW; exact hL.gx))
  rw [h0] at H1
  have H2 := Lib.hid (fun W (hW : ∃ x, W = gx w x) => Held_any den g n c A a l W (by obtain ⟨x, rfl⟩ := hW; exact hL.gx) hn hG ha1 ha2)
  rw [hv, hb] at H2
  have H3 := Lib.hid (fun W => outside5_any a 0 1099511627776 ha1 ha2 W)
  have H4 := Lib.hid (fun W => outside5_any l 0 1099511627776 hl1 hl2 W)
  clear hv hb hL h0 ha1 ha2 hl1 hl2 hn hG
  obtain ⟨t, N, m⟩ := v
  dsimp only at *
  go_enter Tryz.func76, Tryz.ntmps76
  go_wp2_with (first
    | go_skip
    | (go_at_call 74; refine (H1.out _ (by repeat (first | (with_reducible exact Gx.refl _) | (with_reducible assumption) | (with_reducible refine Gx.gx ?_) | (with_reducible refine Gx.alloc ?_) | (with_reducible refine Gx.drew ?_) | (with_reducible refine Gx.drewN ?_) | (with_reducible refine Gx.setRow ?_ (by first | omega | (simp; done) | (simp <;> omega))) | (with_reducible refine Gx.setCell ?_ (by first | omega | (simp; done) | (simp <;> omega)))))).mono ?_; rintro e w' ⟨rfl, x1, rfl⟩)
    | (go_at_call 107; refine (H2.out _ (by repeat (first | (with_reducible exact Gx.refl _) | (with_reducible assumption) | (with_reducible refine Gx.gx ?_) | (with_reducible refine Gx.alloc ?_) | (with_reducible refine Gx.drew ?_) | (with_reducible refine Gx.drewN ?_) | (with_reducible refine Gx.setRow ?_ (by first | omega | (simp; done) | (simp <;> omega))) | (with_reducible refine Gx.setCell ?_ (by first | omega | (simp; done) | (simp <;> omega)))))).mono ?_; rintro e w' ⟨rfl, x2, rfl⟩)
    | (go_at_call 106; with_reducible refine (H3.out _).mono ?_; rintro e w' ⟨rfl, rfl⟩)
    | (go_at_call 106; with_reducible refine (H4.out _).mono ?_; rintro e w' ⟨rfl, rfl⟩))
  exact bodyPost_ret (v := .tuple #[smV t N m, .bool b, .int .i64 0]) (by simp [results, Tryz.results76, go_sem]) rfl ⟨rfl, (by repeat (first | (with_reducible exact Gx.refl _) | (with_reducible assumption) | (with_reducible refine Gx.gx ?_) | (with_reducible refine Gx.alloc ?_) | (with_reducible refine Gx.drew ?_) | (with_reducible refine Gx.drewN ?_) | (with_reducible refine Gx.setRow ?_ (by first | omega | (simp; done) | (simp <;> omega))) | (with_reducible refine Gx.setCell ?_ (by first | omega | (simp; done) | (simp <;> omega)))))⟩
set_option maxHeartbeats 4000000 in
set_option maxRecDepth 100000 in
theorem RvalueAt_any (s : ByteArray) (den : Int) (g : Nat → Sm) (n c : Nat) (A : Option Addr) (lg fr : Int) (w : World) (hL : SmAt w g n A) (h0 : serE den g n = 0) (hf : 0 ≤ fr ∧ fr ≤ 4194303) (hl : 0 ≤ lg ∧ lg ≤ 1099511627776) (v : Sm) (b : Bool)
    (hv : heldV g (aheadN g (64 * fr + 64) n) (64 * fr + 63) lg = v) (hb : heldB g (aheadN g (64 * fr + 64) n) (64 * fr + 63) lg = b) :
    Calls Tryz.prog 44 #[trV s den A n c lg, .int .i64 fr] w fun e w' => e = .returned (.tuple #[smV v.t v.n v.m, .bool b]) ∧ ∃ x, w' = gx w x := by
  have HH := Lib.hid (fun W (hW : ∃ x, W = gx w x) => RHoldG den g n c A (64 * fr + 63) lg W (by obtain ⟨x, rfl⟩ := hW; exact hL.gx) h0 (by omega) (by omega) hl.1 hl.2 v b (by rw [show 64 * fr + 63 + 1 = 64 * fr + 64 by omega]; exact hv) (by rw [show 64 * fr + 63 + 1 = 64 * fr + 64 by omega]; exact hb))
  clear hv hb
  obtain ⟨t, N, m⟩ := v
  dsimp only at *
  obtain ⟨q, hq⟩ : ∃ q, 64 * fr = q := ⟨_, rfl⟩
  obtain ⟨a, ha⟩ : ∃ a, q + 63 = a := ⟨_, rfl⟩
  rw [hq, ha] at HH
  have e1 : IntKind.i64.wrap (64 * fr) = q := by rw [IntWalk.i64_in _ (by omega), hq]
  have e2 : IntKind.i64.wrap (q + 63) = a := by rw [IntWalk.i64_in _ (by omega), ha]
  clear hq ha hf hl h0
  go_enter Tryz.func44, Tryz.ntmps44
  go_wp2_with (first | (go_at_call 76; refine (HH.out _ (by repeat (first | (with_reducible exact Gx.refl _) | (with_reducible assumption) | (with_reducible refine Gx.gx ?_) | (with_reducible refine Gx.alloc ?_) | (with_reducible refine Gx.drew ?_) | (with_reducible refine Gx.drewN ?_) | (with_reducible refine Gx.setRow ?_ (by first | omega | (simp; done) | (simp <;> omega))) | (with_reducible refine Gx.setCell ?_ (by first | omega | (simp; done) | (simp <;> omega)))))).mono ?_; rintro e w' ⟨rfl, x1, rfl⟩))
  exact bodyPost_ret (v := .tuple #[smV t N m, .bool b]) (by simp [results, Tryz.results44, go_sem]) rfl ⟨rfl, (by repeat (first | (with_reducible exact Gx.refl _) | (with_reducible assumption) | (with_reducible refine Gx.gx ?_) | (with_reducible refine Gx.alloc ?_) | (with_reducible refine Gx.drew ?_) | (with_reducible refine Gx.drewN ?_) | (with_reducible refine Gx.setRow ?_ (by first | omega | (simp; done) | (simp <;> omega))) | (with_reducible refine Gx.setCell ?_ (by first | omega | (simp; done) | (simp <;> omega)))))⟩
theorem tkAt_new {w : World} {b : Nat} {s : ByteArray} {den : Int} {A : Option Addr} {n c : Nat} {lg : Int} {t : TypeId} (h : At w b (.cells #[.string s, .int .i64 den, .slice A n c, .int .i64 lg] t (0, 0))) : TkAt w b s den A n c lg := by
  constructor <;> (rw [cell_of_row w _ _ _ _ _ h]; rfl)
set_option maxHeartbeats 4000000 in
set_option maxRecDepth 100000 in
theorem Value_1 (s : ByteArray) (hs : s.size ≤ 9223372036854775807) (den : Int) (A : Option Addr) (n c : Nat) (lg : Int) (f : Nat → Sm) (fr : Int) (w : World) (hL : SmAt w f n A) (E : Int) (hE : tkE (nameT s) (serE den f n) lg = E) (h0 : E ≠ 0) :
    Calls Tryz.prog 15 #[trV s den A n c lg, .int .i64 fr] w fun e w' => e = .returned (.tuple #[smV 0 0 0, .bool false, .int .i64 E]) ∧ ∃ x, w' = gx w x := by
  have HC := Lib.hid (fun W b' (hW : ∃ x, W = gx w x) (hT : TkAt W b' s den A n c lg) => CheckTracksT s hs b' 1 den A n c lg f W hT (by obtain ⟨x, rfl⟩ := hW; exact hL.gx))
  rw [hE] at HC
  have k0 := beq0 h0
  have k1 := bne0 h0
  have k2 := ne0t h0
  clear hE h0
  go_enter Tryz.func15, Tryz.ntmps15
  go_wp2_with (first | go_skip | (go_at_call 41; refine (HC.out _ _ (by repeat (first | (with_reducible exact Gx.refl _) | (with_reducible assumption) | (with_reducible refine Gx.gx ?_) | (with_reducible refine Gx.alloc ?_) | (with_reducible refine Gx.drew ?_) | (with_reducible refine Gx.drewN ?_) | (with_reducible refine Gx.setRow ?_ (by first | omega | (simp; done) | (simp <;> omega))) | (with_reducible refine Gx.setCell ?_ (by first | omega | (simp; done) | (simp <;> omega))))) (tkAt_new (t := 43) (by (focus (repeat (first | (with_reducible assumption) | (with_reducible exact At.new _ _) | (with_reducible refine At.row ?_) | ((with_reducible refine At.row_other ?_ ?_); rotate_left; (focus (simp <;> omega))) | (with_reducible refine At.app ?_) | (with_reducible refine At.tick ?_) | (with_reducible refine At.gx ?_) | ((with_reducible refine At.new' ?_); focus (simp; done)) | (with_reducible refine At.alloc ?_) | (with_reducible refine At.drew ?_) | (with_reducible exact Is.new _ _ _) | (with_reducible refine Is.row ?_) | ((with_reducible refine Is.row_other ?_ ?_); rotate_left; (focus (simp <;> omega))) | (with_reducible refine Is.gx ?_) | ((with_reducible refine Is.new' ?_); focus (simp; done)) | (with_reducible refine Is.alloc ?_) | (with_reducible refine Is.drew ?_))))))).mono ?_; rintro e w' ⟨rfl, x1, rfl⟩))
  exact bodyPost_ret (v := .tuple #[smV 0 0 0, .bool false, .int .i64 E]) (by simp [results, Tryz.results15, go_sem]) rfl ⟨rfl, (by repeat (first | (with_reducible exact Gx.refl _) | (with_reducible assumption) | (with_reducible refine Gx.gx ?_) | (with_reducible refine Gx.alloc ?_) | (with_reducible refine Gx.drew ?_) | (with_reducible refine Gx.drewN ?_) | (with_reducible refine Gx.setRow ?_ (by first | omega | (simp; done) | (simp <;> omega))) | (with_reducible refine Gx.setCell ?_ (by first | omega | (simp; done) | (simp <;> omega)))))⟩
set_option maxHeartbeats 4000000 in
set_option maxRecDepth 100000 in
theorem Value_2 (s : ByteArray) (hs : s.size ≤ 9223372036854775807) (den : Int) (A : Option Addr) (n c : Nat) (lg : Int) (f : Nat → Sm) (fr : Int) (w : World) (hL : SmAt w f n A) (hE : tkE (nameT s) (serE den f n) lg = 0) (hf : fr < 0 ∨ (0 ≤ fr ∧ 4194303 < fr)) :
    Calls Tryz.prog 15 #[trV s den A n c lg, .int .i64 fr] w fun e w' => e = .returned (.tuple #[smV 0 0 0, .bool false, .int .i64 9]) ∧ ∃ x, w' = gx w x := by
  have HC := Lib.hid (fun W b' (hW : ∃ x, W = gx w x) (hT : TkAt W b' s den A n c lg) => CheckTracksT s hs b' 1 den A n c lg f W hT (by obtain ⟨x, rfl⟩ := hW; exact hL.gx))
  rw [hE] at HC
  rcases hf with hf | ⟨hf, hf'⟩
  · have k3 : decide (fr < 0) = true := decide_eq_true hf
    clear hE hf
    go_enter Tryz.func15, Tryz.ntmps15
    go_wp2_with (first | go_skip | (go_at_call 41; refine (HC.out _ _ (by repeat (first | (with_reducible exact Gx.refl _) | (with_reducible assumption) | (with_reducible refine Gx.gx ?_) | (with_reducible refine Gx.alloc ?_) | (with_reducible refine Gx.drew ?_) | (with_reducible refine Gx.drewN ?_) | (with_reducible refine Gx.setRow ?_ (by first | omega | (simp; done) | (simp <;> omega))) | (with_reducible refine Gx.setCell ?_ (by first | omega | (simp; done) | (simp <;> omega))))) (tkAt_new (t := 43) (by (focus (repeat (first | (with_reducible assumption) | (with_reducible exact At.new _ _) | (with_reducible refine At.row ?_) | ((with_reducible refine At.row_other ?_ ?_); rotate_left; (focus (simp <;> omega))) | (with_reducible refine At.app ?_) | (with_reducible refine At.tick ?_) | (with_reducible refine At.gx ?_) | ((with_reducible refine At.new' ?_); focus (simp; done)) | (with_reducible refine At.alloc ?_) | (with_reducible refine At.drew ?_) | (with_reducible exact Is.new _ _ _) | (with_reducible refine Is.row ?_) | ((with_reducible refine Is.row_other ?_ ?_); rotate_left; (focus (simp <;> omega))) | (with_reducible refine Is.gx ?_) | ((with_reducible refine Is.new' ?_); focus (simp; done)) | (with_reducible refine Is.alloc ?_) | (with_reducible refine Is.drew ?_))))))).mono ?_; rintro e w' ⟨rfl, x1, rfl⟩))
    exact bodyPost_ret (v := .tuple #[smV 0 0 0, .bool false, .int .i64 9]) (by simp [results, Tryz.results15, go_sem]) rfl ⟨rfl, (by repeat (first | (with_reducible exact Gx.refl _) | (with_reducible assumption) | (with_reducible refine Gx.gx ?_) | (with_reducible refine Gx.alloc ?_) | (with_reducible refine Gx.drew ?_) | (with_reducible refine Gx.drewN ?_) | (with_reducible refine Gx.setRow ?_ (by first | omega | (simp; done) | (simp <;> omega))) | (with_reducible refine Gx.setCell ?_ (by first | omega | (simp; done) | (simp <;> omega)))))⟩
  · have k3 : decide (fr < 0) = false := decide_eq_false (by omega)
    have k4 : decide (4194304 ≤ fr) = true := decide_eq_true (by omega)
    clear hE hf hf'
    go_enter Tryz.func15, Tryz.ntmps15
    go_wp2_with (first | go_skip | (go_at_call 41; refine (HC.out _ _ (by repeat (first | (with_reducible exact Gx.refl _) | (with_reducible assumption) | (with_reducible refine Gx.gx ?_) | (with_reducible refine Gx.alloc ?_) | (with_reducible refine Gx.drew ?_) | (with_reducible refine Gx.drewN ?_) | (with_reducible refine Gx.setRow ?_ (by first | omega | (simp; done) | (simp <;> omega))) | (with_reducible refine Gx.setCell ?_ (by first | omega | (simp; done) | (simp <;> omega))))) (tkAt_new (t := 43) (by (focus (repeat (first | (with_reducible assumption) | (with_reducible exact At.new _ _) | (with_reducible refine At.row ?_) | ((with_reducible refine At.row_other ?_ ?_); rotate_left; (focus (simp <;> omega))) | (with_reducible refine At.app ?_) | (with_reducible refine At.tick ?_) | (with_reducible refine At.gx ?_) | ((with_reducible refine At.new' ?_); focus (simp; done)) | (with_reducible refine At.alloc ?_) | (with_reducible refine At.drew ?_) | (with_reducible exact Is.new _ _ _) | (with_reducible refine Is.row ?_) | ((with_reducible refine Is.row_other ?_ ?_); rotate_left; (focus (simp <;> omega))) | (with_reducible refine Is.gx ?_) | ((with_reducible refine Is.new' ?_); focus (simp; done)) | (with_reducible refine Is.alloc ?_) | (with_reducible refine Is.drew ?_))))))).mono ?_; rintro e w' ⟨rfl, x1, rfl⟩))
    exact bodyPost_ret (v := .tuple #[smV 0 0 0, .bool false, .int .i64 9]) (by simp [results, Tryz.results15, go_sem]) rfl ⟨rfl, (by repeat (first | (with_reducible exact Gx.refl _) | (with_reducible assumption) | (with_reducible refine Gx.gx ?_) | (with_reducible refine Gx.alloc ?_) | (with_reducible refine Gx.drew ?_) | (with_reducible refine Gx.drewN ?_) | (with_reducible refine Gx.setRow ?_ (by first | omega | (simp; done) | (simp <;> omega))) | (with_reducible refine Gx.setCell ?_ (by first | omega | (simp; done) | (simp <;> omega)))))⟩
set_option maxHeartbeats 4000000 in
set_option maxRecDepth 100000 in
theorem Value_3 (s : ByteArray) (hs : s.size ≤ 9223372036854775807) (den : Int) (A : Option Addr) (n c : Nat) (lg : Int) (f : Nat → Sm) (fr : Int) (w : World) (hL : SmAt w f n A) (hE : tkE (nameT s) (serE den f n) lg = 0) (hf : 0 ≤ fr ∧ fr ≤ 4194303) (h0 : serE den f n = 0) (hl : 0 ≤ lg ∧ lg ≤ 1099511627776) (v : Sm) (b : Bool) (hv : heldV f (aheadN f (64 * fr + 64) n) (64 * fr + 63) lg = v) (hb : heldB f (aheadN f (64 * fr + 64) n) (64 * fr + 63) lg = b) :
    Calls Tryz.prog 15 #[trV s den A n c lg, .int .i64 fr] w fun e w' => e = .returned (.tuple #[smV v.t v.n v.m, .bool b, .int .i64 0]) ∧ ∃ x, w' = gx w x := by
  have HC := Lib.hid (fun W b' (hW : ∃ x, W = gx w x) (hT : TkAt W b' s den A n c lg) => CheckTracksT s hs b' 1 den A n c lg f W hT (by obtain ⟨x, rfl⟩ := hW; exact hL.gx))
  rw [hE] at HC
  obtain ⟨_, hn, hG⟩ := goodS_of h0
  have HV := Lib.hid (fun W (hW : ∃ x, W = gx w x) => value_any s den f n c A lg fr W (by obtain ⟨x, rfl⟩ := hW; exact hL.gx) hn hG (by omega) hl v b hv hb)
  have k3 : decide (fr < 0) = false := decide_eq_false (by omega)
  have k4 : decide (4194304 ≤ fr) = false := decide_eq_false (by omega)
  clear hn hG
  clear hE hf h0 hl hv hb
  obtain ⟨t, N, m⟩ := v
  dsimp only at *
  go_enter Tryz.func15, Tryz.ntmps15
  go_wp2_with (first | go_skip | (go_at_call 41; refine (HC.out _ _ (by repeat (first | (with_reducible exact Gx.refl _) | (with_reducible assumption) | (with_reducible refine Gx.gx ?_) | (with_reducible refine Gx.alloc ?_) | (with_reducible refine Gx.drew ?_) | (with_reducible refine Gx.drewN ?_) | (with_reducible refine Gx.setRow ?_ (by first | omega | (simp; done) | (simp <;> omega))) | (with_reducible refine Gx.setCell ?_ (by first | omega | (simp; done) | (simp <;> omega))))) (tkAt_new (t := 43) (by (focus (repeat (first | (with_reducible assumption) | (with_reducible exact At.new _ _) | (with_reducible refine At.row ?_) | ((with_reducible refine At.row_other ?_ ?_); rotate_left; (focus (simp <;> omega))) | (with_reducible refine At.app ?_) | (with_reducible refine At.tick ?_) | (with_reducible refine At.gx ?_) | ((with_reducible refine At.new' ?_); focus (simp; done)) | (with_reducible refine At.alloc ?_) | (with_reducible refine At.drew ?_) | (with_reducible exact Is.new _ _ _) | (with_reducible refine Is.row ?_) | ((with_reducible refine Is.row_other ?_ ?_); rotate_left; (focus (simp <;> omega))) | (with_reducible refine Is.gx ?_) | ((with_reducible refine Is.new' ?_); focus (simp; done)) | (with_reducible refine Is.alloc ?_) | (with_reducible refine Is.drew ?_))))))).mono ?_; rintro e w' ⟨rfl, x1, rfl⟩) | (go_at_call 42; refine (HV.out _ (by repeat (first | (with_reducible exact Gx.refl _) | (with_reducible assumption) | (with_reducible refine Gx.gx ?_) | (with_reducible refine Gx.alloc ?_) | (with_reducible refine Gx.drew ?_) | (with_reducible refine Gx.drewN ?_) | (with_reducible refine Gx.setRow ?_ (by first | omega | (simp; done) | (simp <;> omega))) | (with_reducible refine Gx.setCell ?_ (by first | omega | (simp; done) | (simp <;> omega)))))).mono ?_; rintro e w' ⟨rfl, x2, rfl⟩))
  exact bodyPost_ret (v := .tuple #[smV t N m, .bool b, .int .i64 0]) (by simp [results, Tryz.results15, go_sem]) rfl ⟨rfl, (by repeat (first | (with_reducible exact Gx.refl _) | (with_reducible assumption) | (with_reducible refine Gx.gx ?_) | (with_reducible refine Gx.alloc ?_) | (with_reducible refine Gx.drew ?_) | (with_reducible refine Gx.drewN ?_) | (with_reducible refine Gx.setRow ?_ (by first | omega | (simp; done) | (simp <;> omega))) | (with_reducible refine Gx.setCell ?_ (by first | omega | (simp; done) | (simp <;> omega)))))⟩
set_option maxHeartbeats 4000000 in
set_option maxRecDepth 100000 in
theorem RValue_1 (s : ByteArray) (hs : s.size ≤ 9223372036854775807) (den : Int) (A : Option Addr) (n c : Nat) (lg : Int) (f : Nat → Sm) (fr : Int) (w : World) (hL : SmAt w f n A) (E : Int) (hE : tkE (nameT s) (serE den f n) lg = E) (h0 : E ≠ 0) :
    Calls Tryz.prog 16 #[trV s den A n c lg, .int .i64 fr] w fun e w' => e = .returned (.tuple #[smV 0 0 0, .bool false, .int .i64 E]) ∧ ∃ x, w' = gx w x := by
  have HC := Lib.hid (fun W b' (hW : ∃ x, W = gx w x) (hT : TkAt W b' s den A n c lg) => RCheckTracksT s hs b' 1 den A n c lg f W hT (by obtain ⟨x, rfl⟩ := hW; exact hL.gx))
  rw [hE] at HC
  have k0 := beq0 h0
  have k1 := bne0 h0
  have k2 := ne0t h0
  clear hE h0
  go_enter Tryz.func16, Tryz.ntmps16
  go_wp2_with (first | go_skip | (go_at_call 43; refine (HC.out _ _ (by repeat (first | (with_reducible exact Gx.refl _) | (with_reducible assumption) | (with_reducible refine Gx.gx ?_) | (with_reducible refine Gx.alloc ?_) | (with_reducible refine Gx.drew ?_) | (with_reducible refine Gx.drewN ?_) | (with_reducible refine Gx.setRow ?_ (by first | omega | (simp; done) | (simp <;> omega))) | (with_reducible refine Gx.setCell ?_ (by first | omega | (simp; done) | (simp <;> omega))))) (tkAt_new (t := 43) (by (focus (repeat (first | (with_reducible assumption) | (with_reducible exact At.new _ _) | (with_reducible refine At.row ?_) | ((with_reducible refine At.row_other ?_ ?_); rotate_left; (focus (simp <;> omega))) | (with_reducible refine At.app ?_) | (with_reducible refine At.tick ?_) | (with_reducible refine At.gx ?_) | ((with_reducible refine At.new' ?_); focus (simp; done)) | (with_reducible refine At.alloc ?_) | (with_reducible refine At.drew ?_) | (with_reducible exact Is.new _ _ _) | (with_reducible refine Is.row ?_) | ((with_reducible refine Is.row_other ?_ ?_); rotate_left; (focus (simp <;> omega))) | (with_reducible refine Is.gx ?_) | ((with_reducible refine Is.new' ?_); focus (simp; done)) | (with_reducible refine Is.alloc ?_) | (with_reducible refine Is.drew ?_))))))).mono ?_; rintro e w' ⟨rfl, x1, rfl⟩))
  exact bodyPost_ret (v := .tuple #[smV 0 0 0, .bool false, .int .i64 E]) (by simp [results, Tryz.results16, go_sem]) rfl ⟨rfl, (by repeat (first | (with_reducible exact Gx.refl _) | (with_reducible assumption) | (with_reducible refine Gx.gx ?_) | (with_reducible refine Gx.alloc ?_) | (with_reducible refine Gx.drew ?_) | (with_reducible refine Gx.drewN ?_) | (with_reducible refine Gx.setRow ?_ (by first | omega | (simp; done) | (simp <;> omega))) | (with_reducible refine Gx.setCell ?_ (by first | omega | (simp; done) | (simp <;> omega)))))⟩
set_option maxHeartbeats 4000000 in
set_option maxRecDepth 100000 in
theorem RValue_2 (s : ByteArray) (hs : s.size ≤ 9223372036854775807) (den : Int) (A : Option Addr) (n c : Nat) (lg : Int) (f : Nat → Sm) (fr : Int) (w : World) (hL : SmAt w f n A) (hE : tkE (nameT s) (serE den f n) lg = 0) (hf : fr < 0 ∨ (0 ≤ fr ∧ 4194303 < fr)) :
    Calls Tryz.prog 16 #[trV s den A n c lg, .int .i64 fr] w fun e w' => e = .returned (.tuple #[smV 0 0 0, .bool false, .int .i64 9]) ∧ ∃ x, w' = gx w x := by
  have HC := Lib.hid (fun W b' (hW : ∃ x, W = gx w x) (hT : TkAt W b' s den A n c lg) => RCheckTracksT s hs b' 1 den A n c lg f W hT (by obtain ⟨x, rfl⟩ := hW; exact hL.gx))
  rw [hE] at HC
  have HO := Lib.hid (fun W => outsideP_any fr 0 4194303 true (hf.elim (fun h => .inr (.inl ⟨rfl, h⟩)) (fun h => .inr (.inr ⟨rfl, h.1, h.2⟩))) W)
  clear hE hf
  go_enter Tryz.func16, Tryz.ntmps16
  go_wp2_with (first | go_skip | (go_at_call 43; refine (HC.out _ _ (by repeat (first | (with_reducible exact Gx.refl _) | (with_reducible assumption) | (with_reducible refine Gx.gx ?_) | (with_reducible refine Gx.alloc ?_) | (with_reducible refine Gx.drew ?_) | (with_reducible refine Gx.drewN ?_) | (with_reducible refine Gx.setRow ?_ (by first | omega | (simp; done) | (simp <;> omega))) | (with_reducible refine Gx.setCell ?_ (by first | omega | (simp; done) | (simp <;> omega))))) (tkAt_new (t := 43) (by (focus (repeat (first | (with_reducible assumption) | (with_reducible exact At.new _ _) | (with_reducible refine At.row ?_) | ((with_reducible refine At.row_other ?_ ?_); rotate_left; (focus (simp <;> omega))) | (with_reducible refine At.app ?_) | (with_reducible refine At.tick ?_) | (with_reducible refine At.gx ?_) | ((with_reducible refine At.new' ?_); focus (simp; done)) | (with_reducible refine At.alloc ?_) | (with_reducible refine At.drew ?_) | (with_reducible exact Is.new _ _ _) | (with_reducible refine Is.row ?_) | ((with_reducible refine Is.row_other ?_ ?_); rotate_left; (focus (simp <;> omega))) | (with_reducible refine Is.gx ?_) | ((with_reducible refine Is.new' ?_); focus (simp; done)) | (with_reducible refine Is.alloc ?_) | (with_reducible refine Is.drew ?_))))))).mono ?_; rintro e w' ⟨rfl, x1, rfl⟩) | (go_at_call 30; refine (HO.out _).mono ?_; rintro e w' ⟨rfl, rfl⟩))
  exact bodyPost_ret (v := .tuple #[smV 0 0 0, .bool false, .int .i64 9]) (by simp [results, Tryz.results16, go_sem]) rfl ⟨rfl, (by repeat (first | (with_reducible exact Gx.refl _) | (with_reducible assumption) | (with_reducible refine Gx.gx ?_) | (with_reducible refine Gx.alloc ?_) | (with_reducible refine Gx.drew ?_) | (with_reducible refine Gx.drewN ?_) | (with_reducible refine Gx.setRow ?_ (by first | omega | (simp; done) | (simp <;> omega))) | (with_reducible refine Gx.setCell ?_ (by first | omega | (simp; done) | (simp <;> omega)))))⟩
set_option maxHeartbeats 4000000 in
set_option maxRecDepth 100000 in
theorem RValue_3 (s : ByteArray) (hs : s.size ≤ 9223372036854775807) (den : Int) (A : Option Addr) (n c : Nat) (lg : Int) (f : Nat → Sm) (fr : Int) (w : World) (hL : SmAt w f n A) (hE : tkE (nameT s) (serE den f n) lg = 0) (hf : 0 ≤ fr ∧ fr ≤ 4194303) (h0 : serE den f n = 0) (hl : 0 ≤ lg ∧ lg ≤ 1099511627776) (v : Sm) (b : Bool) (hv : heldV f (aheadN f (64 * fr + 64) n) (64 * fr + 63) lg = v) (hb : heldB f (aheadN f (64 * fr + 64) n) (64 * fr + 63) lg = b) :
    Calls Tryz.prog 16 #[trV s den A n c lg, .int .i64 fr] w fun e w' => e = .returned (.tuple #[smV v.t v.n v.m, .bool b, .int .i64 0]) ∧ ∃ x, w' = gx w x := by
  have HC := Lib.hid (fun W b' (hW : ∃ x, W = gx w x) (hT : TkAt W b' s den A n c lg) => RCheckTracksT s hs b' 1 den A n c lg f W hT (by obtain ⟨x, rfl⟩ := hW; exact hL.gx))
  rw [hE] at HC
  have HV := Lib.hid (fun W (hW : ∃ x, W = gx w x) => RvalueAt_any s den f n c A lg fr W (by obtain ⟨x, rfl⟩ := hW; exact hL.gx) h0 hf hl v b hv hb)
  have HO := Lib.hid (fun W => outsideP_any fr 0 4194303 false (.inl ⟨rfl, hf.1, hf.2⟩) W)
  clear hE hf h0 hl hv hb
  obtain ⟨t, N, m⟩ := v
  dsimp only at *
  go_enter Tryz.func16, Tryz.ntmps16
  go_wp2_with (first | go_skip | (go_at_call 43; refine (HC.out _ _ (by repeat (first | (with_reducible exact Gx.refl _) | (with_reducible assumption) | (with_reducible refine Gx.gx ?_) | (with_reducible refine Gx.alloc ?_) | (with_reducible refine Gx.drew ?_) | (with_reducible refine Gx.drewN ?_) | (with_reducible refine Gx.setRow ?_ (by first | omega | (simp; done) | (simp <;> omega))) | (with_reducible refine Gx.setCell ?_ (by first | omega | (simp; done) | (simp <;> omega))))) (tkAt_new (t := 43) (by (focus (repeat (first | (with_reducible assumption) | (with_reducible exact At.new _ _) | (with_reducible refine At.row ?_) | ((with_reducible refine At.row_other ?_ ?_); rotate_left; (focus (simp <;> omega))) | (with_reducible refine At.app ?_) | (with_reducible refine At.tick ?_) | (with_reducible refine At.gx ?_) | ((with_reducible refine At.new' ?_); focus (simp; done)) | (with_reducible refine At.alloc ?_) | (with_reducible refine At.drew ?_) | (with_reducible exact Is.new _ _ _) | (with_reducible refine Is.row ?_) | ((with_reducible refine Is.row_other ?_ ?_); rotate_left; (focus (simp <;> omega))) | (with_reducible refine Is.gx ?_) | ((with_reducible refine Is.new' ?_); focus (simp; done)) | (with_reducible refine Is.alloc ?_) | (with_reducible refine Is.drew ?_))))))).mono ?_; rintro e w' ⟨rfl, x1, rfl⟩) | (go_at_call 44; refine (HV.out _ (by repeat (first | (with_reducible exact Gx.refl _) | (with_reducible assumption) | (with_reducible refine Gx.gx ?_) | (with_reducible refine Gx.alloc ?_) | (with_reducible refine Gx.drew ?_) | (with_reducible refine Gx.drewN ?_) | (with_reducible refine Gx.setRow ?_ (by first | omega | (simp; done) | (simp <;> omega))) | (with_reducible refine Gx.setCell ?_ (by first | omega | (simp; done) | (simp <;> omega)))))).mono ?_; rintro e w' ⟨rfl, x2, rfl⟩) | (go_at_call 30; refine (HO.out _).mono ?_; rintro e w' ⟨rfl, rfl⟩))
  exact bodyPost_ret (v := .tuple #[smV t N m, .bool b, .int .i64 0]) (by simp [results, Tryz.results16, go_sem]) rfl ⟨rfl, (by repeat (first | (with_reducible exact Gx.refl _) | (with_reducible assumption) | (with_reducible refine Gx.gx ?_) | (with_reducible refine Gx.alloc ?_) | (with_reducible refine Gx.drew ?_) | (with_reducible refine Gx.drewN ?_) | (with_reducible refine Gx.setRow ?_ (by first | omega | (simp; done) | (simp <;> omega))) | (with_reducible refine Gx.setCell ?_ (by first | omega | (simp; done) | (simp <;> omega)))))⟩
theorem Value_both (s : ByteArray) (hs : s.size ≤ 9223372036854775807) (den : Int) (A : Option Addr) (n c : Nat) (lg : Int) (f : Nat → Sm) (fr : Int) : ∃ (t N m : Int) (B : Bool) (E : Int), (∀ W, SmAt W f n A → Calls Tryz.prog 15 #[trV s den A n c lg, .int .i64 fr] W fun e w' => e = .returned (.tuple #[smV t N m, .bool B, .int .i64 E]) ∧ ∃ x, w' = gx W x) ∧ (∀ W, SmAt W f n A → Calls Tryz.prog 16 #[trV s den A n c lg, .int .i64 fr] W fun e w' => e = .returned (.tuple #[smV t N m, .bool B, .int .i64 E]) ∧ ∃ x, w' = gx W x) := by
  by_cases h0 : tkE (nameT s) (serE den f n) lg = 0
  · by_cases hf : 0 ≤ fr ∧ fr ≤ 4194303
    · have hg : serE den f n = 0 ∧ 0 ≤ lg ∧ lg ≤ 1099511627776 := by
        rcases tkE_ways (nameT s) (serE den f n) lg with ⟨_, h⟩ | ⟨_, h1, h⟩ | ⟨_, h1, h2, h⟩ | ⟨_, h1, h2, h3, h⟩ | ⟨_, h1, h2, h3, h⟩
        · omega
        · omega
        · omega
        · omega
        · exact ⟨h1, h2, h3⟩
      exact ⟨_, _, _, _, 0, fun W hW => Value_3 s hs den A n c lg f fr W hW h0 hf hg.1 hg.2 _ _ rfl rfl, fun W hW => RValue_3 s hs den A n c lg f fr W hW h0 hf hg.1 hg.2 _ _ rfl rfl⟩
    · have hf' : fr < 0 ∨ (0 ≤ fr ∧ 4194303 < fr) := by omega
      exact ⟨0, 0, 0, false, 9, fun W hW => Value_2 s hs den A n c lg f fr W hW h0 hf', fun W hW => RValue_2 s hs den A n c lg f fr W hW h0 hf'⟩
  · exact ⟨0, 0, 0, false, _, fun W hW => Value_1 s hs den A n c lg f fr W hW _ rfl h0, fun W hW => RValue_1 s hs den A n c lg f fr W hW _ rfl h0⟩
set_option maxHeartbeats 4000000 in
set_option maxRecDepth 100000 in
theorem valLaw (s : ByteArray) (hs : s.size ≤ 9223372036854775807) (den : Int) (A : Option Addr) (n c : Nat) (lg : Int) (f : Nat → Sm) (fr : Int) (w : World) (hL : SmAt w f n A) :
    Calls Tryz.prog 4 #[trV s den A n c lg, .int .i64 fr] w fun e w' => e = .returned (.bool true) ∧ ∃ x, w' = gx w x := by
  obtain ⟨t, N, m, B, E, V1, V2⟩ := Value_both s hs den A n c lg f fr
  have H1 := Lib.hid (fun W (hW : ∃ x, W = gx w x) => V1 W (by obtain ⟨x, rfl⟩ := hW; exact hL.gx))
  have H2 := Lib.hid (fun W (hW : ∃ x, W = gx w x) => V2 W (by obtain ⟨x, rfl⟩ := hW; exact hL.gx))
  clear V1 V2 hL hs
  go_enter Tryz.func4, Tryz.ntmps4
  go_wp2_with (first
    | go_skip
    | (go_at_call 15; refine (H1.out _ (by repeat (first | (with_reducible exact Gx.refl _) | (with_reducible assumption) | (with_reducible refine Gx.gx ?_) | (with_reducible refine Gx.alloc ?_) | (with_reducible refine Gx.drew ?_) | (with_reducible refine Gx.drewN ?_) | (with_reducible refine Gx.setRow ?_ (by first | omega | (simp; done) | (simp <;> omega))) | (with_reducible refine Gx.setCell ?_ (by first | omega | (simp; done) | (simp <;> omega)))))).mono ?_; rintro e w' ⟨rfl, x1, rfl⟩)
    | (go_at_call 16; refine (H2.out _ (by repeat (first | (with_reducible exact Gx.refl _) | (with_reducible assumption) | (with_reducible refine Gx.gx ?_) | (with_reducible refine Gx.alloc ?_) | (with_reducible refine Gx.drew ?_) | (with_reducible refine Gx.drewN ?_) | (with_reducible refine Gx.setRow ?_ (by first | omega | (simp; done) | (simp <;> omega))) | (with_reducible refine Gx.setCell ?_ (by first | omega | (simp; done) | (simp <;> omega)))))).mono ?_; rintro e w' ⟨rfl, x2, rfl⟩)
    | (go_at_call 14; refine (shown_any _).mono ?_; rintro e w' ⟨rfl, x5, rfl⟩))
  go_ret
  exact ⟨rfl, (by repeat (first | (with_reducible exact Gx.refl _) | (with_reducible assumption) | (with_reducible refine Gx.gx ?_) | (with_reducible refine Gx.alloc ?_) | (with_reducible refine Gx.drew ?_) | (with_reducible refine Gx.drewN ?_) | (with_reducible refine Gx.setRow ?_ (by first | omega | (simp; done) | (simp <;> omega))) | (with_reducible refine Gx.setCell ?_ (by first | omega | (simp; done) | (simp <;> omega)))))⟩
end Go.Proofs.YtbhcjaejkplfeaaGreatDoor
