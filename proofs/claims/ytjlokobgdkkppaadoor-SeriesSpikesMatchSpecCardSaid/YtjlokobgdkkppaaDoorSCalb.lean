/-
  Calibrate, the program's: contracts.
-/
import Derived.Test.YtjlokobgdkkppaaDoorSMade
import Derived.Test.YtjlokobgdkkppaaDoorSApp
import Derived.Test.YtjlokobgdkkppaaDoorSHolds
import Derived.BigRegion
namespace Go.Proofs.YtjlokobgdkkppaaDoor
open Go.RowKit
-- AT2
-- AT3

theorem App.ex (g : Nat → Ln) (n : Nat) (lo hi v : Int) : ∃ m is, App g n lo hi v m is := by
  by_cases h : ∃ m, Can g n lo hi v m
  · obtain ⟨m, hm⟩ := h; exact ⟨m, true, .inl ⟨rfl, hm⟩⟩
  · exact ⟨0, false, .inr ⟨rfl, rfl, fun m hm => h ⟨m, hm⟩⟩⟩
/-- The sample y is what x is by the calibration. -/
def CalIs (L : Nat → Ln) (n : Nat) (lo hi : Int) (x y : Sm) : Prop := (x.m < 2 ∧ y = x) ∨ (2 ≤ x.m ∧ ∃ m is, App L n lo hi x.n m is ∧ y = (if is = true then (⟨x.t, m, x.m⟩ : Sm) else ⟨x.t, 0, 1⟩))
theorem CalIs.ex (L : Nat → Ln) (n : Nat) (lo hi : Int) (x : Sm) : ∃ y, CalIs L n lo hi x y := by
  by_cases h : x.m < 2
  · exact ⟨x, .inl ⟨h, rfl⟩⟩
  · obtain ⟨m, is, ha⟩ := App.ex L n lo hi x.n
    exact ⟨_, .inr ⟨by omega, m, is, ha, rfl⟩⟩
theorem papply_is {den : Int} {g : Nat → Ln} {n c : Nat} {A : Option Addr} {lo hi v m : Int} {is : Bool} (w : World) (hL : LnAt w g n A) (h0 : 0 < n) (hn : n ≤ 50) (hG : Good g n) (h : App g n lo hi v m is) :
    Calls Tryd.prog 84 #[calV den A n c lo hi, .int .i64 v] w fun e w' => e = .returned (.tuple #[.int .i64 m, .bool is]) ∧ ∃ x, w' = gx w x :=
  (apply_any den g n c A lo hi v w hL h0 hn hG).mono fun e w' ⟨m', is', he, h', hx⟩ => by
    obtain ⟨rfl, rfl⟩ := h'.eq hG h; exact ⟨he, hx⟩
theorem rapply_is {den : Int} {g : Nat → Ln} {n c : Nat} {A : Option Addr} {lo hi v m : Int} {is : Bool} (w : World) (hL : LnAt w g n A) (h0 : 0 < n) (hn : n ≤ 50) (hG : Good g n) (h : App g n lo hi v m is) :
    Calls Tryd.prog 86 #[calV den A n c lo hi, .int .i64 v] w fun e w' => e = .returned (.tuple #[.int .i64 m, .bool is]) ∧ ∃ x, w' = gx w x :=
  (Rapply_any den g n c A lo hi v w hL h0 hn hG).mono fun e w' ⟨m', is', he, h', hx⟩ => by
    obtain ⟨rfl, rfl⟩ := h'.eq hG h; exact ⟨he, hx⟩
set_option maxHeartbeats 2000000 in
set_option maxRecDepth 100000 in
theorem calibrated_any (den : Int) (L : Nat → Ln) (n c : Nat) (A : Option Addr) (lo hi : Int) (x y : Sm) (w : World) (hL : LnAt w L n A) (h0 : 0 < n) (hn : n ≤ 50) (hG : Good L n) (h : CalIs L n lo hi x y) :
    Calls Tryd.prog 48 #[smV x.t x.n x.m, calV den A n c lo hi] w fun e w' => e = .returned (smV y.t y.n y.m) ∧ ∃ z, w' = gx w z := by
  rcases h with ⟨h2, rfl⟩ | ⟨h2, m, is, ha, rfl⟩
  · have d : decide (2 ≤ y.m) = false := decide_eq_false (by omega)
    clear h2
    obtain ⟨t, nn, mm⟩ := y
    simp only at d ⊢
    go_enter Tryd.func48, Tryd.ntmps48
    go_wp2_with (go_at_call 77; refine (hasNumber_any _ _ _ _).mono ?_; rw [d]; rintro e w' ⟨rfl, z, rfl⟩)
    exact bodyPost_ret (v := smV t nn mm) (by simp [results, Tryd.results48, go_sem]) rfl ⟨rfl, (by repeat (first | (with_reducible exact Gx.refl _) | (with_reducible assumption) | (with_reducible refine Gx.gx ?_) | (with_reducible refine Gx.alloc ?_) | (with_reducible refine Gx.drew ?_) | (with_reducible refine Gx.drewN ?_) | (with_reducible refine Gx.setRow ?_ (by first | omega | (simp; done) | (simp <;> omega))) | (with_reducible refine Gx.setCell ?_ (by first | omega | (simp; done) | (simp <;> omega)))))⟩
  · have d : decide (2 ≤ x.m) = true := decide_eq_true h2
    have HA := fun W (hW : LnAt W L n A) => papply_is (den := den) (c := c) W hW h0 hn hG ha
    have hLw : LnAt (((w.alloc (.cells #[.int .i64 x.t, .int .i64 x.n, .int .i64 x.m] 61)).alloc (.cells #[.int .i64 den, .slice A n c, .int .i64 lo, .int .i64 hi] 39)).alloc (.cells #[.int .i64 0, .int .i64 0, .int .i64 0] 61)) L n A := by
      rw [alloc_is, alloc_is, alloc_is]; exact hL.gx.gx.gx
    clear h2 ha hL
    obtain ⟨t, nn, mm⟩ := x
    simp only at d hLw HA ⊢
    cases is with
    | false =>
      rw [if_neg (by decide)]
      go_enter Tryd.func48, Tryd.ntmps48
      go_wp2_with first
        | (go_at_call 77; refine (hasNumber_any _ _ _ _).mono ?_; rw [d]; rintro e w' ⟨rfl, z, rfl⟩)
        | (go_at_call 84; refine (HA _ hLw.gx).mono ?_; rintro e w' ⟨rfl, z, rfl⟩)
      exact bodyPost_ret (v := smV t 0 1) (by simp [results, Tryd.results48, go_sem]) rfl ⟨rfl, (by repeat (first | (with_reducible exact Gx.refl _) | (with_reducible assumption) | (with_reducible refine Gx.gx ?_) | (with_reducible refine Gx.alloc ?_) | (with_reducible refine Gx.drew ?_) | (with_reducible refine Gx.drewN ?_) | (with_reducible refine Gx.setRow ?_ (by first | omega | (simp; done) | (simp <;> omega))) | (with_reducible refine Gx.setCell ?_ (by first | omega | (simp; done) | (simp <;> omega)))))⟩
    | true =>
      rw [if_pos rfl]
      go_enter Tryd.func48, Tryd.ntmps48
      go_wp2_with first
        | (go_at_call 77; refine (hasNumber_any _ _ _ _).mono ?_; rw [d]; rintro e w' ⟨rfl, z, rfl⟩)
        | (go_at_call 84; refine (HA _ hLw.gx).mono ?_; rintro e w' ⟨rfl, z, rfl⟩)
      exact bodyPost_ret (v := smV t m mm) (by simp [results, Tryd.results48, go_sem]) rfl ⟨rfl, (by repeat (first | (with_reducible exact Gx.refl _) | (with_reducible assumption) | (with_reducible refine Gx.gx ?_) | (with_reducible refine Gx.alloc ?_) | (with_reducible refine Gx.drew ?_) | (with_reducible refine Gx.drewN ?_) | (with_reducible refine Gx.setRow ?_ (by first | omega | (simp; done) | (simp <;> omega))) | (with_reducible refine Gx.setCell ?_ (by first | omega | (simp; done) | (simp <;> omega)))))⟩
/-- What Calibrate returns: a series, and an error. -/
def SerPost (w : World) (den : Int) (g : Nat → Sm) (n : Nat) (er : Int) (e : Ending) (w' : World) : Prop := ∃ A c x, e = .returned (.tuple #[serV den A n c, .int .i64 er]) ∧ w' = gx w x ∧ SmAt w' g n A
theorem SerPost.mk {w w' : World} {den er : Int} {g : Nat → Sm} {n c : Nat} {A : Option Addr} (hw : ∃ x, w' = gx w x) (h : SmAt w' g n A) : SerPost w den g n er (.returned (.tuple #[serV den A n c, .int .i64 er])) w' := by
  obtain ⟨x, rfl⟩ := hw
  exact ⟨A, c, x, rfl, rfl, h⟩
theorem LnAt.alloc {w : World} {g : Nat → Ln} {n : Nat} {A : Option Addr} {o : Obj} (h : LnAt w g n A) : LnAt (w.alloc o) g n A := by rw [alloc_is]; exact h.gx
/-- What Calibrate has at hand in its loop. -/
structure CbSt (w wr : World) (gM g8 : Nat) (n k : Nat) (f : Nat → Sm) (sB cB rB tB : Array Value) : Prop where
  grew : ∃ x, wr = gx w x
  made : MadeAt wr gM n k f
  ser : At wr w.heap.size (.cells sB 24 (0, 0))
  cal : At wr (w.heap.size + 1) (.cells cB 39 (0, 0))
  res : At wr (w.heap.size + 2) (.cells rB 24 (0, 0))
  told : At wr g8 (.cells tB 24 (0, 0))
  far : w.heap.size + 2 < gM ∧ w.heap.size + 2 < g8 ∧ gM ≠ g8
theorem CbSt.step {w wr : World} {gM g8 n k : Nat} {f : Nat → Sm} {sB cB rB tB : Array Value} (h : CbSt w wr gM g8 n k f sB cB rB tB) (hk : k < n) {o : Obj} {x : Ext} {t' n' m' : Int} (ht : (f k).t = t') (hn : (f k).n = n') (hm : (f k).m = m') :
    CbSt w (gx ((((wr.setCell ⟨gM, k * 3, none⟩ (.int .i64 t')).setCell ⟨gM, k * 3 + 1, none⟩ (.int .i64 n')).setCell ⟨gM, k * 3 + 2, none⟩ (.int .i64 m')).alloc o) x) gM g8 n (k + 1) f sB cB rB tB := by
  obtain ⟨f1, f2, f3⟩ := h.far
  refine ⟨?_, (h.made.put hk ht hn hm).alloc.gx, ?_, ?_, ?_, ?_, h.far⟩
  · exact Gx.gx (Gx.alloc (Gx.setCell (Gx.setCell (Gx.setCell h.grew (by omega)) (by omega)) (by omega)))
  · exact (At.setc_other (At.setc_other (At.setc_other h.ser (by omega)) (by omega)) (by omega)).alloc.gx
  · exact (At.setc_other (At.setc_other (At.setc_other h.cal (by omega)) (by omega)) (by omega)).alloc.gx
  · exact (At.setc_other (At.setc_other (At.setc_other h.res (by omega)) (by omega)) (by omega)).alloc.gx
  · exact (At.setc_other (At.setc_other (At.setc_other h.told f3) f3) f3).alloc.gx
theorem SmAt.none (w : World) (g : Nat → Sm) (A : Option Addr) : SmAt w g 0 A := SmAt.mk fun h => by omega
set_option maxHeartbeats 2000000 in
set_option maxRecDepth 100000 in
theorem Calibrate_go (den : Int) (g : Nat → Sm) (n c : Nat) (A : Option Addr) (cden : Int) (L : Nat → Ln) (nl cl : Nat) (B : Option Addr) (lo hi : Int) (w : World) (hL : SmAt w g n A) (hB : LnAt w L nl B)
    (h1 : serE den g n = 0) (h2 : calE cden L nl lo hi = 0) (h3 : den = 1) (f : Nat → Sm) (hf : ∀ i, CalIs L nl lo hi (g i) (f i)) :
    Calls Tryd.prog 20 #[serV den A n c, calV cden B nl cl lo hi] w (SerPost w cden f n 0) := by
  subst h3
  obtain ⟨_, hn, hG⟩ := goodS_of h1
  obtain ⟨g1, g2, g3, _⟩ := calE_ok h2
  have hLw : SmAt (((w.alloc (.cells #[.int .i64 1, .slice A n c] 24)).alloc (.cells #[.int .i64 cden, .slice B nl cl, .int .i64 lo, .int .i64 hi] 39)).alloc (.cells #[.int .i64 0, .slice none 0 0] 24)) g n A := hL.alloc.alloc.alloc
  have hBw : LnAt (((w.alloc (.cells #[.int .i64 1, .slice A n c] 24)).alloc (.cells #[.int .i64 cden, .slice B nl cl, .int .i64 lo, .int .i64 hi] 39)).alloc (.cells #[.int .i64 0, .slice none 0 0] 24)) L nl B := by
    rw [alloc_is, alloc_is, alloc_is]; exact hB.gx.gx.gx
  have HC := fun W h => Check_any 1 g n c A W h
  have HD := fun W h => CheckCal_any cden L nl cl B lo hi W h
  rw [h1] at HC
  rw [h2] at HD
  clear h1 h2
  obtain ⟨C, hC, hmk⟩ := make_sms n (by omega)
  go_enter Tryd.func20, Tryd.ntmps20
  go_wp2_with first
    | (go_at_call 12; refine (HC _ hLw).mono ?_; rintro e w' ⟨rfl, z1, rfl⟩)
    | (go_at_call 47; refine (HD _ hBw.gx).mono ?_; rintro e w' ⟨rfl, z2, rfl⟩)
  go_region
  · rename_i Q' K hK
    refine hK _ _ ?_
    go_wp2
    obtain ⟨gM, hgM⟩ : ∃ gM, gM = w.heap.size + 1 + 1 + 1 + ((z1.app z2).tick 1).n := ⟨_, rfl⟩
    obtain ⟨g8, hg8⟩ : ∃ g8, g8 = w.heap.size + 1 + 1 + 1 + ((z1.app z2).tick 1).n + 1 := ⟨_, rfl⟩
    rw [← hg8, ← hgM]
    have HgM := Lib.hid hgM
    have Hg8 := Lib.hid hg8
    clear hgM hg8
    go_loopw [37] (fun i wr => ∃ k : Nat, k ≤ n ∧ i = .int .i64 k ∧ CbSt w wr gM g8 n k f #[.int .i64 1, .slice A n c] #[.int .i64 cden, .slice B nl cl, .int .i64 lo, .int .i64 hi] #[.int .i64 0, .slice none 0 0] #[.int .i64 cden, .slice (some ⟨gM, 0, none⟩) n n]) (fun i _ => n - (intOf i).toNat)
    case atStart =>
      have e1 := HgM.out
      have e2 := Hg8.out
      refine ⟨0, Nat.zero_le _, rfl, ⟨(by repeat (first | (with_reducible exact Gx.refl _) | (with_reducible assumption) | (with_reducible refine Gx.gx ?_) | (with_reducible refine Gx.alloc ?_) | (with_reducible refine Gx.drew ?_) | (with_reducible refine Gx.drewN ?_) | (with_reducible refine Gx.setRow ?_ (by first | omega | (simp; done) | (simp <;> omega))) | (with_reducible refine Gx.setCell ?_ (by first | omega | (simp; done) | (simp <;> omega))))), MadeAt.new (C := C) ?_ hC, ?_, ?_, ?_, ?_, by omega⟩⟩
      all_goals first | (refine At.new' ?_; simp; omega) | (refine At.alloc (At.new' ?_); simp; omega) | ((focus (repeat (first | (with_reducible assumption) | (with_reducible exact At.new _ _) | (with_reducible refine At.row ?_) | ((with_reducible refine At.row_other ?_ ?_); rotate_left; (focus (simp <;> omega))) | (with_reducible refine At.app ?_) | (with_reducible refine At.tick ?_) | (with_reducible refine At.gx ?_) | ((with_reducible refine At.new' ?_); focus (simp; done)) | (with_reducible refine At.alloc ?_) | (with_reducible refine At.drew ?_) | (with_reducible exact Is.new _ _ _) | (with_reducible refine Is.row ?_) | ((with_reducible refine Is.row_other ?_ ?_); rotate_left; (focus (simp <;> omega))) | (with_reducible refine Is.gx ?_) | ((with_reducible refine Is.new' ?_); focus (simp; done)) | (with_reducible refine Is.alloc ?_) | (with_reducible refine Is.drew ?_)))); done)
    case round =>
      obtain ⟨k, hk, rfl, hst⟩ := hrel
      have q8 : wr.cell? ⟨g8, 1, none⟩ = some (.slice (some ⟨gM, 0, none⟩) n n) := by rw [cell_of_row wr _ _ _ _ _ hst.told]; rfl
      have hl8 : g8 < wr.heap.size := hst.told.lt
      have hlM : gM < wr.heap.size := hst.made.lt
      by_cases hlt : k < n
      · obtain ⟨b, o, rfl, hbw, HCs⟩ := hL.get (by omega)
        obtain ⟨c1, c2, c3⟩ := HCs.out k hlt
        obtain ⟨x, hx⟩ := hst.grew
        have d1 : wr.cell? ⟨b, o + k * 3, none⟩ = some (.int .i64 (g k).t) := by rw [hx]; exact cell_keep_gx c1
        have d2 : wr.cell? ⟨b, o + k * 3 + 1, none⟩ = some (.int .i64 (g k).n) := by rw [hx]; exact cell_keep_gx c2
        have d3 : wr.cell? ⟨b, o + k * 3 + 2, none⟩ = some (.int .i64 (g k).m) := by rw [hx]; exact cell_keep_gx c3
        have hcal : ∀ j v, (#[.int .i64 cden, .slice B nl cl, .int .i64 lo, .int .i64 hi] : Array Value)[j]? = some v → wr.cell? ⟨w.heap.size + 1, j, none⟩ = some v := fun j v e => by rw [cell_of_row wr _ _ _ _ _ hst.cal]; exact e
        have t0 := hcal 0 _ rfl
        have t1 := hcal 1 _ rfl
        have t2 := hcal 2 _ rfl
        have t3 := hcal 3 _ rfl
        have hlc : w.heap.size + 1 < wr.heap.size := hst.cal.lt
        have hlw0 : w.heap.size < wr.heap.size := by omega
        have hBr : LnAt wr L nl B := by rw [hx]; exact hB.gx
        have HCal := Lib.hid (fun W (h : LnAt W L nl B) => calibrated_any cden L nl cl B lo hi (g k) (f k) W h g1 g2 g3 (hf k))
        obtain ⟨a0, ha0⟩ := hst.made.all (k * 3) (by omega)
        obtain ⟨a1, ha1⟩ := hst.made.all (k * 3 + 1) (by omega)
        obtain ⟨a2, ha2⟩ := hst.made.all (k * 3 + 2) (by omega)
        have fz0 := hst.made.frz (o := k * 3)
        have fz1 := hst.made.frz (o := k * 3 + 1)
        have fz2 := hst.made.frz (o := k * 3 + 2)
        have HS := Lib.hid hst
        obtain ⟨ft, hft⟩ : ∃ y, (f k).t = y := ⟨_, rfl⟩
        obtain ⟨fn, hfn⟩ : ∃ y, (f k).n = y := ⟨_, rfl⟩
        obtain ⟨fm, hfm⟩ : ∃ y, (f k).m = y := ⟨_, rfl⟩
        rw [hft, hfn, hfm] at HCal
        have Hft := Lib.hid hft
        have Hfn := Lib.hid hfn
        have Hfm := Lib.hid hfm
        clear hst hx c1 c2 c3 hcal hft hfn hfm
        generalize (g k).t = xt at *
        generalize (g k).n = xn at *
        generalize (g k).m = xm at *
        go_wp2
        first | (with_reducible refine region_gx_tail 7 (by kernel_rfl) (by kernel_rfl) ?_) | (with_reducible refine region_w_tail 7 (by kernel_rfl) (by kernel_rfl) ?_)
        simp only [List.take_succ_cons, List.take_zero, List.drop_succ_cons, List.drop_zero]
        repeat (any_goals (first | (refine quiet_fr rfl _ rfl _ rfl ?_ ?_ ?_ ?_; rotate_left; (focus (rintro _ ⟨x, rfl⟩; (focus (repeat (first | (with_reducible assumption) | (with_reducible exact At.new _ _) | (with_reducible refine At.row ?_) | ((with_reducible refine At.row_other ?_ ?_); rotate_left; (focus (simp <;> omega))) | (with_reducible refine At.app ?_) | (with_reducible refine At.tick ?_) | (with_reducible refine At.gx ?_) | ((with_reducible refine At.new' ?_); focus (simp; done)) | (with_reducible refine At.alloc ?_) | (with_reducible refine At.drew ?_) | (with_reducible exact Is.new _ _ _) | (with_reducible refine Is.row ?_) | ((with_reducible refine Is.row_other ?_ ?_); rotate_left; (focus (simp <;> omega))) | (with_reducible refine Is.gx ?_) | ((with_reducible refine Is.new' ?_); focus (simp; done)) | (with_reducible refine Is.alloc ?_) | (with_reducible refine Is.drew ?_)))))); (focus (with_reducible (first | exact hl | exact hl1 | exact hl2 | exact hl3 | exact hl4 | exact zeroF_len)))) | go_big_quiet_step ((first | (go_at_call 48; exact calls_gx (HCal.out _ hBr.alloc.gx)))) | quiet_step ((first | (go_at_call 48; exact calls_gx (HCal.out _ hBr.alloc.gx))))))
        refine wpQuiet_nil ?_
        rintro _ ⟨x, rfl⟩
        go_wp2
        go_roundw
        case rel => exact ⟨k + 1, by omega, by go_num, HS.out.step hlt Hft.out Hfn.out Hfm.out⟩
        case measure => simp [intOf]; omega
      · obtain rfl : k = n := by omega
        have qr : wr.cell? ⟨w.heap.size + 1 + 1, 0, none⟩ = some (.int .i64 0) := by rw [cell_of_row wr _ _ _ _ _ hst.res]; rfl
        have qr1 : wr.cell? ⟨w.heap.size + 1 + 1, 1, none⟩ = some (.slice none 0 0) := by rw [cell_of_row wr _ _ _ _ _ hst.res]; rfl
        have q80 : wr.cell? ⟨g8, 0, none⟩ = some (.int .i64 cden) := by rw [cell_of_row wr _ _ _ _ _ hst.told]; rfl
        have qf : ∀ o, wr.frozen? ⟨w.heap.size + 1 + 1, o, none⟩ = false := fun o => hst.res.frz
        have qf0 := qf 0
        have qf1 := qf 1
        have HS := Lib.hid hst
        have hlr : w.heap.size + 1 + 1 < wr.heap.size := hst.res.lt
        have hne : gM ≠ w.heap.size + 1 + 1 := by have := hst.far.1; omega
        clear hst qf
        go_wp2
        refine bodyPost_ret (v := .tuple #[serV cden (some ⟨gM, 0, none⟩) k k, .int .i64 0]) (by simp [results, Tryd.results20, go_sem, qr, qr1]) rfl ?_
        exact SerPost.mk (Gx.setCell (Gx.setCell HS.out.grew (by omega)) (by omega)) ((HS.out.made.far (Ne.symm hne)).far (Ne.symm hne)).sm
  · rename_i Q' K hK
    refine hK _ _ ?_
    go_wp2
    obtain ⟨gM, hgM⟩ : ∃ gM, gM = w.heap.size + 1 + 1 + 1 + ((z1.app z2).tick 1).n + 1 := ⟨_, rfl⟩
    obtain ⟨g8, hg8⟩ : ∃ g8, g8 = w.heap.size + 1 + 1 + 1 + ((z1.app z2).tick 1).n := ⟨_, rfl⟩
    rw [← hgM, ← hg8]
    have HgM := Lib.hid hgM
    have Hg8 := Lib.hid hg8
    clear hgM hg8
    go_loopw [37] (fun i wr => ∃ k : Nat, k ≤ n ∧ i = .int .i64 k ∧ CbSt w wr gM g8 n k f #[.int .i64 1, .slice A n c] #[.int .i64 cden, .slice B nl cl, .int .i64 lo, .int .i64 hi] #[.int .i64 0, .slice none 0 0] #[.int .i64 cden, .slice (some ⟨gM, 0, none⟩) n n]) (fun i _ => n - (intOf i).toNat)
    case atStart =>
      have e1 := HgM.out
      have e2 := Hg8.out
      refine ⟨0, Nat.zero_le _, rfl, ⟨(by repeat (first | (with_reducible exact Gx.refl _) | (with_reducible assumption) | (with_reducible refine Gx.gx ?_) | (with_reducible refine Gx.alloc ?_) | (with_reducible refine Gx.drew ?_) | (with_reducible refine Gx.drewN ?_) | (with_reducible refine Gx.setRow ?_ (by first | omega | (simp; done) | (simp <;> omega))) | (with_reducible refine Gx.setCell ?_ (by first | omega | (simp; done) | (simp <;> omega))))), MadeAt.new (C := C) ?_ hC, ?_, ?_, ?_, ?_, by omega⟩⟩
      all_goals first | (refine At.new' ?_; simp; omega) | (refine At.alloc (At.new' ?_); simp; omega) | ((focus (repeat (first | (with_reducible assumption) | (with_reducible exact At.new _ _) | (with_reducible refine At.row ?_) | ((with_reducible refine At.row_other ?_ ?_); rotate_left; (focus (simp <;> omega))) | (with_reducible refine At.app ?_) | (with_reducible refine At.tick ?_) | (with_reducible refine At.gx ?_) | ((with_reducible refine At.new' ?_); focus (simp; done)) | (with_reducible refine At.alloc ?_) | (with_reducible refine At.drew ?_) | (with_reducible exact Is.new _ _ _) | (with_reducible refine Is.row ?_) | ((with_reducible refine Is.row_other ?_ ?_); rotate_left; (focus (simp <;> omega))) | (with_reducible refine Is.gx ?_) | ((with_reducible refine Is.new' ?_); focus (simp; done)) | (with_reducible refine Is.alloc ?_) | (with_reducible refine Is.drew ?_)))); done)
    case round =>
      obtain ⟨k, hk, rfl, hst⟩ := hrel
      have q8 : wr.cell? ⟨g8, 1, none⟩ = some (.slice (some ⟨gM, 0, none⟩) n n) := by rw [cell_of_row wr _ _ _ _ _ hst.told]; rfl
      have hl8 : g8 < wr.heap.size := hst.told.lt
      have hlM : gM < wr.heap.size := hst.made.lt
      by_cases hlt : k < n
      · obtain ⟨b, o, rfl, hbw, HCs⟩ := hL.get (by omega)
        obtain ⟨c1, c2, c3⟩ := HCs.out k hlt
        obtain ⟨x, hx⟩ := hst.grew
        have d1 : wr.cell? ⟨b, o + k * 3, none⟩ = some (.int .i64 (g k).t) := by rw [hx]; exact cell_keep_gx c1
        have d2 : wr.cell? ⟨b, o + k * 3 + 1, none⟩ = some (.int .i64 (g k).n) := by rw [hx]; exact cell_keep_gx c2
        have d3 : wr.cell? ⟨b, o + k * 3 + 2, none⟩ = some (.int .i64 (g k).m) := by rw [hx]; exact cell_keep_gx c3
        have hcal : ∀ j v, (#[.int .i64 cden, .slice B nl cl, .int .i64 lo, .int .i64 hi] : Array Value)[j]? = some v → wr.cell? ⟨w.heap.size + 1, j, none⟩ = some v := fun j v e => by rw [cell_of_row wr _ _ _ _ _ hst.cal]; exact e
        have t0 := hcal 0 _ rfl
        have t1 := hcal 1 _ rfl
        have t2 := hcal 2 _ rfl
        have t3 := hcal 3 _ rfl
        have hlc : w.heap.size + 1 < wr.heap.size := hst.cal.lt
        have hlw0 : w.heap.size < wr.heap.size := by omega
        have hBr : LnAt wr L nl B := by rw [hx]; exact hB.gx
        have HCal := Lib.hid (fun W (h : LnAt W L nl B) => calibrated_any cden L nl cl B lo hi (g k) (f k) W h g1 g2 g3 (hf k))
        obtain ⟨a0, ha0⟩ := hst.made.all (k * 3) (by omega)
        obtain ⟨a1, ha1⟩ := hst.made.all (k * 3 + 1) (by omega)
        obtain ⟨a2, ha2⟩ := hst.made.all (k * 3 + 2) (by omega)
        have fz0 := hst.made.frz (o := k * 3)
        have fz1 := hst.made.frz (o := k * 3 + 1)
        have fz2 := hst.made.frz (o := k * 3 + 2)
        have HS := Lib.hid hst
        obtain ⟨ft, hft⟩ : ∃ y, (f k).t = y := ⟨_, rfl⟩
        obtain ⟨fn, hfn⟩ : ∃ y, (f k).n = y := ⟨_, rfl⟩
        obtain ⟨fm, hfm⟩ : ∃ y, (f k).m = y := ⟨_, rfl⟩
        rw [hft, hfn, hfm] at HCal
        have Hft := Lib.hid hft
        have Hfn := Lib.hid hfn
        have Hfm := Lib.hid hfm
        clear hst hx c1 c2 c3 hcal hft hfn hfm
        generalize (g k).t = xt at *
        generalize (g k).n = xn at *
        generalize (g k).m = xm at *
        go_wp2
        first | (with_reducible refine region_gx_tail 7 (by kernel_rfl) (by kernel_rfl) ?_) | (with_reducible refine region_w_tail 7 (by kernel_rfl) (by kernel_rfl) ?_)
        simp only [List.take_succ_cons, List.take_zero, List.drop_succ_cons, List.drop_zero]
        repeat (any_goals (first | (refine quiet_fr rfl _ rfl _ rfl ?_ ?_ ?_ ?_; rotate_left; (focus (rintro _ ⟨x, rfl⟩; (focus (repeat (first | (with_reducible assumption) | (with_reducible exact At.new _ _) | (with_reducible refine At.row ?_) | ((with_reducible refine At.row_other ?_ ?_); rotate_left; (focus (simp <;> omega))) | (with_reducible refine At.app ?_) | (with_reducible refine At.tick ?_) | (with_reducible refine At.gx ?_) | ((with_reducible refine At.new' ?_); focus (simp; done)) | (with_reducible refine At.alloc ?_) | (with_reducible refine At.drew ?_) | (with_reducible exact Is.new _ _ _) | (with_reducible refine Is.row ?_) | ((with_reducible refine Is.row_other ?_ ?_); rotate_left; (focus (simp <;> omega))) | (with_reducible refine Is.gx ?_) | ((with_reducible refine Is.new' ?_); focus (simp; done)) | (with_reducible refine Is.alloc ?_) | (with_reducible refine Is.drew ?_)))))); (focus (with_reducible (first | exact hl | exact hl1 | exact hl2 | exact hl3 | exact hl4 | exact zeroF_len)))) | go_big_quiet_step ((first | (go_at_call 48; exact calls_gx (HCal.out _ hBr.alloc.gx)))) | quiet_step ((first | (go_at_call 48; exact calls_gx (HCal.out _ hBr.alloc.gx))))))
        refine wpQuiet_nil ?_
        rintro _ ⟨x, rfl⟩
        go_wp2
        go_roundw
        case rel => exact ⟨k + 1, by omega, by go_num, HS.out.step hlt Hft.out Hfn.out Hfm.out⟩
        case measure => simp [intOf]; omega
      · obtain rfl : k = n := by omega
        have qr : wr.cell? ⟨w.heap.size + 1 + 1, 0, none⟩ = some (.int .i64 0) := by rw [cell_of_row wr _ _ _ _ _ hst.res]; rfl
        have qr1 : wr.cell? ⟨w.heap.size + 1 + 1, 1, none⟩ = some (.slice none 0 0) := by rw [cell_of_row wr _ _ _ _ _ hst.res]; rfl
        have q80 : wr.cell? ⟨g8, 0, none⟩ = some (.int .i64 cden) := by rw [cell_of_row wr _ _ _ _ _ hst.told]; rfl
        have qf : ∀ o, wr.frozen? ⟨w.heap.size + 1 + 1, o, none⟩ = false := fun o => hst.res.frz
        have qf0 := qf 0
        have qf1 := qf 1
        have HS := Lib.hid hst
        have hlr : w.heap.size + 1 + 1 < wr.heap.size := hst.res.lt
        have hne : gM ≠ w.heap.size + 1 + 1 := by have := hst.far.1; omega
        clear hst qf
        go_wp2
        refine bodyPost_ret (v := .tuple #[serV cden (some ⟨gM, 0, none⟩) k k, .int .i64 0]) (by simp [results, Tryd.results20, go_sem, qr, qr1]) rfl ?_
        exact SerPost.mk (Gx.setCell (Gx.setCell HS.out.grew (by omega)) (by omega)) ((HS.out.made.far (Ne.symm hne)).far (Ne.symm hne)).sm
end Go.Proofs.YtjlokobgdkkppaaDoor
