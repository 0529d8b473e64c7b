/-
  FleetPeakMatchesSpec: the law's walk.
-/
import Derived.Test.YtfbhjgaiejjfaaaFMd
import Derived.Test.YtfbhjgaiejjfaaaFTot
namespace Go.Proofs.Ytfbhjgaiejjfaaa
open Go.RowKit
-- AT2
-- AT3

theorem crs_mono {n N M : Int} (h : 1 ≤ n) (hNM : N ≤ M) : fl N n * n ≤ fl M n * n := by
  have h1 := fl_pos (a := N) (b := n) (by omega)
  have h2 := fl_pos (a := M) (b := n) (by omega)
  have h3 : fl N n ≤ fl M n := by
    rcases Int.lt_or_le (fl M n) (fl N n) with q | q
    · have := mul_lt (a := n) (x := fl M n) (y := fl N n) (by omega) q
      omega
    · exact q
  exact Int.mul_le_mul_of_nonneg_right h3 (by omega)
theorem czN_mono {n N M : Int} (h : 1 ≤ n) (hNM : N ≤ M) : czN n N ≤ czN n M := by
  have := crs_mono h hNM
  unfold czN; omega
theorem czN_in {n N : Int} (h : 1 ≤ n) (hN : -1125899906842624 ≤ N ∧ N ≤ 1125899906842624) : -1125899906842624 ≤ czN n N ∧ czN n N ≤ 1125899906842624 := by
  have := crs_in (N := N) h
  unfold czN; omega
theorem mxF_t (f : Nat → Sm) (g : Int) (n i : Nat) : (mxF f g n i).t = (f i).t ∧ (mxF f g n i).m = (f i).m := by
  unfold mxF; split <;> exact ⟨rfl, rfl⟩
theorem mxF_n {f : Nat → Sm} {g : Int} {n i : Nat} (hi : i < n) (hm : 2 ≤ (f i).m) : (mxF f g n i).n = czN g (f i).n := by
  unfold mxF; rw [if_pos ⟨hi, hm⟩]
theorem inW_mx (f : Nat → Sm) (g : Int) (n i : Nat) (fr to : Int) : inW fr to (mxF f g n i) ↔ inW fr to (f i) := by
  obtain ⟨h1, h2⟩ := mxF_t f g n i
  rw [inW_iff, inW_iff, h1, h2]
theorem good_mx {den : Int} {f : Nat → Sm} {n : Nat} {g : Int} (hg : 1 ≤ g) (h : serE den f n = 0) : serE den (mxF f g n) n = 0 := by
  obtain ⟨hd, hn, hG⟩ := goodS_of h
  refine goodS_back hd hn ⟨fun i hi => ?_, fun i hi hm => ?_, fun i hi => ?_⟩
  · have hok := hG.ok i hi
    unfold smOk at hok
    obtain ⟨a1, a2, a3, a4, a5, a6⟩ := hok
    obtain ⟨h1, h2⟩ := mxF_t f g n i
    by_cases hm : 2 ≤ (f i).m
    · have := czN_in hg ⟨a3, a4⟩
      unfold smOk
      rw [h1, h2, mxF_n hi hm]
      exact ⟨a1, a2, this.1, this.2, a5, a6⟩
    · have e : mxF f g n i = f i := by unfold mxF; rw [if_neg fun q => hm q.2]
      rw [e]; unfold smOk; exact ⟨a1, a2, a3, a4, a5, a6⟩
  · obtain ⟨h1, h2⟩ := mxF_t f g n i
    rw [h2] at hm
    have e : mxF f g n i = f i := by unfold mxF; rw [if_neg fun q => by omega]
    rw [e]; exact hG.num i hi hm
  · rw [(mxF_t f g n i).1, (mxF_t f g n (i + 1)).1]; exact hG.rise i hi
/-- The peak under the grain. -/
@[irreducible] def pkG (g V : Int) (B : Bool) : Int := if B = true then czN g V else 0
theorem isMx_mx {f : Nat → Sm} {n : Nat} {fr to V g : Int} {B : Bool} (hg : 1 ≤ g) (h : IsMx f n fr to V B) : IsMx (mxF f g n) n fr to (pkG g V B) B := by
  rcases h.out with ⟨rfl, ⟨k, hk, hi, hv⟩, hm⟩ | ⟨rfl, rfl, hno⟩
  · unfold pkG
    rw [if_pos rfl]
    have m3 : ∀ i, inW fr to (f i) → 2 ≤ (f i).m := fun i h => by have := inW_iff.1 h; omega
    refine IsMx.yes ⟨k, hk, (inW_mx ..).2 hi, by rw [mxF_n hk (m3 k hi), hv]⟩ fun i hi' hw => ?_
    have hw' := (inW_mx ..).1 hw
    rw [mxF_n hi' (m3 i hw')]
    exact czN_mono hg (hm i hi' hw')
  · unfold pkG
    rw [if_neg (by decide)]
    exact IsMx.no fun i hi hw => hno i hi ((inW_mx ..).1 hw)
theorem isMx_pk {f : Nat → Sm} {n : Nat} {fr to V : Int} {B : Bool} (h : IsMx f n fr to V B) (hB : B = false) : V = 0 := by
  rcases h.out with ⟨h1, -⟩ | ⟨-, h2, -⟩
  · rw [hB] at h1; exact absurd h1 (by decide)
  · exact h2
theorem isPk_under {J J' : Nat → TkR} {n : Nat} {b : ByteArray} {g fr to V : Int} {B : Bool} (hg : 1 ≤ g) (hU : ∀ i, i < n → UnderG b g (J i) (J' i)) (h : IsPk J n b fr to V B) : IsPk J' n b fr to (pkG g V B) B := by
  rcases h.out with ⟨K, hK, he, hm⟩ | ⟨hno, rfl, rfl⟩
  · have u := hU K hK
    unfold IsPk
    refine .inl ⟨K, hK, u.s.trans he, ?_⟩
    rw [u.f, u.n, if_pos he.symm]
    exact isMx_mx hg hm
  · unfold IsPk pkG
    refine .inr ⟨fun i hi => by rw [(hU i hi).s]; exact hno i hi, by rw [if_neg (by decide)], rfl⟩
theorem good_under {J J' : Nat → TkR} {n : Nat} {b : ByteArray} {g : Int} (hg : 1 ≤ g) (hU : ∀ i, i < n → UnderG b g (J i) (J' i)) (h : GoodTks J n) : GoodTks J' n := by
  obtain ⟨h1, h2, h3⟩ := h.out
  unfold GoodTks
  refine ⟨h1, fun k hk => ?_, fun j k hj hk => ?_⟩
  · have u := hU k hk
    obtain ⟨a1, a2, a3⟩ := h2 k hk
    rw [u.s, u.den, u.lg, u.n, u.f]
    refine ⟨a1, ?_, a3⟩
    split
    · exact good_mx hg a2
    · exact a2
  · rw [(hU j (by omega)).s, (hU k hk).s]; exact h3 j k hj hk
theorem Masked_both (tl rt : ByteArray) (dy fr to : Int) (A : Option Addr) (n c : Nat) (J : Nat → TkR) (hF : FitFl tl rt J n c) (b : ByteArray) (hb : b.size ≤ 9223372036854775807) (g : Int) (hg : 1 ≤ g) (w : World) (hL : TksAt w J n A) :
    ((GoodFl tl rt dy fr to J n ∧ nameT b = true ∧ g ≤ 1125899906842624) ∧ ∀ gg W, (∃ x, W = gx w x) → GrAt W gg b g → Calls Try.prog 7 #[flV tl rt dy fr to A n c, .agg #[.bool false, .int .i64 1, .slice none 0 0, .slice (some ⟨gg, 0, none⟩) 1 1, .int .i64 1]] W fun e W' => ∃ J' A' c', e = .returned (.tuple #[flV tl rt dy fr to A' n c', .int .i64 0]) ∧ (∃ x, W' = gx W x) ∧ TksAt W' J' n A' ∧ (∀ i, i < n → UnderG b g (J i) (J' i)) ∧ (n ≤ c' ∧ c' ≤ 9223372036854775807)) ∨ (∃ G : Int, G ≠ 0 ∧ ∀ gg W, (∃ x, W = gx w x) → GrAt W gg b g → Calls Try.prog 7 #[flV tl rt dy fr to A n c, .agg #[.bool false, .int .i64 1, .slice none 0 0, .slice (some ⟨gg, 0, none⟩) 1 1, .int .i64 1]] W fun e W' => e = .returned (.tuple #[flV ⟨#[]⟩ ⟨#[]⟩ 0 0 0 none 0 0, .int .i64 G]) ∧ ∃ x, W' = gx W x) := by
  obtain ⟨E, C1, -, hE⟩ := Flight_both tl rt dy fr to A n c J hF
  obtain ⟨E2, C2, hE2⟩ := CheckMask_any b hb g hg
  by_cases h0 : E = 0
  · subst h0
    have hgd := hE.1 rfl
    obtain ⟨-, -, hdy, -, -, hn30, hT⟩ := hgd.out
    by_cases h2 : E2 = 0
    · subst h2
      obtain ⟨hnm, hg2⟩ := hE2.1 rfl
      refine .inl ⟨⟨hgd, hnm, hg2⟩, fun gg W hW hG => ?_⟩
      refine Masked_c tl rt dy fr to A n c gg J b g W (Lib.hid fun W' hW' => C1 W' (hL.on (gxT hW hW'))) (Lib.hid fun W' hW' => C2 gg W' (hG.on hW')) (Lib.hid fun W1 hW1 => ?_)
      refine masked_any tl rt dy fr to A n c gg J b g W1 (hL.on (gxT hW hW1)) (by omega) hdy (Lib.hid fun k hk W2 hW2 => ?_)
      have hs := (hL.on (gxT hW (gxT hW1 hW2))).sm hk
      have hGr := (hG.on (gxT hW1 hW2))
      obtain ⟨hN, -⟩ := hF.sm k hk
      have h20 := hT.size k hk
      have hser := (hT.out.2.1 k hk).2.1
      by_cases he : b = (J k).s
      · rw [if_pos he]
        exact mTrack_yes (J k).s (J k).den (J k).A (J k).n (J k).c (J k).lg (J k).f gg g W2 hs hN h20 (fun i hi => by have hok := (goodS_of hser).2.2.ok i hi; unfold smOk at hok; exact ⟨hok.2.2.1, hok.2.2.2.1⟩) ⟨hg, hg2⟩ b hGr (Lib.hid fun W3 hW3 => grainNumber_1 gg b g _ W3 (hGr.on hW3) 0 (.inl ⟨he, rfl⟩))
      · rw [if_neg he]
        exact mTrack_no (J k).s (J k).den (J k).A (J k).n (J k).c (J k).lg (J k).f gg W2 hs hN h20 (Lib.hid fun W3 hW3 => grainNumber_1 gg b g _ W3 (hGr.on hW3) (-1) (.inr ⟨he, rfl⟩))
    · exact .inr ⟨E2, h2, fun gg W hW hG => Masked_b tl rt dy fr to A n c gg E2 h2 W (Lib.hid fun W' hW' => C1 W' (hL.on (gxT hW hW'))) (Lib.hid fun W' hW' => C2 gg W' (hG.on hW'))⟩
  · exact .inr ⟨E, h0, fun gg W hW hG => Masked_a tl rt dy fr to A n c gg E h0 W (Lib.hid fun W' hW' => C1 W' (hL.on (gxT hW hW')))⟩
set_option maxHeartbeats 4000000 in
set_option maxRecDepth 100000 in
theorem law_lessE (tl rt : ByteArray) (dy fr to : Int) (A : Option Addr) (n c : Nat) (b : ByteArray) (g V : Int) (B : Bool) (E : Int) (w : World) (H1 : Hid (∀ W, (∃ x, W = gx w x) → Calls Try.prog 4 #[flV tl rt dy fr to A n c, .string b] W fun e W' => e = .returned (.tuple #[.int .i64 V, .bool B, .int .i64 E]) ∧ ∃ x, W' = gx W x)) (H2 : Hid (∀ W, (∃ x, W = gx w x) → Calls Try.prog 5 #[flV tl rt dy fr to A n c, .string b] W fun e W' => e = .returned (.tuple #[.int .i64 V, .bool B, .int .i64 E]) ∧ ∃ x, W' = gx W x)) (h0 : E ≠ 0) (hg : g < 1) :
    Calls Try.prog 3 #[flV tl rt dy fr to A n c, .string b, .int .i64 g] w fun e w' => e = .returned (.bool true) ∧ ∃ x, w' = gx w x := by
  have hd : decide (g < 1) = true := decide_eq_true hg
  have k0 := beq0 h0
  have k1 := bne0 h0
  have k2 := ne0t h0
  clear h0
  clear hg
  go_enter Try.func3, Try.ntmps3
  go_wp2_with (first | go_skip | (go_at_call 4; with_reducible refine (H1.out _ (by repeat (first | (with_reducible exact Gx.refl _) | (with_reducible assumption) | (with_reducible refine Gx.gx ?_) | (with_reducible refine Gx.alloc ?_) | (with_reducible refine Gx.drew ?_) | (with_reducible refine Gx.drewN ?_) | (with_reducible refine Gx.setRow ?_ (by first | omega | (simp; done) | (simp <;> omega))) | (with_reducible refine Gx.setCell ?_ (by first | omega | (simp; done) | (simp <;> omega)))))).mono ?_; rintro e w' ⟨rfl, x1, rfl⟩) | (go_at_call 5; with_reducible refine (H2.out _ (by repeat (first | (with_reducible exact Gx.refl _) | (with_reducible assumption) | (with_reducible refine Gx.gx ?_) | (with_reducible refine Gx.alloc ?_) | (with_reducible refine Gx.drew ?_) | (with_reducible refine Gx.drewN ?_) | (with_reducible refine Gx.setRow ?_ (by first | omega | (simp; done) | (simp <;> omega))) | (with_reducible refine Gx.setCell ?_ (by first | omega | (simp; done) | (simp <;> omega)))))).mono ?_; rintro e w' ⟨rfl, x2, rfl⟩) | (go_at_call 6; refine (totals_any _).mono ?_; rintro e w' ⟨rfl, x9, rfl⟩))
  go_ret
  exact ⟨rfl, (by repeat (first | (with_reducible exact Gx.refl _) | (with_reducible assumption) | (with_reducible refine Gx.gx ?_) | (with_reducible refine Gx.alloc ?_) | (with_reducible refine Gx.drew ?_) | (with_reducible refine Gx.drewN ?_) | (with_reducible refine Gx.setRow ?_ (by first | omega | (simp; done) | (simp <;> omega))) | (with_reducible refine Gx.setCell ?_ (by first | omega | (simp; done) | (simp <;> omega)))))⟩
set_option maxHeartbeats 4000000 in
set_option maxRecDepth 100000 in
theorem law_badE (tl rt : ByteArray) (dy fr to : Int) (A : Option Addr) (n c : Nat) (b : ByteArray) (g V : Int) (B : Bool) (E : Int) (w : World) (H1 : Hid (∀ W, (∃ x, W = gx w x) → Calls Try.prog 4 #[flV tl rt dy fr to A n c, .string b] W fun e W' => e = .returned (.tuple #[.int .i64 V, .bool B, .int .i64 E]) ∧ ∃ x, W' = gx W x)) (H2 : Hid (∀ W, (∃ x, W = gx w x) → Calls Try.prog 5 #[flV tl rt dy fr to A n c, .string b] W fun e W' => e = .returned (.tuple #[.int .i64 V, .bool B, .int .i64 E]) ∧ ∃ x, W' = gx W x)) (h0 : E ≠ 0) (hg : 1 ≤ g) (G : Int) (hG : G ≠ 0) (HM : Hid (∀ gg W, (∃ x, W = gx w x) → GrAt W gg b g → Calls Try.prog 7 #[flV tl rt dy fr to A n c, .agg #[.bool false, .int .i64 1, .slice none 0 0, .slice (some ⟨gg, 0, none⟩) 1 1, .int .i64 1]] W fun e W' => e = .returned (.tuple #[flV ⟨#[]⟩ ⟨#[]⟩ 0 0 0 none 0 0, .int .i64 G]) ∧ ∃ x, W' = gx W x)) :
    Calls Try.prog 3 #[flV tl rt dy fr to A n c, .string b, .int .i64 g] w fun e w' => e = .returned (.bool true) ∧ ∃ x, w' = gx w x := by
  have hd : decide (g < 1) = false := decide_eq_false (by omega)
  have k0 := beq0 h0
  have k1 := bne0 h0
  have k2 := ne0t h0
  clear h0
  have g0 := beq0 hG
  have g1 := bne0 hG
  have g2 := ne0t hG
  clear hg hG
  go_enter Try.func3, Try.ntmps3
  go_wp2_with (first | go_skip | (go_at_call 4; with_reducible refine (H1.out _ (by repeat (first | (with_reducible exact Gx.refl _) | (with_reducible assumption) | (with_reducible refine Gx.gx ?_) | (with_reducible refine Gx.alloc ?_) | (with_reducible refine Gx.drew ?_) | (with_reducible refine Gx.drewN ?_) | (with_reducible refine Gx.setRow ?_ (by first | omega | (simp; done) | (simp <;> omega))) | (with_reducible refine Gx.setCell ?_ (by first | omega | (simp; done) | (simp <;> omega)))))).mono ?_; rintro e w' ⟨rfl, x1, rfl⟩) | (go_at_call 5; with_reducible refine (H2.out _ (by repeat (first | (with_reducible exact Gx.refl _) | (with_reducible assumption) | (with_reducible refine Gx.gx ?_) | (with_reducible refine Gx.alloc ?_) | (with_reducible refine Gx.drew ?_) | (with_reducible refine Gx.drewN ?_) | (with_reducible refine Gx.setRow ?_ (by first | omega | (simp; done) | (simp <;> omega))) | (with_reducible refine Gx.setCell ?_ (by first | omega | (simp; done) | (simp <;> omega)))))).mono ?_; rintro e w' ⟨rfl, x2, rfl⟩) | (go_at_call 6; refine (totals_any _).mono ?_; rintro e w' ⟨rfl, x9, rfl⟩) | (go_at_call 7; refine (HM.out _ _ (by repeat (first | (with_reducible exact Gx.refl _) | (with_reducible assumption) | (with_reducible refine Gx.gx ?_) | (with_reducible refine Gx.alloc ?_) | (with_reducible refine Gx.drew ?_) | (with_reducible refine Gx.drewN ?_) | (with_reducible refine Gx.setRow ?_ (by first | omega | (simp; done) | (simp <;> omega))) | (with_reducible refine Gx.setCell ?_ (by first | omega | (simp; done) | (simp <;> omega))))) ⟨by first | (rw [cell_of_row _ _ _ _ _ _ (At.new' (by simp))]; rfl) | (refine cell_keep_alloc ?_; rw [cell_of_row _ _ _ _ _ _ (At.new' (by simp))]; rfl), by first | (rw [cell_of_row _ _ _ _ _ _ (At.new' (by simp))]; rfl) | (refine cell_keep_alloc ?_; rw [cell_of_row _ _ _ _ _ _ (At.new' (by simp))]; rfl)⟩).mono ?_; rintro e w' ⟨rfl, x3, rfl⟩))
  go_ret
  exact ⟨rfl, (by repeat (first | (with_reducible exact Gx.refl _) | (with_reducible assumption) | (with_reducible refine Gx.gx ?_) | (with_reducible refine Gx.alloc ?_) | (with_reducible refine Gx.drew ?_) | (with_reducible refine Gx.drewN ?_) | (with_reducible refine Gx.setRow ?_ (by first | omega | (simp; done) | (simp <;> omega))) | (with_reducible refine Gx.setCell ?_ (by first | omega | (simp; done) | (simp <;> omega)))))⟩
set_option maxHeartbeats 4000000 in
set_option maxRecDepth 100000 in
theorem law_less0 (tl rt : ByteArray) (dy fr to : Int) (A : Option Addr) (n c : Nat) (b : ByteArray) (g V : Int) (B : Bool) (w : World) (H1 : Hid (∀ W, (∃ x, W = gx w x) → Calls Try.prog 4 #[flV tl rt dy fr to A n c, .string b] W fun e W' => e = .returned (.tuple #[.int .i64 V, .bool B, .int .i64 0]) ∧ ∃ x, W' = gx W x)) (H2 : Hid (∀ W, (∃ x, W = gx w x) → Calls Try.prog 5 #[flV tl rt dy fr to A n c, .string b] W fun e W' => e = .returned (.tuple #[.int .i64 V, .bool B, .int .i64 0]) ∧ ∃ x, W' = gx W x)) (hg : g < 1) :
    Calls Try.prog 3 #[flV tl rt dy fr to A n c, .string b, .int .i64 g] w fun e w' => e = .returned (.bool true) ∧ ∃ x, w' = gx w x := by
  have hd : decide (g < 1) = true := decide_eq_true hg
  clear hg
  go_enter Try.func3, Try.ntmps3
  go_wp2_with (first | go_skip | (go_at_call 4; with_reducible refine (H1.out _ (by repeat (first | (with_reducible exact Gx.refl _) | (with_reducible assumption) | (with_reducible refine Gx.gx ?_) | (with_reducible refine Gx.alloc ?_) | (with_reducible refine Gx.drew ?_) | (with_reducible refine Gx.drewN ?_) | (with_reducible refine Gx.setRow ?_ (by first | omega | (simp; done) | (simp <;> omega))) | (with_reducible refine Gx.setCell ?_ (by first | omega | (simp; done) | (simp <;> omega)))))).mono ?_; rintro e w' ⟨rfl, x1, rfl⟩) | (go_at_call 5; with_reducible refine (H2.out _ (by repeat (first | (with_reducible exact Gx.refl _) | (with_reducible assumption) | (with_reducible refine Gx.gx ?_) | (with_reducible refine Gx.alloc ?_) | (with_reducible refine Gx.drew ?_) | (with_reducible refine Gx.drewN ?_) | (with_reducible refine Gx.setRow ?_ (by first | omega | (simp; done) | (simp <;> omega))) | (with_reducible refine Gx.setCell ?_ (by first | omega | (simp; done) | (simp <;> omega)))))).mono ?_; rintro e w' ⟨rfl, x2, rfl⟩) | (go_at_call 6; refine (totals_any _).mono ?_; rintro e w' ⟨rfl, x9, rfl⟩))
  go_ret
  exact ⟨rfl, (by repeat (first | (with_reducible exact Gx.refl _) | (with_reducible assumption) | (with_reducible refine Gx.gx ?_) | (with_reducible refine Gx.alloc ?_) | (with_reducible refine Gx.drew ?_) | (with_reducible refine Gx.drewN ?_) | (with_reducible refine Gx.setRow ?_ (by first | omega | (simp; done) | (simp <;> omega))) | (with_reducible refine Gx.setCell ?_ (by first | omega | (simp; done) | (simp <;> omega)))))⟩
set_option maxHeartbeats 4000000 in
set_option maxRecDepth 100000 in
theorem law_bad0 (tl rt : ByteArray) (dy fr to : Int) (A : Option Addr) (n c : Nat) (b : ByteArray) (g V : Int) (B : Bool) (w : World) (H1 : Hid (∀ W, (∃ x, W = gx w x) → Calls Try.prog 4 #[flV tl rt dy fr to A n c, .string b] W fun e W' => e = .returned (.tuple #[.int .i64 V, .bool B, .int .i64 0]) ∧ ∃ x, W' = gx W x)) (H2 : Hid (∀ W, (∃ x, W = gx w x) → Calls Try.prog 5 #[flV tl rt dy fr to A n c, .string b] W fun e W' => e = .returned (.tuple #[.int .i64 V, .bool B, .int .i64 0]) ∧ ∃ x, W' = gx W x)) (hg : 1 ≤ g) (G : Int) (hG : G ≠ 0) (HM : Hid (∀ gg W, (∃ x, W = gx w x) → GrAt W gg b g → Calls Try.prog 7 #[flV tl rt dy fr to A n c, .agg #[.bool false, .int .i64 1, .slice none 0 0, .slice (some ⟨gg, 0, none⟩) 1 1, .int .i64 1]] W fun e W' => e = .returned (.tuple #[flV ⟨#[]⟩ ⟨#[]⟩ 0 0 0 none 0 0, .int .i64 G]) ∧ ∃ x, W' = gx W x)) :
    Calls Try.prog 3 #[flV tl rt dy fr to A n c, .string b, .int .i64 g] w fun e w' => e = .returned (.bool true) ∧ ∃ x, w' = gx w x := by
  have hd : decide (g < 1) = false := decide_eq_false (by omega)
  have g0 := beq0 hG
  have g1 := bne0 hG
  have g2 := ne0t hG
  clear hg hG
  go_enter Try.func3, Try.ntmps3
  go_wp2_with (first | go_skip | (go_at_call 4; with_reducible refine (H1.out _ (by repeat (first | (with_reducible exact Gx.refl _) | (with_reducible assumption) | (with_reducible refine Gx.gx ?_) | (with_reducible refine Gx.alloc ?_) | (with_reducible refine Gx.drew ?_) | (with_reducible refine Gx.drewN ?_) | (with_reducible refine Gx.setRow ?_ (by first | omega | (simp; done) | (simp <;> omega))) | (with_reducible refine Gx.setCell ?_ (by first | omega | (simp; done) | (simp <;> omega)))))).mono ?_; rintro e w' ⟨rfl, x1, rfl⟩) | (go_at_call 5; with_reducible refine (H2.out _ (by repeat (first | (with_reducible exact Gx.refl _) | (with_reducible assumption) | (with_reducible refine Gx.gx ?_) | (with_reducible refine Gx.alloc ?_) | (with_reducible refine Gx.drew ?_) | (with_reducible refine Gx.drewN ?_) | (with_reducible refine Gx.setRow ?_ (by first | omega | (simp; done) | (simp <;> omega))) | (with_reducible refine Gx.setCell ?_ (by first | omega | (simp; done) | (simp <;> omega)))))).mono ?_; rintro e w' ⟨rfl, x2, rfl⟩) | (go_at_call 6; refine (totals_any _).mono ?_; rintro e w' ⟨rfl, x9, rfl⟩) | (go_at_call 7; refine (HM.out _ _ (by repeat (first | (with_reducible exact Gx.refl _) | (with_reducible assumption) | (with_reducible refine Gx.gx ?_) | (with_reducible refine Gx.alloc ?_) | (with_reducible refine Gx.drew ?_) | (with_reducible refine Gx.drewN ?_) | (with_reducible refine Gx.setRow ?_ (by first | omega | (simp; done) | (simp <;> omega))) | (with_reducible refine Gx.setCell ?_ (by first | omega | (simp; done) | (simp <;> omega))))) ⟨by first | (rw [cell_of_row _ _ _ _ _ _ (At.new' (by simp))]; rfl) | (refine cell_keep_alloc ?_; rw [cell_of_row _ _ _ _ _ _ (At.new' (by simp))]; rfl), by first | (rw [cell_of_row _ _ _ _ _ _ (At.new' (by simp))]; rfl) | (refine cell_keep_alloc ?_; rw [cell_of_row _ _ _ _ _ _ (At.new' (by simp))]; rfl)⟩).mono ?_; rintro e w' ⟨rfl, x3, rfl⟩))
  go_ret
  exact ⟨rfl, (by repeat (first | (with_reducible exact Gx.refl _) | (with_reducible assumption) | (with_reducible refine Gx.gx ?_) | (with_reducible refine Gx.alloc ?_) | (with_reducible refine Gx.drew ?_) | (with_reducible refine Gx.drewN ?_) | (with_reducible refine Gx.setRow ?_ (by first | omega | (simp; done) | (simp <;> omega))) | (with_reducible refine Gx.setCell ?_ (by first | omega | (simp; done) | (simp <;> omega)))))⟩
set_option maxHeartbeats 4000000 in
set_option maxRecDepth 100000 in
theorem law_good (tl rt : ByteArray) (dy fr to : Int) (A : Option Addr) (n c : Nat) (J : Nat → TkR) (b : ByteArray) (g V : Int) (B : Bool) (w : World) (H1 : Hid (∀ W, (∃ x, W = gx w x) → Calls Try.prog 4 #[flV tl rt dy fr to A n c, .string b] W fun e W' => e = .returned (.tuple #[.int .i64 V, .bool B, .int .i64 0]) ∧ ∃ x, W' = gx W x)) (H2 : Hid (∀ W, (∃ x, W = gx w x) → Calls Try.prog 5 #[flV tl rt dy fr to A n c, .string b] W fun e W' => e = .returned (.tuple #[.int .i64 V, .bool B, .int .i64 0]) ∧ ∃ x, W' = gx W x)) (hg : 1 ≤ g) (r t d z : Int) (e1 : V.tmod g = r) (e2 : IntKind.i64.wrap r = r) (e3 : IntKind.i64.wrap (V - r) = t) (hd1 : (r < 0 ∧ IntKind.i64.wrap (t - g) = d) ∨ (¬ r < 0 ∧ t = d)) (V2 : Int) (hV2 : B = true → V2 = z) (hz : max d (-1125899906842624) = z)
    (HM : Hid (∀ gg W, (∃ x, W = gx w x) → GrAt W gg b g → Calls Try.prog 7 #[flV tl rt dy fr to A n c, .agg #[.bool false, .int .i64 1, .slice none 0 0, .slice (some ⟨gg, 0, none⟩) 1 1, .int .i64 1]] W fun e W' => ∃ J' A' c', e = .returned (.tuple #[flV tl rt dy fr to A' n c', .int .i64 0]) ∧ (∃ x, W' = gx W x) ∧ TksAt W' J' n A' ∧ (∀ i, i < n → UnderG b g (J i) (J' i)) ∧ (n ≤ c' ∧ c' ≤ 9223372036854775807)))
    (HP : Hid (∀ J' A' c' W, TksAt W J' n A' → (∀ i, i < n → UnderG b g (J i) (J' i)) → (n ≤ c' ∧ c' ≤ 9223372036854775807) → Calls Try.prog 4 #[flV tl rt dy fr to A' n c', .string b] W fun e W' => e = .returned (.tuple #[.int .i64 V2, .bool B, .int .i64 0]) ∧ ∃ x, W' = gx W x)) :
    Calls Try.prog 3 #[flV tl rt dy fr to A n c, .string b, .int .i64 g] w fun e w' => e = .returned (.bool true) ∧ ∃ x, w' = gx w x := by
  have hd : decide (g < 1) = false := decide_eq_false (by omega)
  have g0 : (g == 0) = false := beq_eq_false_iff_ne.2 (by omega)
  have g1 : ¬ g = 0 := by omega
  clear hg
  rcases hd1 with ⟨hr, e4⟩ | ⟨hr, rfl⟩
  · have hr1 : decide (r < 0) = true := decide_eq_true hr
    clear hr
    cases B with
    | true =>
      obtain rfl := hV2 rfl
      clear hV2
      go_enter Try.func3, Try.ntmps3
      go_wp2_with (first | go_skip | (go_at_call 4; with_reducible refine (H1.out _ (by repeat (first | (with_reducible exact Gx.refl _) | (with_reducible assumption) | (with_reducible refine Gx.gx ?_) | (with_reducible refine Gx.alloc ?_) | (with_reducible refine Gx.drew ?_) | (with_reducible refine Gx.drewN ?_) | (with_reducible refine Gx.setRow ?_ (by first | omega | (simp; done) | (simp <;> omega))) | (with_reducible refine Gx.setCell ?_ (by first | omega | (simp; done) | (simp <;> omega)))))).mono ?_; rintro e w' ⟨rfl, x1, rfl⟩) | (go_at_call 5; with_reducible refine (H2.out _ (by repeat (first | (with_reducible exact Gx.refl _) | (with_reducible assumption) | (with_reducible refine Gx.gx ?_) | (with_reducible refine Gx.alloc ?_) | (with_reducible refine Gx.drew ?_) | (with_reducible refine Gx.drewN ?_) | (with_reducible refine Gx.setRow ?_ (by first | omega | (simp; done) | (simp <;> omega))) | (with_reducible refine Gx.setCell ?_ (by first | omega | (simp; done) | (simp <;> omega)))))).mono ?_; rintro e w' ⟨rfl, x2, rfl⟩) | (go_at_call 6; refine (totals_any _).mono ?_; rintro e w' ⟨rfl, x9, rfl⟩) | (go_at_call 7; refine (HM.out _ _ (by repeat (first | (with_reducible exact Gx.refl _) | (with_reducible assumption) | (with_reducible refine Gx.gx ?_) | (with_reducible refine Gx.alloc ?_) | (with_reducible refine Gx.drew ?_) | (with_reducible refine Gx.drewN ?_) | (with_reducible refine Gx.setRow ?_ (by first | omega | (simp; done) | (simp <;> omega))) | (with_reducible refine Gx.setCell ?_ (by first | omega | (simp; done) | (simp <;> omega))))) ⟨by first | (rw [cell_of_row _ _ _ _ _ _ (At.new' (by simp))]; rfl) | (refine cell_keep_alloc ?_; rw [cell_of_row _ _ _ _ _ _ (At.new' (by simp))]; rfl), by first | (rw [cell_of_row _ _ _ _ _ _ (At.new' (by simp))]; rfl) | (refine cell_keep_alloc ?_; rw [cell_of_row _ _ _ _ _ _ (At.new' (by simp))]; rfl)⟩).mono ?_; rintro e W3 ⟨J', A', c', rfl, hG3, hT3, hU3, hB3⟩; have G3 : ∃ x, W3 = gx w x := (gxT (by repeat (first | (with_reducible exact Gx.refl _) | (with_reducible assumption) | (with_reducible refine Gx.gx ?_) | (with_reducible refine Gx.alloc ?_) | (with_reducible refine Gx.drew ?_) | (with_reducible refine Gx.drewN ?_) | (with_reducible refine Gx.setRow ?_ (by first | omega | (simp; done) | (simp <;> omega))) | (with_reducible refine Gx.setCell ?_ (by first | omega | (simp; done) | (simp <;> omega))))) hG3); clear hG3) | (go_at_call 4; refine (HP.out J' A' c' _ (by rw [alloc_is]; exact hT3.gx) hU3 hB3).mono ?_; rintro e w' ⟨rfl, x4, rfl⟩))
      go_ret
      exact ⟨rfl, (by repeat (first | (with_reducible exact Gx.refl _) | (with_reducible assumption) | (with_reducible refine Gx.gx ?_) | (with_reducible refine Gx.alloc ?_) | (with_reducible refine Gx.drew ?_) | (with_reducible refine Gx.drewN ?_) | (with_reducible refine Gx.setRow ?_ (by first | omega | (simp; done) | (simp <;> omega))) | (with_reducible refine Gx.setCell ?_ (by first | omega | (simp; done) | (simp <;> omega)))))⟩
    | false =>
      clear hV2 hz
      go_enter Try.func3, Try.ntmps3
      go_wp2_with (first | go_skip | (go_at_call 4; with_reducible refine (H1.out _ (by repeat (first | (with_reducible exact Gx.refl _) | (with_reducible assumption) | (with_reducible refine Gx.gx ?_) | (with_reducible refine Gx.alloc ?_) | (with_reducible refine Gx.drew ?_) | (with_reducible refine Gx.drewN ?_) | (with_reducible refine Gx.setRow ?_ (by first | omega | (simp; done) | (simp <;> omega))) | (with_reducible refine Gx.setCell ?_ (by first | omega | (simp; done) | (simp <;> omega)))))).mono ?_; rintro e w' ⟨rfl, x1, rfl⟩) | (go_at_call 5; with_reducible refine (H2.out _ (by repeat (first | (with_reducible exact Gx.refl _) | (with_reducible assumption) | (with_reducible refine Gx.gx ?_) | (with_reducible refine Gx.alloc ?_) | (with_reducible refine Gx.drew ?_) | (with_reducible refine Gx.drewN ?_) | (with_reducible refine Gx.setRow ?_ (by first | omega | (simp; done) | (simp <;> omega))) | (with_reducible refine Gx.setCell ?_ (by first | omega | (simp; done) | (simp <;> omega)))))).mono ?_; rintro e w' ⟨rfl, x2, rfl⟩) | (go_at_call 6; refine (totals_any _).mono ?_; rintro e w' ⟨rfl, x9, rfl⟩) | (go_at_call 7; refine (HM.out _ _ (by repeat (first | (with_reducible exact Gx.refl _) | (with_reducible assumption) | (with_reducible refine Gx.gx ?_) | (with_reducible refine Gx.alloc ?_) | (with_reducible refine Gx.drew ?_) | (with_reducible refine Gx.drewN ?_) | (with_reducible refine Gx.setRow ?_ (by first | omega | (simp; done) | (simp <;> omega))) | (with_reducible refine Gx.setCell ?_ (by first | omega | (simp; done) | (simp <;> omega))))) ⟨by first | (rw [cell_of_row _ _ _ _ _ _ (At.new' (by simp))]; rfl) | (refine cell_keep_alloc ?_; rw [cell_of_row _ _ _ _ _ _ (At.new' (by simp))]; rfl), by first | (rw [cell_of_row _ _ _ _ _ _ (At.new' (by simp))]; rfl) | (refine cell_keep_alloc ?_; rw [cell_of_row _ _ _ _ _ _ (At.new' (by simp))]; rfl)⟩).mono ?_; rintro e W3 ⟨J', A', c', rfl, hG3, hT3, hU3, hB3⟩; have G3 : ∃ x, W3 = gx w x := (gxT (by repeat (first | (with_reducible exact Gx.refl _) | (with_reducible assumption) | (with_reducible refine Gx.gx ?_) | (with_reducible refine Gx.alloc ?_) | (with_reducible refine Gx.drew ?_) | (with_reducible refine Gx.drewN ?_) | (with_reducible refine Gx.setRow ?_ (by first | omega | (simp; done) | (simp <;> omega))) | (with_reducible refine Gx.setCell ?_ (by first | omega | (simp; done) | (simp <;> omega))))) hG3); clear hG3) | (go_at_call 4; refine (HP.out J' A' c' _ (by rw [alloc_is]; exact hT3.gx) hU3 hB3).mono ?_; rintro e w' ⟨rfl, x4, rfl⟩))
      go_ret
      exact ⟨rfl, (by repeat (first | (with_reducible exact Gx.refl _) | (with_reducible assumption) | (with_reducible refine Gx.gx ?_) | (with_reducible refine Gx.alloc ?_) | (with_reducible refine Gx.drew ?_) | (with_reducible refine Gx.drewN ?_) | (with_reducible refine Gx.setRow ?_ (by first | omega | (simp; done) | (simp <;> omega))) | (with_reducible refine Gx.setCell ?_ (by first | omega | (simp; done) | (simp <;> omega)))))⟩
  · have hr1 : decide (r < 0) = false := decide_eq_false hr
    clear hr
    cases B with
    | true =>
      obtain rfl := hV2 rfl
      clear hV2
      go_enter Try.func3, Try.ntmps3
      go_wp2_with (first | go_skip | (go_at_call 4; with_reducible refine (H1.out _ (by repeat (first | (with_reducible exact Gx.refl _) | (with_reducible assumption) | (with_reducible refine Gx.gx ?_) | (with_reducible refine Gx.alloc ?_) | (with_reducible refine Gx.drew ?_) | (with_reducible refine Gx.drewN ?_) | (with_reducible refine Gx.setRow ?_ (by first | omega | (simp; done) | (simp <;> omega))) | (with_reducible refine Gx.setCell ?_ (by first | omega | (simp; done) | (simp <;> omega)))))).mono ?_; rintro e w' ⟨rfl, x1, rfl⟩) | (go_at_call 5; with_reducible refine (H2.out _ (by repeat (first | (with_reducible exact Gx.refl _) | (with_reducible assumption) | (with_reducible refine Gx.gx ?_) | (with_reducible refine Gx.alloc ?_) | (with_reducible refine Gx.drew ?_) | (with_reducible refine Gx.drewN ?_) | (with_reducible refine Gx.setRow ?_ (by first | omega | (simp; done) | (simp <;> omega))) | (with_reducible refine Gx.setCell ?_ (by first | omega | (simp; done) | (simp <;> omega)))))).mono ?_; rintro e w' ⟨rfl, x2, rfl⟩) | (go_at_call 6; refine (totals_any _).mono ?_; rintro e w' ⟨rfl, x9, rfl⟩) | (go_at_call 7; refine (HM.out _ _ (by repeat (first | (with_reducible exact Gx.refl _) | (with_reducible assumption) | (with_reducible refine Gx.gx ?_) | (with_reducible refine Gx.alloc ?_) | (with_reducible refine Gx.drew ?_) | (with_reducible refine Gx.drewN ?_) | (with_reducible refine Gx.setRow ?_ (by first | omega | (simp; done) | (simp <;> omega))) | (with_reducible refine Gx.setCell ?_ (by first | omega | (simp; done) | (simp <;> omega))))) ⟨by first | (rw [cell_of_row _ _ _ _ _ _ (At.new' (by simp))]; rfl) | (refine cell_keep_alloc ?_; rw [cell_of_row _ _ _ _ _ _ (At.new' (by simp))]; rfl), by first | (rw [cell_of_row _ _ _ _ _ _ (At.new' (by simp))]; rfl) | (refine cell_keep_alloc ?_; rw [cell_of_row _ _ _ _ _ _ (At.new' (by simp))]; rfl)⟩).mono ?_; rintro e W3 ⟨J', A', c', rfl, hG3, hT3, hU3, hB3⟩; have G3 : ∃ x, W3 = gx w x := (gxT (by repeat (first | (with_reducible exact Gx.refl _) | (with_reducible assumption) | (with_reducible refine Gx.gx ?_) | (with_reducible refine Gx.alloc ?_) | (with_reducible refine Gx.drew ?_) | (with_reducible refine Gx.drewN ?_) | (with_reducible refine Gx.setRow ?_ (by first | omega | (simp; done) | (simp <;> omega))) | (with_reducible refine Gx.setCell ?_ (by first | omega | (simp; done) | (simp <;> omega))))) hG3); clear hG3) | (go_at_call 4; refine (HP.out J' A' c' _ (by rw [alloc_is]; exact hT3.gx) hU3 hB3).mono ?_; rintro e w' ⟨rfl, x4, rfl⟩))
      go_ret
      exact ⟨rfl, (by repeat (first | (with_reducible exact Gx.refl _) | (with_reducible assumption) | (with_reducible refine Gx.gx ?_) | (with_reducible refine Gx.alloc ?_) | (with_reducible refine Gx.drew ?_) | (with_reducible refine Gx.drewN ?_) | (with_reducible refine Gx.setRow ?_ (by first | omega | (simp; done) | (simp <;> omega))) | (with_reducible refine Gx.setCell ?_ (by first | omega | (simp; done) | (simp <;> omega)))))⟩
    | false =>
      clear hV2 hz
      go_enter Try.func3, Try.ntmps3
      go_wp2_with (first | go_skip | (go_at_call 4; with_reducible refine (H1.out _ (by repeat (first | (with_reducible exact Gx.refl _) | (with_reducible assumption) | (with_reducible refine Gx.gx ?_) | (with_reducible refine Gx.alloc ?_) | (with_reducible refine Gx.drew ?_) | (with_reducible refine Gx.drewN ?_) | (with_reducible refine Gx.setRow ?_ (by first | omega | (simp; done) | (simp <;> omega))) | (with_reducible refine Gx.setCell ?_ (by first | omega | (simp; done) | (simp <;> omega)))))).mono ?_; rintro e w' ⟨rfl, x1, rfl⟩) | (go_at_call 5; with_reducible refine (H2.out _ (by repeat (first | (with_reducible exact Gx.refl _) | (with_reducible assumption) | (with_reducible refine Gx.gx ?_) | (with_reducible refine Gx.alloc ?_) | (with_reducible refine Gx.drew ?_) | (with_reducible refine Gx.drewN ?_) | (with_reducible refine Gx.setRow ?_ (by first | omega | (simp; done) | (simp <;> omega))) | (with_reducible refine Gx.setCell ?_ (by first | omega | (simp; done) | (simp <;> omega)))))).mono ?_; rintro e w' ⟨rfl, x2, rfl⟩) | (go_at_call 6; refine (totals_any _).mono ?_; rintro e w' ⟨rfl, x9, rfl⟩) | (go_at_call 7; refine (HM.out _ _ (by repeat (first | (with_reducible exact Gx.refl _) | (with_reducible assumption) | (with_reducible refine Gx.gx ?_) | (with_reducible refine Gx.alloc ?_) | (with_reducible refine Gx.drew ?_) | (with_reducible refine Gx.drewN ?_) | (with_reducible refine Gx.setRow ?_ (by first | omega | (simp; done) | (simp <;> omega))) | (with_reducible refine Gx.setCell ?_ (by first | omega | (simp; done) | (simp <;> omega))))) ⟨by first | (rw [cell_of_row _ _ _ _ _ _ (At.new' (by simp))]; rfl) | (refine cell_keep_alloc ?_; rw [cell_of_row _ _ _ _ _ _ (At.new' (by simp))]; rfl), by first | (rw [cell_of_row _ _ _ _ _ _ (At.new' (by simp))]; rfl) | (refine cell_keep_alloc ?_; rw [cell_of_row _ _ _ _ _ _ (At.new' (by simp))]; rfl)⟩).mono ?_; rintro e W3 ⟨J', A', c', rfl, hG3, hT3, hU3, hB3⟩; have G3 : ∃ x, W3 = gx w x := (gxT (by repeat (first | (with_reducible exact Gx.refl _) | (with_reducible assumption) | (with_reducible refine Gx.gx ?_) | (with_reducible refine Gx.alloc ?_) | (with_reducible refine Gx.drew ?_) | (with_reducible refine Gx.drewN ?_) | (with_reducible refine Gx.setRow ?_ (by first | omega | (simp; done) | (simp <;> omega))) | (with_reducible refine Gx.setCell ?_ (by first | omega | (simp; done) | (simp <;> omega))))) hG3); clear hG3) | (go_at_call 4; refine (HP.out J' A' c' _ (by rw [alloc_is]; exact hT3.gx) hU3 hB3).mono ?_; rintro e w' ⟨rfl, x4, rfl⟩))
      go_ret
      exact ⟨rfl, (by repeat (first | (with_reducible exact Gx.refl _) | (with_reducible assumption) | (with_reducible refine Gx.gx ?_) | (with_reducible refine Gx.alloc ?_) | (with_reducible refine Gx.drew ?_) | (with_reducible refine Gx.drewN ?_) | (with_reducible refine Gx.setRow ?_ (by first | omega | (simp; done) | (simp <;> omega))) | (with_reducible refine Gx.setCell ?_ (by first | omega | (simp; done) | (simp <;> omega)))))⟩
theorem isPk_in {J : Nat → TkR} {n : Nat} {b : ByteArray} {fr to V : Int} {B : Bool} (hg : GoodTks J n) (h : IsPk J n b fr to V B) : -1125899906842624 ≤ V ∧ V ≤ 1125899906842624 := by
  rcases h.out with ⟨K, hK, -, hm⟩ | ⟨-, rfl, -⟩
  · rcases hm.out with ⟨-, ⟨k, hk, -, rfl⟩, -⟩ | ⟨-, rfl, -⟩
    · have hok := (goodS_of (hg.out.2.1 K hK).2.1).2.2.ok k hk
      unfold smOk at hok
      exact ⟨hok.2.2.1, hok.2.2.2.1⟩
    · omega
  · omega
theorem want_is {V g : Int} (hg : 1 ≤ g) : fl V g * g = if V.tmod g < 0 then V - V.tmod g - g else V - V.tmod g := by
  have e : V.tmod g + g * V.tdiv g = V := Int.tmod_add_mul_tdiv V g
  have s1 : 0 ≤ V → 0 ≤ V.tmod g := fun h => Int.tmod_nonneg g h
  have s2 : V < 0 → V.tmod g ≤ 0 := fun h => by
    have := Int.tmod_nonneg (a := -V) g (by omega)
    rw [Int.neg_tmod] at this; omega
  rw [fl_tdiv (by omega)]
  have hgn : ¬ g < 0 := by omega
  by_cases hr : V.tmod g < 0
  · have hv : V < 0 := by
      by_cases q : V < 0
      · exact q
      · have := s1 (by omega); omega
    rw [if_pos hr, if_pos ⟨by omega, by simp [hv, hgn]⟩, Int.sub_mul, Int.mul_comm]
    omega
  · rw [if_neg hr]
    have : ¬ (V.tmod g ≠ 0 ∧ (decide (V < 0) ≠ decide (g < 0))) := by
      rintro ⟨q1, q2⟩
      have hv : V < 0 := by
        by_cases q : V < 0
        · exact q
        · simp [q, hgn] at q2
      have := s2 hv
      omega
    rw [if_neg this, Int.mul_comm]
    omega
theorem peakLaw (tl rt : ByteArray) (dy fr to : Int) (A : Option Addr) (n c : Nat) (J : Nat → TkR) (hF : FitFl tl rt J n c) (b : ByteArray) (hb : b.size ≤ 9223372036854775807) (g : Int) (w : World) (hL : TksAt w J n A) :
    Calls Try.prog 3 #[flV tl rt dy fr to A n c, .string b, .int .i64 g] w fun e w' => e = .returned (.bool true) ∧ ∃ x, w' = gx w x := by
  obtain ⟨V, B, E, P1, P2, hE, hE'⟩ := Peak_both tl rt dy fr to A n c J hF b hb
  have H1 := Lib.hid (fun W (hW : ∃ x, W = gx w x) => P1 W (hL.on hW))
  have H2 := Lib.hid (fun W (hW : ∃ x, W = gx w x) => P2 W (hL.on hW))
  clear P1 P2
  by_cases hg : g < 1
  · by_cases h0 : E = 0
    · subst h0; exact law_less0 tl rt dy fr to A n c b g V B w H1 H2 hg
    · exact law_lessE tl rt dy fr to A n c b g V B E w H1 H2 h0 hg
  · rcases Masked_both tl rt dy fr to A n c J hF b hb g (by omega) w hL with ⟨⟨hgd, hnm, hg2⟩, HM⟩ | ⟨G, hG, HM⟩
    · obtain rfl : E = 0 := hE' ⟨hgd, hnm⟩
      obtain ⟨-, -, hV⟩ := hE rfl
      obtain ⟨h1, h2, h3, h4, h5, h6, hT⟩ := hgd.out
      have hVb := isPk_in hT hV
      have hr := tmod_bound (a := V) (b := g) 1125899906842624 hVb.1 hVb.2
      have hw := want_is (V := V) (g := g) (by omega)
      refine law_good tl rt dy fr to A n c J b g V B w H1 H2 (by omega) (V.tmod g) (V - V.tmod g) (fl V g * g) (max (fl V g * g) (-1125899906842624)) rfl (IntWalk.i64_in _ (by omega)) (IntWalk.i64_in _ (by omega)) ?_ (pkG g V B) ?_ rfl (Lib.hid HM) (Lib.hid fun J' A' c' W hT' hU hB => ?_)
      · by_cases q : V.tmod g < 0
        · rw [if_pos q] at hw
          exact .inl ⟨q, by rw [IntWalk.i64_in _ (by omega)]; omega⟩
        · rw [if_neg q] at hw
          exact .inr ⟨q, hw.symm⟩
      · intro hB
        unfold pkG
        rw [if_pos hB]
        rfl
      · have hF' : FitFl tl rt J' n c' := ⟨hF.tl, hF.rt, hB, fun k hk => by rw [(hU k hk).s]; exact hF.nm k hk, fun k hk => ⟨(hU k hk).nil, (hU k hk).nc⟩⟩
        exact Peak_go tl rt dy fr to A' n c' J' hF' (GoodFl.mk ⟨h1, h2, h3, h4, h5, h6, good_under (by omega) hU hT⟩) b hb hnm _ B (isPk_under (by omega) hU hV) W hT'
    · by_cases h0 : E = 0
      · subst h0; exact law_bad0 tl rt dy fr to A n c b g V B w H1 H2 (by omega) G hG (Lib.hid HM)
      · exact law_badE tl rt dy fr to A n c b g V B E w H1 H2 h0 (by omega) G hG (Lib.hid HM)
end Go.Proofs.Ytfbhjgaiejjfaaa
