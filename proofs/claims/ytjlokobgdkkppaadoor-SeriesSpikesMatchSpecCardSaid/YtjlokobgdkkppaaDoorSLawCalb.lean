/-
  The law SeriesCalibrateMatchesSpec, walked.
-/
import Derived.Test.YtjlokobgdkkppaaDoorSRCalb
import Derived.Test.YtjlokobgdkkppaaDoorSHolds
import Derived.Test.YtjlokobgdkkppaaDoorSTold
import Derived.Deep.RegionHeld3
namespace Go.Proofs.YtjlokobgdkkppaaDoor
open Go.RowKit
-- AT2
-- AT3

def CalbS (w : World) (a b c d e f : Value) (W : World) : Prop :=
  (∃ x, W = gx w x) ∧ W.cell? ⟨w.heap.size, 0, none⟩ = some a ∧ W.cell? ⟨w.heap.size, 1, none⟩ = some b ∧ W.cell? ⟨w.heap.size + 1, 0, none⟩ = some c ∧ W.cell? ⟨w.heap.size + 1, 1, none⟩ = some d ∧ W.cell? ⟨w.heap.size + 1, 2, none⟩ = some e ∧ W.cell? ⟨w.heap.size + 1, 3, none⟩ = some f
theorem CalbS.gx {w : World} {a b c d e f : Value} {W : World} (h : CalbS w a b c d e f W) (x : Ext) : CalbS w a b c d e f (gx W x) :=
  ⟨Gx.gx h.1, cell_keep_gx h.2.1, cell_keep_gx h.2.2.1, cell_keep_gx h.2.2.2.1, cell_keep_gx h.2.2.2.2.1, cell_keep_gx h.2.2.2.2.2.1, cell_keep_gx h.2.2.2.2.2.2⟩

set_option maxHeartbeats 4000000 in
set_option maxRecDepth 100000 in
theorem calbLaw_core (S C : Value) (den cden lo hi : Int) (A B : Option Addr) (n c nl cl : Nat) (hS : S = serV den A n c) (hC : C = calV cden B nl cl lo hi) (w : World) (d' er : Int) (n' : Nat) (f : Nat → Sm) (T : ByteArray)
    (H1 : Hid (∀ W, (∃ x, W = gx w x) → Calls Tryd.prog 20 #[S, C] W (SerPost W d' f n' er)))
    (H2 : Hid (∀ W, (∃ x, W = gx w x) → Calls Tryd.prog 21 #[S, C] W (SerPost W d' f n' er)))
    (H3 : Hid (∀ W A' c', SmAt W f n' A' → (∃ x, W = gx w x) → Calls Tryd.prog 16 #[serV d' A' n' c', .int .i64 er] W fun e W' => e = .returned (.string T) ∧ ∃ x, W' = gx W x)) :
    Calls Tryd.prog 4 #[S, C] w fun e w' => e = .returned (.bool true) ∧ ∃ x, w' = gx w x := by
  subst hS hC
  go_enter Tryd.func4, Tryd.ntmps4
  go_wp2
  go_region_held3 (fun W => (∃ x, W = gx w x) ∧ W.cell? ⟨w.heap.size, 0, none⟩ = some (.int .i64 den) ∧ W.cell? ⟨w.heap.size, 1, none⟩ = some (.slice A n c) ∧ W.cell? ⟨w.heap.size + 1, 0, none⟩ = some (.int .i64 cden) ∧ W.cell? ⟨w.heap.size + 1, 1, none⟩ = some (.slice B nl cl) ∧ W.cell? ⟨w.heap.size + 1, 2, none⟩ = some (.int .i64 lo) ∧ W.cell? ⟨w.heap.size + 1, 3, none⟩ = some (.int .i64 hi))
    (refine ⟨(by repeat (first | (with_reducible exact Gx.refl _) | (with_reducible assumption) | (with_reducible refine Gx.gx ?_) | (with_reducible refine Gx.alloc ?_) | (with_reducible refine Gx.drew ?_) | (with_reducible refine Gx.drewN ?_) | (with_reducible refine Gx.setRow ?_ (by first | omega | (simp; done) | (simp <;> omega))) | (with_reducible refine Gx.setCell ?_ (by first | omega | (simp; done) | (simp <;> omega))))), ?_, ?_, ?_, ?_, ?_, ?_⟩ <;> first | assumption | exact cell_keep_gx ‹_› | go_keep | (simp [go_sem]; done))
    (first
    | (go_at_call 20; refine (H1.out _ (by repeat (first | (with_reducible exact Gx.refl _) | (with_reducible assumption) | (with_reducible refine Gx.gx ?_) | (with_reducible refine Gx.alloc ?_) | (with_reducible refine Gx.drew ?_) | (with_reducible refine Gx.drewN ?_) | (with_reducible refine Gx.setRow ?_ (by first | omega | (simp; done) | (simp <;> omega))) | (with_reducible refine Gx.setCell ?_ (by first | omega | (simp; done) | (simp <;> omega)))))).mono ?_; rintro e W1 ⟨A1, c1, x1, rfl, rfl, hs1⟩)
    | (go_at_call 21; refine (H2.out _ (by repeat (first | (with_reducible exact Gx.refl _) | (with_reducible assumption) | (with_reducible refine Gx.gx ?_) | (with_reducible refine Gx.alloc ?_) | (with_reducible refine Gx.drew ?_) | (with_reducible refine Gx.drewN ?_) | (with_reducible refine Gx.setRow ?_ (by first | omega | (simp; done) | (simp <;> omega))) | (with_reducible refine Gx.setCell ?_ (by first | omega | (simp; done) | (simp <;> omega)))))).mono ?_; rintro e W1 ⟨A2, c2, x2, rfl, rfl, hs2⟩)
    | (go_at_call 16; refine (H3.out _ _ _ (by first | assumption | (rw [← gx_gx]; assumption) | (simp only [gx_gx, gx_drew, drew_gx] at *; assumption)) (by repeat (first | (with_reducible exact Gx.refl _) | (with_reducible assumption) | (with_reducible refine Gx.gx ?_) | (with_reducible refine Gx.alloc ?_) | (with_reducible refine Gx.drew ?_) | (with_reducible refine Gx.drewN ?_) | (with_reducible refine Gx.setRow ?_ (by first | omega | (simp; done) | (simp <;> omega))) | (with_reducible refine Gx.setCell ?_ (by first | omega | (simp; done) | (simp <;> omega)))))).mono ?_; rintro e w' ⟨rfl, x3, rfl⟩)
    | (go_at_call 19; refine (holds_any _).mono ?_; rintro e w' ⟨rfl, x4, rfl⟩))
  all_goals go_wp2
  all_goals go_ret
  all_goals exact ⟨rfl, (by repeat (first | (with_reducible exact Gx.refl _) | (with_reducible assumption) | (with_reducible refine Gx.gx ?_) | (with_reducible refine Gx.alloc ?_) | (with_reducible refine Gx.drew ?_) | (with_reducible refine Gx.drewN ?_) | (with_reducible refine Gx.setRow ?_ (by first | omega | (simp; done) | (simp <;> omega))) | (with_reducible refine Gx.setCell ?_ (by first | omega | (simp; done) | (simp <;> omega)))))⟩
theorem firstOf_in (f : Nat → Int) : ∀ k, firstOf f k = 0 ∨ ∃ i, i < k ∧ firstOf f k = f i
  | 0 => .inl rfl
  | k + 1 => by
    show (if firstOf f k = 0 then f k else firstOf f k) = 0 ∨ ∃ i, i < k + 1 ∧ (if firstOf f k = 0 then f k else firstOf f k) = f i
    by_cases h : firstOf f k = 0
    · rw [if_pos h]; exact .inr ⟨k, by omega, rfl⟩
    · rw [if_neg h]
      rcases firstOf_in f k with h2 | ⟨i, h1, h2⟩
      · exact absurd h2 h
      · exact .inr ⟨i, by omega, h2⟩
theorem bad1_fit (g : Nat → Ln) (i : Nat) : Fit (bad1 g i) := by
  unfold Fit bad1
  repeat' split
  all_goals omega
theorem bad2_fit (g : Nat → Ln) (i : Nat) : Fit (bad2 g i) := by
  unfold Fit bad2
  repeat' split
  all_goals omega
theorem badS_fit (g : Nat → Sm) (i : Nat) : Fit (badS g i) := by
  unfold Fit badS
  repeat' split
  all_goals omega
theorem firstOf_fit {f : Nat → Int} (h : ∀ i, Fit (f i)) (k : Nat) : Fit (firstOf f k) := by
  rcases firstOf_in f k with h2 | ⟨i, -, h2⟩
  · rw [h2]; unfold Fit; omega
  · rw [h2]; exact h i
theorem lnsE_fit (g : Nat → Ln) (n : Nat) : Fit (lnsE g n) := by
  unfold lnsE
  split
  · exact firstOf_fit (bad2_fit g) n
  · exact firstOf_fit (bad1_fit g) n
theorem serE_fit (den : Int) (g : Nat → Sm) (n : Nat) : Fit (serE den g n) := by
  unfold serE
  repeat' split
  · unfold Fit; omega
  · unfold Fit; omega
  · exact firstOf_fit (badS_fit g) n
theorem calE_fit (den : Int) (g : Nat → Ln) (n : Nat) (lo hi : Int) : Fit (calE den g n lo hi) := by
  unfold calE
  repeat' split
  · unfold Fit; omega
  · unfold Fit; omega
  · unfold Fit; omega
  · exact lnsE_fit g n
  · unfold Fit; omega
  · unfold Fit; omega
theorem calbE_fit (den : Int) (g : Nat → Sm) (n : Nat) (cden : Int) (L : Nat → Ln) (nl : Nat) (lo hi : Int) : Fit (calbE den g n cden L nl lo hi) := by
  by_cases h1 : serE den g n = 0
  · by_cases h2 : calE cden L nl lo hi = 0
    · by_cases h3 : den = 1
      · rw [calbE_4 h1 h2 h3]; unfold Fit; omega
      · rw [calbE_3 h1 h2 h3]; unfold Fit; omega
    · rw [calbE_2 h1 h2]; exact calE_fit _ _ _ _ _
  · rw [calbE_1 h1]; exact serE_fit _ _ _
theorem calE_dn {den : Int} {g : Nat → Ln} {n : Nat} {lo hi : Int} (h : calE den g n lo hi = 0) : 1 ≤ den ∧ den ≤ 1000000 := by
  unfold calE at h
  split at h
  · omega
  · omega
theorem calbE_0 {den : Int} {g : Nat → Sm} {n : Nat} {cden : Int} {L : Nat → Ln} {nl : Nat} {lo hi : Int} (h : calbE den g n cden L nl lo hi = 0) : serE den g n = 0 ∧ calE cden L nl lo hi = 0 := by
  by_cases h1 : serE den g n = 0
  · by_cases h2 : calE cden L nl lo hi = 0
    · exact ⟨h1, h2⟩
    · rw [calbE_2 h1 h2] at h; exact absurd h h2
  · rw [calbE_1 h1] at h; exact absurd h h1
theorem CalIs.fit {L : Nat → Ln} {nl : Nat} {lo hi : Int} {x y : Sm} (h : CalIs L nl lo hi x y) (hx : smOk x) (hlo : isN lo) (hhi : isN hi) : Fit y.t ∧ Fit y.n ∧ Fit y.m := by
  unfold smOk at hx
  unfold isN at hlo hhi
  rcases h with ⟨_, rfl⟩ | ⟨_, m, is, ha, rfl⟩
  · unfold Fit; omega
  · rcases ha with ⟨rfl, k, _, _, _, _, h1, h2⟩ | ⟨rfl, _⟩
    · rw [if_pos rfl]; unfold Fit; refine ⟨?_, ?_, ?_⟩ <;> (dsimp only; omega)
    · rw [if_neg (by decide)]; unfold Fit; refine ⟨?_, ?_, ?_⟩ <;> (dsimp only; omega)
theorem calbLaw (den cden lo hi : Int) (A B : Option Addr) (n c nl cl : Nat) (g : Nat → Sm) (L : Nat → Ln) (w : World) (hp : Pow w) (hL : SmAt w g n A) (hB : LnAt w L nl B) :
    Calls Tryd.prog 4 #[serV den A n c, calV cden B nl cl lo hi] w fun e w' => e = .returned (.bool true) ∧ ∃ x, w' = gx w x := by
  obtain ⟨f, hf⟩ : ∃ f : Nat → Sm, ∀ i, CalIs L nl lo hi (g i) (f i) := ⟨fun i => Classical.choose (CalIs.ex L nl lo hi (g i)), fun i => Classical.choose_spec (CalIs.ex L nl lo hi (g i))⟩
  have hfit := calbE_fit den g n cden L nl lo hi
  have hd : Fit (if calbE den g n cden L nl lo hi = 0 then cden else 0) := by
    by_cases h : calbE den g n cden L nl lo hi = 0
    · rw [if_pos h]; have := calE_dn (calbE_0 h).2; unfold Fit; omega
    · rw [if_neg h]; unfold Fit; omega
  have hn : (if calbE den g n cden L nl lo hi = 0 then n else 0) ≤ 1000000 ∧ FitS f (if calbE den g n cden L nl lo hi = 0 then n else 0) := by
    by_cases h : calbE den g n cden L nl lo hi = 0
    · rw [if_pos h]
      obtain ⟨h1, h2⟩ := calbE_0 h
      obtain ⟨_, h3, h4⟩ := goodS_of h1
      obtain ⟨_, _, _, h5, h6, _⟩ := calE_ok h2
      exact ⟨by omega, fun i hi => (hf i).fit (h4.ok i hi) h5 h6⟩
    · rw [if_neg h]; exact ⟨by omega, fun i hi => by omega⟩
  have C1 : Hid (∀ W, (∃ x, W = gx w x) → Calls Tryd.prog 20 #[serV den A n c, calV cden B nl cl lo hi] W (SerPost W (if calbE den g n cden L nl lo hi = 0 then cden else 0) f (if calbE den g n cden L nl lo hi = 0 then n else 0) (calbE den g n cden L nl lo hi))) := by
    rintro W ⟨x, rfl⟩; exact Calibrate_any den g n c A cden L nl cl B lo hi _ hL.gx hB.gx f hf
  have C2 : Hid (∀ W, (∃ x, W = gx w x) → Calls Tryd.prog 21 #[serV den A n c, calV cden B nl cl lo hi] W (SerPost W (if calbE den g n cden L nl lo hi = 0 then cden else 0) f (if calbE den g n cden L nl lo hi = 0 then n else 0) (calbE den g n cden L nl lo hi))) := by
    rintro W ⟨x, rfl⟩; exact RCalibrate_any den g n c A cden L nl cl B lo hi _ hL.gx hB.gx f hf
  generalize (if calbE den g n cden L nl lo hi = 0 then cden else 0) = d' at *
  generalize (if calbE den g n cden L nl lo hi = 0 then n else 0) = n' at *
  generalize calbE den g n cden L nl lo hi = er at *
  refine calbLaw_core _ _ den cden lo hi A B n c nl cl rfl rfl w d' er n' f (toldT d' f n' er) C1 C2 ?_
  rintro W A' c' hs ⟨x, rfl⟩
  exact told_any _ d' f n' c' A' er hd hn.2 hn.1 hfit hp.gx.here hs
end Go.Proofs.YtjlokobgdkkppaaDoor
