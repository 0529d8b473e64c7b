/-
  Masked, under a mask of one grain.
-/
import Derived.Test.YtfbhjgaiejjfaaaFMs
namespace Go.Proofs.Ytfbhjgaiejjfaaa
open Go.RowKit
-- AT2
-- AT3

theorem tksAt_far {W : World} {J : Nat → TkR} {n : Nat} {A : Option Addr} {K q : Nat} {u : Value} (H : TksAt W J n A) (hA : ∀ b o, A = some ⟨b, o, none⟩ → K ≠ b) (hS : ∀ i, i < n → ∀ b o, (J i).A = some ⟨b, o, none⟩ → K ≠ b) : TksAt (W.setCell ⟨K, q, none⟩ u) J n A := by
  unfold TksAt at *
  intro h0
  obtain ⟨b, o, rfl, hc⟩ := H h0
  refine ⟨b, o, rfl, fun i hi => ?_⟩
  obtain ⟨⟨c0, c1, c2, c3⟩, hs⟩ := hc i hi
  have ne : ∀ p : Nat, (⟨K, q, none⟩ : Addr) ≠ ⟨b, p, none⟩ := fun p e => by injection e with e1; exact hA b o rfl e1
  exact ⟨⟨setc_other c0 (ne _), setc_other c1 (ne _), setc_other c2 (ne _), setc_other c3 (ne _)⟩, smAt_far hs (hS i hi)⟩
theorem smAt_sw {W : World} {o1 o2 : Obj} {x : Ext} {h : Nat → Sm} {n : Nat} {A : Option Addr} (H : SmAt (gx (W.alloc o1) x) h n A) (hne : ∀ b o, A = some ⟨b, o, none⟩ → b ≠ W.heap.size) : SmAt (gx (W.alloc o2) x) h n A := by
  refine SmAt.mk fun h0 => ?_
  obtain ⟨b, o, rfl, -, HC⟩ := H.get h0
  have hb := hne b o rfl
  refine ⟨b, o, rfl, fun i hi => ?_⟩
  rw [cell_swap W o1 o2 x _ hb, cell_swap W o1 o2 x _ hb, cell_swap W o1 o2 x _ hb]
  exact HC.out i hi
theorem tksAt_sw {W : World} {o1 o2 : Obj} {x : Ext} {J : Nat → TkR} {n : Nat} {A : Option Addr} (H : TksAt (gx (W.alloc o1) x) J n A) (hA : ∀ b o, A = some ⟨b, o, none⟩ → b ≠ W.heap.size) (hS : ∀ i, i < n → ∀ b o, (J i).A = some ⟨b, o, none⟩ → b ≠ W.heap.size) : TksAt (gx (W.alloc o2) x) J n A := by
  unfold TksAt at *
  intro h0
  obtain ⟨b, o, rfl, hc⟩ := H h0
  have hb := hA b o rfl
  refine ⟨b, o, rfl, fun i hi => ?_⟩
  rw [cell_swap W o1 o2 x _ hb, cell_swap W o1 o2 x _ hb, cell_swap W o1 o2 x _ hb, cell_swap W o1 o2 x _ hb]
  exact ⟨(hc i hi).1, smAt_sw (hc i hi).2 (hS i hi)⟩
set_option maxHeartbeats 4000000 in
set_option maxRecDepth 100000 in
theorem Masked_a (tl rt : ByteArray) (dy fr to : Int) (A : Option Addr) (n c : Nat) (gg : Nat) (E : Int) (h0 : E ≠ 0) (w : World) (HC : Hid (∀ W, (∃ x, W = gx w x) → Calls Try.prog 8 #[flV tl rt dy fr to A n c] W fun e W' => e = .returned (.int .i64 E) ∧ ∃ x, W' = gx W x)) :
    Calls Try.prog 7 #[flV tl rt dy fr to A n c, .agg #[.bool false, .int .i64 1, .slice none 0 0, .slice (some ⟨gg, 0, none⟩) 1 1, .int .i64 1]] w fun e w' => e = .returned (.tuple #[flV ⟨#[]⟩ ⟨#[]⟩ 0 0 0 none 0 0, .int .i64 E]) ∧ ∃ x, w' = gx w x := by
  have k0 := beq0 h0
  have k1 := bne0 h0
  have k2 := ne0t h0
  clear h0
  go_enter Try.func7, Try.ntmps7
  go_wp2_with (first | go_skip | (go_at_call 8; refine (HC.out _ (by repeat (first | (with_reducible exact Gx.refl _) | (with_reducible assumption) | (with_reducible refine Gx.gx ?_) | (with_reducible refine Gx.alloc ?_) | (with_reducible refine Gx.drew ?_) | (with_reducible refine Gx.drewN ?_) | (with_reducible refine Gx.setRow ?_ (by first | omega | (simp; done) | (simp <;> omega))) | (with_reducible refine Gx.setCell ?_ (by first | omega | (simp; done) | (simp <;> omega)))))).mono ?_; rintro e w' ⟨rfl, x1, rfl⟩))
  exact bodyPost_ret (v := .tuple #[flV ⟨#[]⟩ ⟨#[]⟩ 0 0 0 none 0 0, .int .i64 E]) (by simp [results, Try.results7, go_sem]) rfl ⟨rfl, (by repeat (first | (with_reducible exact Gx.refl _) | (with_reducible assumption) | (with_reducible refine Gx.gx ?_) | (with_reducible refine Gx.alloc ?_) | (with_reducible refine Gx.drew ?_) | (with_reducible refine Gx.drewN ?_) | (with_reducible refine Gx.setRow ?_ (by first | omega | (simp; done) | (simp <;> omega))) | (with_reducible refine Gx.setCell ?_ (by first | omega | (simp; done) | (simp <;> omega)))))⟩
set_option maxHeartbeats 4000000 in
set_option maxRecDepth 100000 in
theorem Masked_b (tl rt : ByteArray) (dy fr to : Int) (A : Option Addr) (n c : Nat) (gg : Nat) (E : Int) (h0 : E ≠ 0) (w : World) (HC : Hid (∀ W, (∃ x, W = gx w x) → Calls Try.prog 8 #[flV tl rt dy fr to A n c] W fun e W' => e = .returned (.int .i64 0) ∧ ∃ x, W' = gx W x)) (HK : Hid (∀ W, (∃ x, W = gx w x) → Calls Try.prog 15 #[.agg #[.bool false, .int .i64 1, .slice none 0 0, .slice (some ⟨gg, 0, none⟩) 1 1, .int .i64 1]] W fun e W' => e = .returned (.int .i64 E) ∧ ∃ x, W' = gx W x)) :
    Calls Try.prog 7 #[flV tl rt dy fr to A n c, .agg #[.bool false, .int .i64 1, .slice none 0 0, .slice (some ⟨gg, 0, none⟩) 1 1, .int .i64 1]] w fun e w' => e = .returned (.tuple #[flV ⟨#[]⟩ ⟨#[]⟩ 0 0 0 none 0 0, .int .i64 E]) ∧ ∃ x, w' = gx w x := by
  have k0 := beq0 h0
  have k1 := bne0 h0
  have k2 := ne0t h0
  clear h0
  go_enter Try.func7, Try.ntmps7
  go_wp2_with (first | go_skip | (go_at_call 8; refine (HC.out _ (by repeat (first | (with_reducible exact Gx.refl _) | (with_reducible assumption) | (with_reducible refine Gx.gx ?_) | (with_reducible refine Gx.alloc ?_) | (with_reducible refine Gx.drew ?_) | (with_reducible refine Gx.drewN ?_) | (with_reducible refine Gx.setRow ?_ (by first | omega | (simp; done) | (simp <;> omega))) | (with_reducible refine Gx.setCell ?_ (by first | omega | (simp; done) | (simp <;> omega)))))).mono ?_; rintro e w' ⟨rfl, x1, rfl⟩) | (go_at_call 15; refine (HK.out _ (by repeat (first | (with_reducible exact Gx.refl _) | (with_reducible assumption) | (with_reducible refine Gx.gx ?_) | (with_reducible refine Gx.alloc ?_) | (with_reducible refine Gx.drew ?_) | (with_reducible refine Gx.drewN ?_) | (with_reducible refine Gx.setRow ?_ (by first | omega | (simp; done) | (simp <;> omega))) | (with_reducible refine Gx.setCell ?_ (by first | omega | (simp; done) | (simp <;> omega)))))).mono ?_; rintro e w' ⟨rfl, x2, rfl⟩))
  exact bodyPost_ret (v := .tuple #[flV ⟨#[]⟩ ⟨#[]⟩ 0 0 0 none 0 0, .int .i64 E]) (by simp [results, Try.results7, go_sem]) rfl ⟨rfl, (by repeat (first | (with_reducible exact Gx.refl _) | (with_reducible assumption) | (with_reducible refine Gx.gx ?_) | (with_reducible refine Gx.alloc ?_) | (with_reducible refine Gx.drew ?_) | (with_reducible refine Gx.drewN ?_) | (with_reducible refine Gx.setRow ?_ (by first | omega | (simp; done) | (simp <;> omega))) | (with_reducible refine Gx.setCell ?_ (by first | omega | (simp; done) | (simp <;> omega)))))⟩
set_option maxHeartbeats 4000000 in
set_option maxRecDepth 100000 in
theorem Masked_c (tl rt : ByteArray) (dy fr to : Int) (A : Option Addr) (n c : Nat) (gg : Nat) (J : Nat → TkR) (b : ByteArray) (g : Int) (w : World) (HC : Hid (∀ W, (∃ x, W = gx w x) → Calls Try.prog 8 #[flV tl rt dy fr to A n c] W fun e W' => e = .returned (.int .i64 0) ∧ ∃ x, W' = gx W x)) (HK : Hid (∀ W, (∃ x, W = gx w x) → Calls Try.prog 15 #[.agg #[.bool false, .int .i64 1, .slice none 0 0, .slice (some ⟨gg, 0, none⟩) 1 1, .int .i64 1]] W fun e W' => e = .returned (.int .i64 0) ∧ ∃ x, W' = gx W x))
    (HM : Hid (∀ W, (∃ x, W = gx w x) → Calls Try.prog 16 #[flV tl rt dy fr to A n c, .agg #[.bool false, .int .i64 1, .slice none 0 0, .slice (some ⟨gg, 0, none⟩) 1 1, .int .i64 1]] W fun e W' => ∃ J' A' c', e = .returned (flV tl rt dy fr to A' n c') ∧ (∃ x, W' = gx W x) ∧ TksAt W' J' n A' ∧ (∀ i, i < n → UnderG b g (J i) (J' i)) ∧ (n ≤ c' ∧ c' ≤ 9223372036854775807) ∧ (∀ q o, A' = some ⟨q, o, none⟩ → W.heap.size ≤ q) ∧ ∀ i, i < n → ∀ q o, (J' i).A = some ⟨q, o, none⟩ → W.heap.size ≤ q)) :
    Calls Try.prog 7 #[flV tl rt dy fr to A n c, .agg #[.bool false, .int .i64 1, .slice none 0 0, .slice (some ⟨gg, 0, none⟩) 1 1, .int .i64 1]] w fun e w' => ∃ J' A' c', e = .returned (.tuple #[flV tl rt dy fr to A' n c', .int .i64 0]) ∧ (∃ x, w' = gx w x) ∧ TksAt w' J' n A' ∧ (∀ i, i < n → UnderG b g (J i) (J' i)) ∧ (n ≤ c' ∧ c' ≤ 9223372036854775807) := by
  go_enter Try.func7, Try.ntmps7
  go_wp2_with (first | go_skip | (go_at_call 8; refine (HC.out _ (by repeat (first | (with_reducible exact Gx.refl _) | (with_reducible assumption) | (with_reducible refine Gx.gx ?_) | (with_reducible refine Gx.alloc ?_) | (with_reducible refine Gx.drew ?_) | (with_reducible refine Gx.drewN ?_) | (with_reducible refine Gx.setRow ?_ (by first | omega | (simp; done) | (simp <;> omega))) | (with_reducible refine Gx.setCell ?_ (by first | omega | (simp; done) | (simp <;> omega)))))).mono ?_; rintro e w' ⟨rfl, x1, rfl⟩) | (go_at_call 15; refine (HK.out _ (by repeat (first | (with_reducible exact Gx.refl _) | (with_reducible assumption) | (with_reducible refine Gx.gx ?_) | (with_reducible refine Gx.alloc ?_) | (with_reducible refine Gx.drew ?_) | (with_reducible refine Gx.drewN ?_) | (with_reducible refine Gx.setRow ?_ (by first | omega | (simp; done) | (simp <;> omega))) | (with_reducible refine Gx.setCell ?_ (by first | omega | (simp; done) | (simp <;> omega)))))).mono ?_; rintro e w' ⟨rfl, x2, rfl⟩) | (go_at_call 16; refine (HM.out _ (by repeat (first | (with_reducible exact Gx.refl _) | (with_reducible assumption) | (with_reducible refine Gx.gx ?_) | (with_reducible refine Gx.alloc ?_) | (with_reducible refine Gx.drew ?_) | (with_reducible refine Gx.drewN ?_) | (with_reducible refine Gx.setRow ?_ (by first | omega | (simp; done) | (simp <;> omega))) | (with_reducible refine Gx.setCell ?_ (by first | omega | (simp; done) | (simp <;> omega)))))).mono ?_; rintro e W4 ⟨J', A', c', rfl, hG4, hT4, hU4, hB4, hA4, hS4⟩; obtain ⟨x4, rfl⟩ := hG4))
  refine bodyPost_ret (v := .tuple #[flV tl rt dy fr to A' n c', .int .i64 0]) (by simp [results, Try.results7, go_sem]) rfl ?_
  simp only [gx_gx] at hT4
  exact ⟨J', A', c', rfl, (by repeat (first | (with_reducible exact Gx.refl _) | (with_reducible assumption) | (with_reducible refine Gx.gx ?_) | (with_reducible refine Gx.alloc ?_) | (with_reducible refine Gx.drew ?_) | (with_reducible refine Gx.drewN ?_) | (with_reducible refine Gx.setRow ?_ (by first | omega | (simp; done) | (simp <;> omega))) | (with_reducible refine Gx.setCell ?_ (by first | omega | (simp; done) | (simp <;> omega))))), tksAt_sw hT4 (fun q o e => by have := hA4 q o e; simp at this; simp; omega) (fun i hi q o e => by have := hS4 i hi q o e; simp at this; simp; omega), hU4, hB4⟩
end Go.Proofs.Ytfbhjgaiejjfaaa
