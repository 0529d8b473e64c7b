/-
  SeriesCombineMatchesSpec: the law's walk.
-/
import Derived.Test.YtikgfidpdghkpaaDoorSCmb
import Derived.Test.YtikgfidpdghkpaaDoorSRCmb
import Derived.Test.YtikgfidpdghkpaaDoorSStp
import Derived.Test.YtikgfidpdghkpaaDoorSRStp
import Derived.Test.YtikgfidpdghkpaaDoorSHolds
import Derived.Test.YtikgfidpdghkpaaDoorSTold
namespace Go.Proofs.YtikgfidpdghkpaaDoor
open Go.RowKit
-- AT2
-- AT3

theorem firstOf_in (f : Nat → Int) : ∀ k, firstOf f k = 0 ∨ ∃ i, i < k ∧ firstOf f k = f i
  | 0 => .inl rfl
  | k + 1 => by
    show (if firstOf f k = 0 then f k else firstOf f k) = 0 ∨ ∃ i, i < k + 1 ∧ (if firstOf f k = 0 then f k else firstOf f k) = f i
    by_cases h : firstOf f k = 0
    · rw [if_pos h]; exact .inr ⟨k, by omega, rfl⟩
    · rw [if_neg h]
      rcases firstOf_in f k with h2 | ⟨i, h1, h2⟩
      · exact absurd h2 h
      · exact .inr ⟨i, by omega, h2⟩
theorem badS_fit (g : Nat → Sm) (i : Nat) : Fit (badS g i) := by
  unfold Fit badS
  repeat' split
  all_goals omega
theorem firstOf_fit {f : Nat → Int} (h : ∀ i, Fit (f i)) (k : Nat) : Fit (firstOf f k) := by
  rcases firstOf_in f k with h2 | ⟨i, -, h2⟩
  · rw [h2]; unfold Fit; omega
  · rw [h2]; exact h i
theorem serE_fit (den : Int) (g : Nat → Sm) (n : Nat) : Fit (serE den g n) := by
  unfold serE
  repeat' split
  · unfold Fit; omega
  · unfold Fit; omega
  · exact firstOf_fit (badS_fit g) n
set_option maxHeartbeats 4000000 in
set_option maxRecDepth 100000 in
theorem Cmb_e1 (den : Int) (g : Nat → Sm) (n c : Nat) (A : Option Addr) (den2 : Int) (h : Nat → Sm) (m cb : Nat) (B : Option Addr) (op lg : Int) (w : World) (hL : SmAt w g n A) (hM : SmAt w h m B) (f : Nat → Sm) (q : Int) (hs : pairE den g n den2 h m = q) (hq : q ≠ 0) :
    Calls Tryd.prog 10 #[serV den A n c, serV den2 B m cb, .int .i64 op, .int .i64 lg] w (SerPost w 0 f 0 q) := by
  have n1 := ne0 hq
  have n2 := ne0' hq
  clear hq
  go_enter Tryd.func10, Tryd.ntmps10
  go_wp2_with (go_at_call 26; refine (checkBoth_any den g n c A den2 h m cb B _ (smAt_of hL (by repeat (first | (with_reducible exact Gx.refl _) | (with_reducible assumption) | (with_reducible refine Gx.gx ?_) | (with_reducible refine Gx.alloc ?_) | (with_reducible refine Gx.drew ?_) | (with_reducible refine Gx.drewN ?_) | (with_reducible refine Gx.setRow ?_ (by first | omega | (simp; done) | (simp <;> omega))) | (with_reducible refine Gx.setCell ?_ (by first | omega | (simp; done) | (simp <;> omega)))))) (smAt_of hM (by repeat (first | (with_reducible exact Gx.refl _) | (with_reducible assumption) | (with_reducible refine Gx.gx ?_) | (with_reducible refine Gx.alloc ?_) | (with_reducible refine Gx.drew ?_) | (with_reducible refine Gx.drewN ?_) | (with_reducible refine Gx.setRow ?_ (by first | omega | (simp; done) | (simp <;> omega))) | (with_reducible refine Gx.setCell ?_ (by first | omega | (simp; done) | (simp <;> omega))))))).mono ?_; rw [hs]; rintro e w' ⟨rfl, x1, rfl⟩; have hs1 : w.heap.size + 1 + 1 < w.heap.size + 1 + 1 + 1 + x1.n := (by omega))
  refine bodyPost_ret (v := .tuple #[serV 0 none 0 0, .int .i64 q]) (by simp [results, Tryd.results10, go_sem]) rfl ?_
  exact SerPost.zero (by repeat (first | (with_reducible exact Gx.refl _) | (with_reducible assumption) | (with_reducible refine Gx.gx ?_) | (with_reducible refine Gx.alloc ?_) | (with_reducible refine Gx.drew ?_) | (with_reducible refine Gx.drewN ?_) | (with_reducible refine Gx.setRow ?_ (by first | omega | (simp; done) | (simp <;> omega))) | (with_reducible refine Gx.setCell ?_ (by first | omega | (simp; done) | (simp <;> omega)))))
set_option maxHeartbeats 4000000 in
set_option maxRecDepth 100000 in
theorem Cmb_e2 (den : Int) (g : Nat → Sm) (n c : Nat) (A : Option Addr) (den2 : Int) (h : Nat → Sm) (m cb : Nat) (B : Option Addr) (op lg : Int) (w : World) (hL : SmAt w g n A) (hM : SmAt w h m B) (f : Nat → Sm) (hs : pairE den g n den2 h m = 0) (ho : ¬ (1 ≤ op ∧ op ≤ 5)) :
    Calls Tryd.prog 10 #[serV den A n c, serV den2 B m cb, .int .i64 op, .int .i64 lg] w (SerPost w 0 f 0 7) := by
  go_enter Tryd.func10, Tryd.ntmps10
  go_wp2_with first
    | (go_at_call 26; refine (checkBoth_any den g n c A den2 h m cb B _ (smAt_of hL (by repeat (first | (with_reducible exact Gx.refl _) | (with_reducible assumption) | (with_reducible refine Gx.gx ?_) | (with_reducible refine Gx.alloc ?_) | (with_reducible refine Gx.drew ?_) | (with_reducible refine Gx.drewN ?_) | (with_reducible refine Gx.setRow ?_ (by first | omega | (simp; done) | (simp <;> omega))) | (with_reducible refine Gx.setCell ?_ (by first | omega | (simp; done) | (simp <;> omega)))))) (smAt_of hM (by repeat (first | (with_reducible exact Gx.refl _) | (with_reducible assumption) | (with_reducible refine Gx.gx ?_) | (with_reducible refine Gx.alloc ?_) | (with_reducible refine Gx.drew ?_) | (with_reducible refine Gx.drewN ?_) | (with_reducible refine Gx.setRow ?_ (by first | omega | (simp; done) | (simp <;> omega))) | (with_reducible refine Gx.setCell ?_ (by first | omega | (simp; done) | (simp <;> omega))))))).mono ?_; rw [hs]; rintro e w' ⟨rfl, x1, rfl⟩; have hs1 : w.heap.size + 1 + 1 < w.heap.size + 1 + 1 + 1 + x1.n := (by omega))
    | (go_at_call 27; refine (operation_no op ho _).mono ?_; rintro e w' ⟨rfl, x2, rfl⟩; have hs2 : w.heap.size + 1 + 1 < w.heap.size + 1 + 1 + 1 + (x1.app x2).n := (by omega))
  refine bodyPost_ret (v := .tuple #[serV 0 none 0 0, .int .i64 7]) (by simp [results, Tryd.results10, go_sem]) rfl ?_
  exact SerPost.zero (by repeat (first | (with_reducible exact Gx.refl _) | (with_reducible assumption) | (with_reducible refine Gx.gx ?_) | (with_reducible refine Gx.alloc ?_) | (with_reducible refine Gx.drew ?_) | (with_reducible refine Gx.drewN ?_) | (with_reducible refine Gx.setRow ?_ (by first | omega | (simp; done) | (simp <;> omega))) | (with_reducible refine Gx.setCell ?_ (by first | omega | (simp; done) | (simp <;> omega)))))
set_option maxHeartbeats 4000000 in
set_option maxRecDepth 100000 in
theorem Cmb_e3 (den : Int) (g : Nat → Sm) (n c : Nat) (A : Option Addr) (den2 : Int) (h : Nat → Sm) (m cb : Nat) (B : Option Addr) (op lg : Int) (w : World) (hL : SmAt w g n A) (hM : SmAt w h m B) (f : Nat → Sm) (hs : pairE den g n den2 h m = 0) (ho : 1 ≤ op ∧ op ≤ 5) (hl : inB 0 1099511627776 lg = false) :
    Calls Tryd.prog 10 #[serV den A n c, serV den2 B m cb, .int .i64 op, .int .i64 lg] w (SerPost w 0 f 0 9) := by
  obtain ⟨K, -, HO⟩ := operation_yes op ho
  go_enter Tryd.func10, Tryd.ntmps10
  go_wp2_with first
    | (go_at_call 26; refine (checkBoth_any den g n c A den2 h m cb B _ (smAt_of hL (by repeat (first | (with_reducible exact Gx.refl _) | (with_reducible assumption) | (with_reducible refine Gx.gx ?_) | (with_reducible refine Gx.alloc ?_) | (with_reducible refine Gx.drew ?_) | (with_reducible refine Gx.drewN ?_) | (with_reducible refine Gx.setRow ?_ (by first | omega | (simp; done) | (simp <;> omega))) | (with_reducible refine Gx.setCell ?_ (by first | omega | (simp; done) | (simp <;> omega)))))) (smAt_of hM (by repeat (first | (with_reducible exact Gx.refl _) | (with_reducible assumption) | (with_reducible refine Gx.gx ?_) | (with_reducible refine Gx.alloc ?_) | (with_reducible refine Gx.drew ?_) | (with_reducible refine Gx.drewN ?_) | (with_reducible refine Gx.setRow ?_ (by first | omega | (simp; done) | (simp <;> omega))) | (with_reducible refine Gx.setCell ?_ (by first | omega | (simp; done) | (simp <;> omega))))))).mono ?_; rw [hs]; rintro e w' ⟨rfl, x1, rfl⟩; have hs1 : w.heap.size + 1 + 1 < w.heap.size + 1 + 1 + 1 + x1.n := (by omega))
    | (go_at_call 27; refine (HO _).mono ?_; rintro e w' ⟨rfl, x2, rfl⟩; have hs2 : w.heap.size + 1 + 1 < w.heap.size + 1 + 1 + 1 + (x1.app x2).n := (by omega))
    | (go_at_call 28; refine (isTime_any _ _).mono ?_; rw [hl]; rintro e w' ⟨rfl, rfl⟩)
  refine bodyPost_ret (v := .tuple #[serV 0 none 0 0, .int .i64 9]) (by simp [results, Tryd.results10, go_sem]) rfl ?_
  exact SerPost.zero (by repeat (first | (with_reducible exact Gx.refl _) | (with_reducible assumption) | (with_reducible refine Gx.gx ?_) | (with_reducible refine Gx.alloc ?_) | (with_reducible refine Gx.drew ?_) | (with_reducible refine Gx.drewN ?_) | (with_reducible refine Gx.setRow ?_ (by first | omega | (simp; done) | (simp <;> omega))) | (with_reducible refine Gx.setCell ?_ (by first | omega | (simp; done) | (simp <;> omega)))))
set_option maxHeartbeats 4000000 in
set_option maxRecDepth 100000 in
theorem RCmb_e1 (den : Int) (g : Nat → Sm) (n c : Nat) (A : Option Addr) (den2 : Int) (h : Nat → Sm) (m cb : Nat) (B : Option Addr) (op lg : Int) (w : World) (hL : SmAt w g n A) (hM : SmAt w h m B) (f : Nat → Sm) (q : Int) (hs : pairE den g n den2 h m = q) (hq : q ≠ 0) :
    Calls Tryd.prog 11 #[serV den A n c, serV den2 B m cb, .int .i64 op, .int .i64 lg] w (SerPost w 0 f 0 q) := by
  have n1 := ne0 hq
  have n2 := ne0' hq
  clear hq
  go_enter Tryd.func11, Tryd.ntmps11
  go_wp2_with (go_at_call 32; refine (pairFault_any den g n c A den2 h m cb B _ (smAt_of hL (by repeat (first | (with_reducible exact Gx.refl _) | (with_reducible assumption) | (with_reducible refine Gx.gx ?_) | (with_reducible refine Gx.alloc ?_) | (with_reducible refine Gx.drew ?_) | (with_reducible refine Gx.drewN ?_) | (with_reducible refine Gx.setRow ?_ (by first | omega | (simp; done) | (simp <;> omega))) | (with_reducible refine Gx.setCell ?_ (by first | omega | (simp; done) | (simp <;> omega)))))) (smAt_of hM (by repeat (first | (with_reducible exact Gx.refl _) | (with_reducible assumption) | (with_reducible refine Gx.gx ?_) | (with_reducible refine Gx.alloc ?_) | (with_reducible refine Gx.drew ?_) | (with_reducible refine Gx.drewN ?_) | (with_reducible refine Gx.setRow ?_ (by first | omega | (simp; done) | (simp <;> omega))) | (with_reducible refine Gx.setCell ?_ (by first | omega | (simp; done) | (simp <;> omega))))))).mono ?_; rw [hs]; rintro e w' ⟨rfl, x1, rfl⟩; have hs1 : w.heap.size + 1 + 1 < w.heap.size + 1 + 1 + 1 + x1.n := (by omega))
  refine bodyPost_ret (v := .tuple #[serV 0 none 0 0, .int .i64 q]) (by simp [results, Tryd.results11, go_sem]) rfl ?_
  exact SerPost.zero (by repeat (first | (with_reducible exact Gx.refl _) | (with_reducible assumption) | (with_reducible refine Gx.gx ?_) | (with_reducible refine Gx.alloc ?_) | (with_reducible refine Gx.drew ?_) | (with_reducible refine Gx.drewN ?_) | (with_reducible refine Gx.setRow ?_ (by first | omega | (simp; done) | (simp <;> omega))) | (with_reducible refine Gx.setCell ?_ (by first | omega | (simp; done) | (simp <;> omega)))))
set_option maxHeartbeats 4000000 in
set_option maxRecDepth 100000 in
theorem RCmb_e2 (den : Int) (g : Nat → Sm) (n c : Nat) (A : Option Addr) (den2 : Int) (h : Nat → Sm) (m cb : Nat) (B : Option Addr) (op lg : Int) (w : World) (hL : SmAt w g n A) (hM : SmAt w h m B) (f : Nat → Sm) (hs : pairE den g n den2 h m = 0) (ho : ¬ (1 ≤ op ∧ op ≤ 5)) :
    Calls Tryd.prog 11 #[serV den A n c, serV den2 B m cb, .int .i64 op, .int .i64 lg] w (SerPost w 0 f 0 7) := by
  go_enter Tryd.func11, Tryd.ntmps11
  go_wp2_with first
    | (go_at_call 32; refine (pairFault_any den g n c A den2 h m cb B _ (smAt_of hL (by repeat (first | (with_reducible exact Gx.refl _) | (with_reducible assumption) | (with_reducible refine Gx.gx ?_) | (with_reducible refine Gx.alloc ?_) | (with_reducible refine Gx.drew ?_) | (with_reducible refine Gx.drewN ?_) | (with_reducible refine Gx.setRow ?_ (by first | omega | (simp; done) | (simp <;> omega))) | (with_reducible refine Gx.setCell ?_ (by first | omega | (simp; done) | (simp <;> omega)))))) (smAt_of hM (by repeat (first | (with_reducible exact Gx.refl _) | (with_reducible assumption) | (with_reducible refine Gx.gx ?_) | (with_reducible refine Gx.alloc ?_) | (with_reducible refine Gx.drew ?_) | (with_reducible refine Gx.drewN ?_) | (with_reducible refine Gx.setRow ?_ (by first | omega | (simp; done) | (simp <;> omega))) | (with_reducible refine Gx.setCell ?_ (by first | omega | (simp; done) | (simp <;> omega))))))).mono ?_; rw [hs]; rintro e w' ⟨rfl, x1, rfl⟩; have hs1 : w.heap.size + 1 + 1 < w.heap.size + 1 + 1 + 1 + x1.n := (by omega))
    | (go_at_call 22; refine (outside_any _ _ _ _).mono ?_; rw [inB_no.2 ho]; rintro e w' ⟨rfl, rfl⟩)
  refine bodyPost_ret (v := .tuple #[serV 0 none 0 0, .int .i64 7]) (by simp [results, Tryd.results11, go_sem]) rfl ?_
  exact SerPost.zero (by repeat (first | (with_reducible exact Gx.refl _) | (with_reducible assumption) | (with_reducible refine Gx.gx ?_) | (with_reducible refine Gx.alloc ?_) | (with_reducible refine Gx.drew ?_) | (with_reducible refine Gx.drewN ?_) | (with_reducible refine Gx.setRow ?_ (by first | omega | (simp; done) | (simp <;> omega))) | (with_reducible refine Gx.setCell ?_ (by first | omega | (simp; done) | (simp <;> omega)))))
set_option maxHeartbeats 4000000 in
set_option maxRecDepth 100000 in
theorem RCmb_e3 (den : Int) (g : Nat → Sm) (n c : Nat) (A : Option Addr) (den2 : Int) (h : Nat → Sm) (m cb : Nat) (B : Option Addr) (op lg : Int) (w : World) (hL : SmAt w g n A) (hM : SmAt w h m B) (f : Nat → Sm) (hs : pairE den g n den2 h m = 0) (ho : 1 ≤ op ∧ op ≤ 5) (hl : inB 0 1099511627776 lg = false) :
    Calls Tryd.prog 11 #[serV den A n c, serV den2 B m cb, .int .i64 op, .int .i64 lg] w (SerPost w 0 f 0 9) := by
  go_enter Tryd.func11, Tryd.ntmps11
  go_wp2_with first
    | (go_at_call 32; refine (pairFault_any den g n c A den2 h m cb B _ (smAt_of hL (by repeat (first | (with_reducible exact Gx.refl _) | (with_reducible assumption) | (with_reducible refine Gx.gx ?_) | (with_reducible refine Gx.alloc ?_) | (with_reducible refine Gx.drew ?_) | (with_reducible refine Gx.drewN ?_) | (with_reducible refine Gx.setRow ?_ (by first | omega | (simp; done) | (simp <;> omega))) | (with_reducible refine Gx.setCell ?_ (by first | omega | (simp; done) | (simp <;> omega)))))) (smAt_of hM (by repeat (first | (with_reducible exact Gx.refl _) | (with_reducible assumption) | (with_reducible refine Gx.gx ?_) | (with_reducible refine Gx.alloc ?_) | (with_reducible refine Gx.drew ?_) | (with_reducible refine Gx.drewN ?_) | (with_reducible refine Gx.setRow ?_ (by first | omega | (simp; done) | (simp <;> omega))) | (with_reducible refine Gx.setCell ?_ (by first | omega | (simp; done) | (simp <;> omega))))))).mono ?_; rw [hs]; rintro e w' ⟨rfl, x1, rfl⟩; have hs1 : w.heap.size + 1 + 1 < w.heap.size + 1 + 1 + 1 + x1.n := (by omega))
    | (go_at_call 22; refine (outside_any _ _ _ _).mono ?_; rw [inB_iff.2 ho]; rintro e w' ⟨rfl, rfl⟩)
    | (go_at_call 22; refine (outside_any _ _ _ _).mono ?_; rw [hl]; rintro e w' ⟨rfl, rfl⟩)
  refine bodyPost_ret (v := .tuple #[serV 0 none 0 0, .int .i64 9]) (by simp [results, Tryd.results11, go_sem]) rfl ?_
  exact SerPost.zero (by repeat (first | (with_reducible exact Gx.refl _) | (with_reducible assumption) | (with_reducible refine Gx.gx ?_) | (with_reducible refine Gx.alloc ?_) | (with_reducible refine Gx.drew ?_) | (with_reducible refine Gx.drewN ?_) | (with_reducible refine Gx.setRow ?_ (by first | omega | (simp; done) | (simp <;> omega))) | (with_reducible refine Gx.setCell ?_ (by first | omega | (simp; done) | (simp <;> omega)))))
theorem firstOf_09 {F : Nat → Int} (hF : ∀ k, F k = 0 ∨ F k = 9) : ∀ n, firstOf F n = 0 ∨ firstOf F n = 9
  | 0 => .inl rfl
  | n + 1 => by
    rw [firstOf_or]
    split
    · exact hF n
    · exact firstOf_09 hF n
theorem cbN_09 (op : Int) (g h : Nat → Sm) (m : Nat) (lg : Int) (k : Nat) : cbN op g h m lg k = 0 ∨ cbN op g h m lg k = 9 := by
  unfold cbN; split
  · exact .inl rfl
  · exact .inr rfl
/-- Combine of both sides: the same. -/
theorem combine_both (den : Int) (g : Nat → Sm) (n c : Nat) (A : Option Addr) (den2 : Int) (h : Nat → Sm) (m cb : Nat) (B : Option Addr) (op lg : Int) (f : Nat → Sm) (hf : ∀ k, f k = cbS op g h m lg k) :
    ∃ (D E : Int) (N : Nat), (∀ W, SmAt W g n A → SmAt W h m B → Calls Tryd.prog 10 #[serV den A n c, serV den2 B m cb, .int .i64 op, .int .i64 lg] W (SerPost W D f N E)) ∧ (∀ W, SmAt W g n A → SmAt W h m B → Calls Tryd.prog 11 #[serV den A n c, serV den2 B m cb, .int .i64 op, .int .i64 lg] W (SerPost W D f N E)) ∧ Fit D ∧ Fit E ∧ N ≤ 1000000 ∧ (∀ i, i < N → smOk (f i) ∨ FitS f N) ∧ FitS f N := by
  by_cases hp : pairE den g n den2 h m = 0
  · by_cases ho : 1 ≤ op ∧ op ≤ 5
    · cases hl : inB 0 1099511627776 lg with
      | false =>
        exact ⟨0, 9, 0, fun W h1 h2 => Cmb_e3 den g n c A den2 h m cb B op lg W h1 h2 f hp ho hl, fun W h1 h2 => RCmb_e3 den g n c A den2 h m cb B op lg W h1 h2 f hp ho hl, by unfold Fit; omega, by unfold Fit; omega, by omega, fun i hi => by omega, fun i hi => by omega⟩
      | true =>
        obtain ⟨s1, s2, rfl⟩ := pairE_0 hp
        obtain ⟨hd, hn, hG⟩ := goodS_of s1
        obtain ⟨_, hm, hH⟩ := goodS_of s2
        obtain ⟨K, OF, HO⟩ := operation_yes op ho
        have go : ∀ (D E : Int) (N : Nat), (firstOf (cbN op g h m lg) n = 0 → D = den ∧ N = n ∧ E = 0) → (firstOf (cbN op g h m lg) n = 9 → D = 0 ∧ N = 0 ∧ E = 9) → (∀ W, SmAt W g n A → SmAt W h m B → Calls Tryd.prog 10 #[serV den A n c, serV den B m cb, .int .i64 op, .int .i64 lg] W (SerPost W D f N E)) ∧ (∀ W, SmAt W g n A → SmAt W h m B → Calls Tryd.prog 11 #[serV den A n c, serV den B m cb, .int .i64 op, .int .i64 lg] W (SerPost W D f N E)) := by
          intro D E N e0 e9
          constructor
          · intro W h1 h2
            refine Combine_core den g n c A h m cb B op lg W h1 h2 hn hm hG hH K OF hl f hf ?_ (fun W => HO W) D E N e0 e9
            rintro W' ⟨x, rfl⟩
            have := checkBoth_any den g n c A den h m cb B _ (h1.gx (x := x)) h2.gx
            rw [hp] at this
            exact this
          · intro W h1 h2
            refine RCombine_core den g n c A h m cb B op lg W h1 h2 hn hm hG hH ho hl f hf ?_ D E N e0 e9
            rintro W' ⟨x, rfl⟩
            have := pairFault_any den g n c A den h m cb B _ (h1.gx (x := x)) h2.gx
            rw [hp] at this
            exact this
        rcases firstOf_09 (cbN_09 op g h m lg) n with e | e
        · have hfit : FitS f n := fun i hi => by
            have hi0 : cbN op g h m lg i = 0 := firstOf_all e i hi
            have hgi := hG.ok i hi
            unfold smOk at hgi
            rw [hf i]
            unfold cbN at hi0
            have hnb : -1125899906842624 ≤ (cbS op g h m lg i).n ∧ (cbS op g h m lg i).n ≤ 1125899906842624 := by
              by_cases hh : -1125899906842624 ≤ (cbS op g h m lg i).n ∧ (cbS op g h m lg i).n ≤ 1125899906842624
              · exact hh
              · rw [if_neg hh] at hi0; omega
            by_cases hy : 3 ≤ (g i).m ∧ heldB h (aheadN h ((g i).t + 1) m) (g i).t lg = true
            · have hv := heldV_yes hy.2
              have hb := heldB_iff.1 hy.2
              have hok := hH.ok (aheadN h ((g i).t + 1) m - 1) (by have := aheadN_le h ((g i).t + 1) m; omega)
              unfold smOk at hok
              rw [cbS_yes hy.1 hy.2] at hnb ⊢
              rw [hv] at hnb ⊢
              unfold Fit
              refine ⟨?_, ?_, ?_⟩ <;> (dsimp only at hnb ⊢; omega)
            · rw [cbS_no hy]
              unfold Fit
              refine ⟨?_, ?_, ?_⟩ <;> (dsimp only; omega)
          obtain ⟨k1, k2⟩ := go den 0 n (fun _ => ⟨rfl, rfl, rfl⟩) (fun e' => by rw [e] at e'; omega)
          exact ⟨den, 0, n, k1, k2, by unfold Fit; omega, by unfold Fit; omega, by omega, fun i hi => .inr hfit, hfit⟩
        · obtain ⟨k1, k2⟩ := go 0 9 0 (fun e' => by rw [e] at e'; omega) (fun _ => ⟨rfl, rfl, rfl⟩)
          exact ⟨0, 9, 0, k1, k2, by unfold Fit; omega, by unfold Fit; omega, by omega, fun i hi => by omega, fun i hi => by omega⟩
    · exact ⟨0, 7, 0, fun W h1 h2 => Cmb_e2 den g n c A den2 h m cb B op lg W h1 h2 f hp ho, fun W h1 h2 => RCmb_e2 den g n c A den2 h m cb B op lg W h1 h2 f hp ho, by unfold Fit; omega, by unfold Fit; omega, by omega, fun i hi => by omega, fun i hi => by omega⟩
  · refine ⟨0, pairE den g n den2 h m, 0, fun W h1 h2 => Cmb_e1 den g n c A den2 h m cb B op lg W h1 h2 f _ rfl hp, fun W h1 h2 => RCmb_e1 den g n c A den2 h m cb B op lg W h1 h2 f _ rfl hp, by unfold Fit; omega, ?_, by omega, fun i hi => by omega, fun i hi => by omega⟩
    by_cases h1 : serE den g n = 0
    · by_cases h2 : serE den2 h m = 0
      · by_cases h3 : den = den2
        · rw [pairE_4 h1 h2 h3]; unfold Fit; omega
        · rw [pairE_3 h1 h2 h3]; unfold Fit; omega
      · rw [pairE_2 h1 h2]; exact serE_fit _ _ _
    · rw [pairE_1 h1]; exact serE_fit _ _ _
set_option maxHeartbeats 4000000 in
set_option maxRecDepth 100000 in
theorem Stp_bad (den : Int) (g : Nat → Sm) (n c : Nat) (A : Option Addr) (lg : Int) (w : World) (hL : SmAt w g n A) (q : Int) (hs : holdE den g n 0 lg = q) (hq : q ≠ 0) :
    Calls Tryd.prog 12 #[serV den A n c, .int .i64 lg] w fun e w' => e = .returned (.tuple #[ratV 0 0, .int .i64 0, .int .i64 q]) ∧ ∃ x, w' = gx w x := by
  have n1 := ne0 hq
  have n2 := ne0' hq
  clear hq
  go_enter Tryd.func12, Tryd.ntmps12
  go_wp2_with (go_at_call 36; refine (checkHold_any den g n c A 0 lg _ (smAt_of hL (by repeat (first | (with_reducible exact Gx.refl _) | (with_reducible assumption) | (with_reducible refine Gx.gx ?_) | (with_reducible refine Gx.alloc ?_) | (with_reducible refine Gx.drew ?_) | (with_reducible refine Gx.drewN ?_) | (with_reducible refine Gx.setRow ?_ (by first | omega | (simp; done) | (simp <;> omega))) | (with_reducible refine Gx.setCell ?_ (by first | omega | (simp; done) | (simp <;> omega))))))).mono ?_; rw [hs]; rintro e w' ⟨rfl, x1, rfl⟩; have hs1 : w.heap.size + 1 < w.heap.size + 1 + 1 + x1.n := (by omega))
  exact bodyPost_ret (v := .tuple #[ratV 0 0, .int .i64 0, .int .i64 q]) (by simp [results, Tryd.results12, go_sem]) rfl ⟨rfl, (by repeat (first | (with_reducible exact Gx.refl _) | (with_reducible assumption) | (with_reducible refine Gx.gx ?_) | (with_reducible refine Gx.alloc ?_) | (with_reducible refine Gx.drew ?_) | (with_reducible refine Gx.drewN ?_) | (with_reducible refine Gx.setRow ?_ (by first | omega | (simp; done) | (simp <;> omega))) | (with_reducible refine Gx.setCell ?_ (by first | omega | (simp; done) | (simp <;> omega)))))⟩
set_option maxHeartbeats 4000000 in
set_option maxRecDepth 100000 in
theorem RStp_e1 (den : Int) (g : Nat → Sm) (n c : Nat) (A : Option Addr) (lg : Int) (w : World) (hL : SmAt w g n A) (q : Int) (hs : serE den g n = q) (hq : q ≠ 0) :
    Calls Tryd.prog 13 #[serV den A n c, .int .i64 lg] w fun e w' => e = .returned (.tuple #[ratV 0 0, .int .i64 0, .int .i64 q]) ∧ ∃ x, w' = gx w x := by
  have n1 := ne0 hq
  have n2 := ne0' hq
  clear hq
  go_enter Tryd.func13, Tryd.ntmps13
  go_wp2_with (go_at_call 21; refine (RCheck_any den g n c A _ (smAt_of hL (by repeat (first | (with_reducible exact Gx.refl _) | (with_reducible assumption) | (with_reducible refine Gx.gx ?_) | (with_reducible refine Gx.alloc ?_) | (with_reducible refine Gx.drew ?_) | (with_reducible refine Gx.drewN ?_) | (with_reducible refine Gx.setRow ?_ (by first | omega | (simp; done) | (simp <;> omega))) | (with_reducible refine Gx.setCell ?_ (by first | omega | (simp; done) | (simp <;> omega))))))).mono ?_; rw [hs]; rintro e w' ⟨rfl, x1, rfl⟩; have hs1 : w.heap.size + 1 < w.heap.size + 1 + 1 + x1.n := (by omega))
  exact bodyPost_ret (v := .tuple #[ratV 0 0, .int .i64 0, .int .i64 q]) (by simp [results, Tryd.results13, go_sem]) rfl ⟨rfl, (by repeat (first | (with_reducible exact Gx.refl _) | (with_reducible assumption) | (with_reducible refine Gx.gx ?_) | (with_reducible refine Gx.alloc ?_) | (with_reducible refine Gx.drew ?_) | (with_reducible refine Gx.drewN ?_) | (with_reducible refine Gx.setRow ?_ (by first | omega | (simp; done) | (simp <;> omega))) | (with_reducible refine Gx.setCell ?_ (by first | omega | (simp; done) | (simp <;> omega)))))⟩
set_option maxHeartbeats 4000000 in
set_option maxRecDepth 100000 in
theorem RStp_e2 (den : Int) (g : Nat → Sm) (n c : Nat) (A : Option Addr) (lg : Int) (w : World) (hL : SmAt w g n A) (hs : serE den g n = 0) (hl : inB 0 1099511627776 lg = false) :
    Calls Tryd.prog 13 #[serV den A n c, .int .i64 lg] w fun e w' => e = .returned (.tuple #[ratV 0 0, .int .i64 0, .int .i64 9]) ∧ ∃ x, w' = gx w x := by
  go_enter Tryd.func13, Tryd.ntmps13
  go_wp2_with first
    | (go_at_call 21; refine (RCheck_any den g n c A _ (smAt_of hL (by repeat (first | (with_reducible exact Gx.refl _) | (with_reducible assumption) | (with_reducible refine Gx.gx ?_) | (with_reducible refine Gx.alloc ?_) | (with_reducible refine Gx.drew ?_) | (with_reducible refine Gx.drewN ?_) | (with_reducible refine Gx.setRow ?_ (by first | omega | (simp; done) | (simp <;> omega))) | (with_reducible refine Gx.setCell ?_ (by first | omega | (simp; done) | (simp <;> omega))))))).mono ?_; rw [hs]; rintro e w' ⟨rfl, x1, rfl⟩; have hs1 : w.heap.size + 1 < w.heap.size + 1 + 1 + x1.n := (by omega))
    | (go_at_call 22; refine (outside_any _ _ _ _).mono ?_; rw [hl]; rintro e w' ⟨rfl, rfl⟩)
  exact bodyPost_ret (v := .tuple #[ratV 0 0, .int .i64 0, .int .i64 9]) (by simp [results, Tryd.results13, go_sem]) rfl ⟨rfl, (by repeat (first | (with_reducible exact Gx.refl _) | (with_reducible assumption) | (with_reducible refine Gx.gx ?_) | (with_reducible refine Gx.alloc ?_) | (with_reducible refine Gx.drew ?_) | (with_reducible refine Gx.drewN ?_) | (with_reducible refine Gx.setRow ?_ (by first | omega | (simp; done) | (simp <;> omega))) | (with_reducible refine Gx.setCell ?_ (by first | omega | (simp; done) | (simp <;> omega)))))⟩
theorem solL_inc {g : Nat → Sm} {n : Nat} (hG : GoodS g n) : ∀ k, k ≤ n → ∀ i, i + 1 < (solL g k).length → (g ((solL g k).getD i 0)).t < (g ((solL g k).getD (i + 1) 0)).t
  | 0, _, i, hi => by simp [solL] at hi
  | k + 1, hk, i, hi => by
    have ih := solL_inc hG k (by omega)
    by_cases h3 : 3 ≤ (g k).m
    · rw [solL_yes h3] at hi ⊢
      rw [List.length_append] at hi
      by_cases hlast : i + 1 < (solL g k).length
      · have e1 : (solL g k ++ [k]).getD i 0 = (solL g k).getD i 0 := by simp [List.getD, List.getElem?_append_left (show i < (solL g k).length by omega)]
        have e2 : (solL g k ++ [k]).getD (i + 1) 0 = (solL g k).getD (i + 1) 0 := by simp [List.getD, List.getElem?_append_left hlast]
        rw [e1, e2]
        exact ih i hlast
      · have hi' : i + 1 = (solL g k).length := by simp at hi; omega
        have e1 : (solL g k ++ [k]).getD i 0 = (solL g k).getD i 0 := by simp [List.getD, List.getElem?_append_left (show i < (solL g k).length by omega)]
        have e2 : (solL g k ++ [k]).getD (i + 1) 0 = k := by simp [List.getD, hi']
        rw [e1, e2]
        refine hG.lt ?_ (by omega)
        refine solL_lt g k _ ?_
        simp [List.getD, show i < (solL g k).length by omega]
    · rw [solL_no h3] at hi ⊢
      exact ih i hi
theorem solL_gd {g : Nat → Sm} {n j : Nat} (h : j < (solL g n).length) : (solL g n).getD j 0 < n := by
  refine solL_lt g n _ ?_
  simp [List.getD, h]
theorem steepest_both (den : Int) (g : Nat → Sm) (n c : Nat) (A : Option Addr) (lg : Int) : ∃ P Q R E : Int, (∀ W, SmAt W g n A → Calls Tryd.prog 12 #[serV den A n c, .int .i64 lg] W fun e w' => e = .returned (.tuple #[ratV P Q, .int .i64 R, .int .i64 E]) ∧ ∃ x, w' = gx W x) ∧ (∀ W, SmAt W g n A → Calls Tryd.prog 13 #[serV den A n c, .int .i64 lg] W fun e w' => e = .returned (.tuple #[ratV P Q, .int .i64 R, .int .i64 E]) ∧ ∃ x, w' = gx W x) := by
  by_cases hs : serE den g n = 0
  · cases hl : inB 0 1099511627776 lg with
    | false =>
      have hq : holdE den g n 0 lg = 9 := by rw [holdE_is hs, hl, Bool.and_false, if_neg (by decide)]
      exact ⟨0, 0, 0, 9, fun W hW => Stp_bad den g n c A lg W hW 9 hq (by decide), fun W hW => RStp_e2 den g n c A lg W hW hs hl⟩
    | true =>
      have hq : holdE den g n 0 lg = 0 := by rw [holdE_is hs, hl, inB_iff.2 (by omega)]; first | done | rfl
      obtain ⟨_, hn, hG⟩ := goodS_of hs
      have hlen : (solL g n).length ≤ 20000 := by have := solL_len g n; omega
      have hb : Hid (∀ i, i < (solL g n).length → 0 ≤ (g ((solL g n).getD i 0)).t ∧ (g ((solL g n).getD i 0)).t ≤ 1099511627776 ∧ -1125899906842624 ≤ (g ((solL g n).getD i 0)).n ∧ (g ((solL g n).getD i 0)).n ≤ 1125899906842624) := fun i hi => by
        have := hG.ok _ (solL_gd hi)
        unfold smOk at this
        omega
      have hinc : Hid (∀ i, i + 1 < (solL g n).length → (g ((solL g n).getD i 0)).t < (g ((solL g n).getD (i + 1) 0)).t) := fun i hi => solL_inc hG n (Nat.le_refl _) i hi
      have go : ∀ P Q R E : Int, (stP g (solL g n) lg (max 1 (solL g n).length) = none → P = 0 ∧ Q = 0 ∧ R = 0 ∧ E = 13) → (∀ p q j, stP g (solL g n) lg (max 1 (solL g n).length) = some (p, q, j) → P = lowN (p : Int) q ∧ Q = lowD (p : Int) q ∧ R = (j : Int) ∧ E = 0) → (∀ W, SmAt W g n A → Calls Tryd.prog 12 #[serV den A n c, .int .i64 lg] W fun e w' => e = .returned (.tuple #[ratV P Q, .int .i64 R, .int .i64 E]) ∧ ∃ x, w' = gx W x) ∧ (∀ W, SmAt W g n A → Calls Tryd.prog 13 #[serV den A n c, .int .i64 lg] W fun e w' => e = .returned (.tuple #[ratV P Q, .int .i64 R, .int .i64 E]) ∧ ∃ x, w' = gx W x) := by
        intro P Q R E e0 e1
        constructor
        · intro W hW
          refine Steepest_core den g n c A lg (solL g n) W hlen hW hb hinc ?_ (fun W' h' => solids_any g n c A W' h' hn) P Q R E e0 e1
          intro W' h'
          have := checkHold_any den g n c A 0 lg W' h'
          rw [hq] at this
          exact this
        · intro W hW
          refine RSteepest_core den g n c A lg (solL g n) W hlen hW (fun i hi => solL_gd hi) hb hinc hl ?_ (fun W' h' => RSolids_any den g n c A W' h' hn) P Q R E e0 e1
          intro W' h'
          have := RCheck_any den g n c A W' h'
          rw [hs] at this
          exact this
      cases e : stP g (solL g n) lg (max 1 (solL g n).length) with
      | none => exact ⟨0, 0, 0, 13, go 0 0 0 13 (fun _ => ⟨rfl, rfl, rfl, rfl⟩) (fun p q j e' => by rw [e] at e'; cases e')⟩
      | some s =>
        obtain ⟨p, q, j⟩ := s
        exact ⟨lowN (p : Int) q, lowD (p : Int) q, j, 0, go _ _ _ _ (fun e' => by rw [e] at e'; cases e') (fun p' q' j' e' => by rw [e] at e'; cases e'; exact ⟨rfl, rfl, rfl, rfl⟩)⟩
  · have hq : holdE den g n 0 lg = serE den g n := holdE_no hs
    exact ⟨0, 0, 0, serE den g n, fun W hW => Stp_bad den g n c A lg W hW _ hq hs, fun W hW => RStp_e1 den g n c A lg W hW _ rfl hs⟩
set_option maxHeartbeats 4000000 in
set_option maxRecDepth 100000 in
theorem cmbLaw_core (S Z : Value) (den : Int) (A : Option Addr) (n c : Nat) (hS : S = serV den A n c) (den2 : Int) (B : Option Addr) (m cb : Nat) (hZ : Z = serV den2 B m cb) (op lg : Int) (w : World) (d' er : Int) (n' : Nat) (f : Nat → Sm) (T : ByteArray) (P Q R E : Int)
    (H1 : Hid (∀ W, (∃ x, W = gx w x) → Calls Tryd.prog 10 #[S, Z, .int .i64 op, .int .i64 lg] W (SerPost W d' f n' er)))
    (H2 : Hid (∀ W, (∃ x, W = gx w x) → Calls Tryd.prog 11 #[S, Z, .int .i64 op, .int .i64 lg] W (SerPost W d' f n' er)))
    (H3 : Hid (∀ W A' c', SmAt W f n' A' → (∃ x, W = gx w x) → Calls Tryd.prog 6 #[serV d' A' n' c', .int .i64 er] W fun e W' => e = .returned (.string T) ∧ ∃ x, W' = gx W x))
    (H4 : Hid (∀ W, (∃ x, W = gx w x) → Calls Tryd.prog 12 #[S, .int .i64 lg] W fun e w' => e = .returned (.tuple #[ratV P Q, .int .i64 R, .int .i64 E]) ∧ ∃ x, w' = gx W x))
    (H5 : Hid (∀ W, (∃ x, W = gx w x) → Calls Tryd.prog 13 #[S, .int .i64 lg] W fun e w' => e = .returned (.tuple #[ratV P Q, .int .i64 R, .int .i64 E]) ∧ ∃ x, w' = gx W x)) :
    Calls Tryd.prog 4 #[S, Z, .int .i64 op, .int .i64 lg] w fun e w' => e = .returned (.bool true) ∧ ∃ x, w' = gx w x := by
  subst hS
  subst hZ
  go_enter Tryd.func4, Tryd.ntmps4
  go_wp2
  go_region_held3 (fun W => (∃ x, W = gx w x) ∧ W.cell? ⟨w.heap.size, 0, none⟩ = some (.int .i64 den) ∧ W.cell? ⟨w.heap.size, 1, none⟩ = some (.slice A n c) ∧ W.cell? ⟨w.heap.size + 1, 0, none⟩ = some (.int .i64 den2) ∧ W.cell? ⟨w.heap.size + 1, 1, none⟩ = some (.slice B m cb))
    (refine ⟨(by repeat (first | (with_reducible exact Gx.refl _) | (with_reducible assumption) | (with_reducible refine Gx.gx ?_) | (with_reducible refine Gx.alloc ?_) | (with_reducible refine Gx.drew ?_) | (with_reducible refine Gx.drewN ?_) | (with_reducible refine Gx.setRow ?_ (by first | omega | (simp; done) | (simp <;> omega))) | (with_reducible refine Gx.setCell ?_ (by first | omega | (simp; done) | (simp <;> omega))))), ?_, ?_, ?_, ?_⟩ <;> first | assumption | exact cell_keep_gx ‹_› | go_keep | (simp [go_sem]; done))
    (first
    | (go_at_call 10; refine (H1.out _ (by repeat (first | (with_reducible exact Gx.refl _) | (with_reducible assumption) | (with_reducible refine Gx.gx ?_) | (with_reducible refine Gx.alloc ?_) | (with_reducible refine Gx.drew ?_) | (with_reducible refine Gx.drewN ?_) | (with_reducible refine Gx.setRow ?_ (by first | omega | (simp; done) | (simp <;> omega))) | (with_reducible refine Gx.setCell ?_ (by first | omega | (simp; done) | (simp <;> omega)))))).mono ?_; rintro e W1 ⟨A1, c1, x1, rfl, rfl, hs1⟩)
    | (go_at_call 11; refine (H2.out _ (by repeat (first | (with_reducible exact Gx.refl _) | (with_reducible assumption) | (with_reducible refine Gx.gx ?_) | (with_reducible refine Gx.alloc ?_) | (with_reducible refine Gx.drew ?_) | (with_reducible refine Gx.drewN ?_) | (with_reducible refine Gx.setRow ?_ (by first | omega | (simp; done) | (simp <;> omega))) | (with_reducible refine Gx.setCell ?_ (by first | omega | (simp; done) | (simp <;> omega)))))).mono ?_; rintro e W1 ⟨A2, c2, x2, rfl, rfl, hs2⟩)
    | (go_at_call 6; refine (H3.out _ _ _ (by first | assumption | (rw [← gx_gx]; assumption) | (simp only [gx_gx, gx_drew, drew_gx] at *; assumption)) (by repeat (first | (with_reducible exact Gx.refl _) | (with_reducible assumption) | (with_reducible refine Gx.gx ?_) | (with_reducible refine Gx.alloc ?_) | (with_reducible refine Gx.drew ?_) | (with_reducible refine Gx.drewN ?_) | (with_reducible refine Gx.setRow ?_ (by first | omega | (simp; done) | (simp <;> omega))) | (with_reducible refine Gx.setCell ?_ (by first | omega | (simp; done) | (simp <;> omega)))))).mono ?_; rintro e w' ⟨rfl, x3, rfl⟩))
  all_goals go_wp2_with first
    | (go_at_call 12; refine (H4.out _ (by repeat (first | (with_reducible exact Gx.refl _) | (with_reducible assumption) | (with_reducible refine Gx.gx ?_) | (with_reducible refine Gx.alloc ?_) | (with_reducible refine Gx.drew ?_) | (with_reducible refine Gx.drewN ?_) | (with_reducible refine Gx.setRow ?_ (by first | omega | (simp; done) | (simp <;> omega))) | (with_reducible refine Gx.setCell ?_ (by first | omega | (simp; done) | (simp <;> omega)))))).mono ?_; rintro e w' ⟨rfl, x4, rfl⟩)
    | (go_at_call 13; refine (H5.out _ (by repeat (first | (with_reducible exact Gx.refl _) | (with_reducible assumption) | (with_reducible refine Gx.gx ?_) | (with_reducible refine Gx.alloc ?_) | (with_reducible refine Gx.drew ?_) | (with_reducible refine Gx.drewN ?_) | (with_reducible refine Gx.setRow ?_ (by first | omega | (simp; done) | (simp <;> omega))) | (with_reducible refine Gx.setCell ?_ (by first | omega | (simp; done) | (simp <;> omega)))))).mono ?_; rintro e w' ⟨rfl, x5, rfl⟩)
    | (go_at_call 9; refine (holds_any _).mono ?_; rintro e w' ⟨rfl, x6, rfl⟩)
  all_goals go_ret
  all_goals exact ⟨rfl, (by repeat (first | (with_reducible exact Gx.refl _) | (with_reducible assumption) | (with_reducible refine Gx.gx ?_) | (with_reducible refine Gx.alloc ?_) | (with_reducible refine Gx.drew ?_) | (with_reducible refine Gx.drewN ?_) | (with_reducible refine Gx.setRow ?_ (by first | omega | (simp; done) | (simp <;> omega))) | (with_reducible refine Gx.setCell ?_ (by first | omega | (simp; done) | (simp <;> omega)))))⟩
theorem cmbLaw (den : Int) (A : Option Addr) (n c : Nat) (g : Nat → Sm) (den2 : Int) (B : Option Addr) (m cb : Nat) (h : Nat → Sm) (op lg : Int) (w : World) (hp : Pow w) (hL : SmAt w g n A) (hM : SmAt w h m B) :
    Calls Tryd.prog 4 #[serV den A n c, serV den2 B m cb, .int .i64 op, .int .i64 lg] w fun e w' => e = .returned (.bool true) ∧ ∃ x, w' = gx w x := by
  obtain ⟨D, E, N, K1, K2, f1, f2, f3, _, f4⟩ := combine_both den g n c A den2 h m cb B op lg (fun k => cbS op g h m lg k) (fun _ => rfl)
  obtain ⟨P, Q, R, E', K3, K4⟩ := steepest_both den g n c A lg
  refine cmbLaw_core _ _ den A n c rfl den2 B m cb rfl op lg w D E N (fun k => cbS op g h m lg k) (toldT D (fun k => cbS op g h m lg k) N E) P Q R E' ?_ ?_ ?_ ?_ ?_
  · rintro W ⟨x, rfl⟩; exact K1 _ hL.gx hM.gx
  · rintro W ⟨x, rfl⟩; exact K2 _ hL.gx hM.gx
  · rintro W A' c' hs ⟨x, rfl⟩
    exact told_any _ D _ N c' A' E f1 f4 f3 f2 hp.gx.here hs
  · rintro W ⟨x, rfl⟩; exact K3 _ hL.gx
  · rintro W ⟨x, rfl⟩; exact K4 _ hL.gx
end Go.Proofs.YtikgfidpdghkpaaDoor
