/-
  Ink: how the reference writes numbers; told and ints: contracts.
-/
import Derived.Test.YtmpokfbliacmoaaDoorSInk0
import Derived.Test.YtmpokfbliacmoaaDoorSSer
import Derived.Lib.ItoaLen
namespace Go.Proofs.YtmpokfbliacmoaaDoor
open Go.RowKit
-- AT2
-- AT3

theorem own_ne_at {b : Nat} {W : World} {e t : TypeId} {size n : Nat} {v : Value} {xs : List Value} {K : Nat} {cs : Array Value} (h : Own b W e size v n xs) (hA : At W K (.cells cs t (0, 0))) (hne : e ≠ t) : v.ownBlock ≠ some K := by
  rcases h.out.2 with ⟨rfl, _⟩ | ⟨g, cap, cur, rfl, _, hg, _⟩
  · simp [Value.ownBlock]
  · intro he
    simp only [Value.ownBlock, Option.some.injEq] at he
    subst he
    unfold At at hA
    rw [hg] at hA
    simp at hA
    exact hne hA.2
theorem At.setc {W : World} {K : Nat} {v u : Value} {t : TypeId} (h : At W K (.cells #[v] t (0, 0))) : At (W.setCell ⟨K, 0, none⟩ u) K (.cells #[u] t (0, 0)) := by
  unfold At at *
  simp [World.setCell, Array.getElem?_modify, h]
theorem grown_setc (W : World) (K o : Nat) (u : Value) : W.grownBy (W.setCell ⟨K, o, none⟩ u) (some K) :=
  ⟨rfl, rfl, rfl, by simp, fun k _ hk => by
    have hne : K ≠ k := fun e => hk (by rw [e])
    simp only [World.setCell]
    rw [Array.getElem?_modify, if_neg hne]⟩
theorem Own.setc {b : Nat} {W : World} {e : TypeId} {size n : Nat} {v u : Value} {xs : List Value} {K o : Nat} (h : Own b W e size v n xs) (hne : v.ownBlock ≠ some K) : Own b (W.setCell ⟨K, o, none⟩ u) e size v n xs :=
  h.kept (grown_setc W K o u) (.inr hne)
theorem At.cell {W : World} {K : Nat} {v : Value} {t : TypeId} (h : At W K (.cells #[v] t (0, 0))) : W.cell? ⟨K, 0, none⟩ = some v := by
  rw [cell_of_row W K 0 _ _ _ h]; rfl
theorem At.frz {W : World} {K o : Nat} {cs : Array Value} {t : TypeId} (h : At W K (.cells cs t (0, 0))) : W.frozen? ⟨K, o, none⟩ = false := by
  unfold At at h
  simp [World.frozen?, h]
theorem el_byte : Elem 44 5 1 1 := elem_of Tryd.underlying44 (by decide) (z := .int .u8 0) (by kernel_rfl) rfl

/-- Ink that has written the bytes L, in a world that grew out of w. -/
def Inks (w : World) (K : Nat) (L : List UInt8) (W : World) : Prop :=
  ∃ v, (∃ x, W = gx w x) ∧ w.heap.size ≤ K ∧ At W K (.cells #[v] 46 (0, 0)) ∧ Own w.heap.size W 5 1 v L.length (Lib.byteCells L)
/-- What a number is written as. -/
def numT (n : Int) : List UInt8 := Lib.itoa n ++ [32]
theorem numT_len {n : Int} (h0 : -9223372036854775808 ≤ n) (h1 : n ≤ 9223372036854775807) : (numT n).length ≤ 22 := by
  have := Lib.itoa_length_le n h0 h1
  unfold numT; simp; omega
theorem Inks.end_ {w W : World} {K : Nat} {L : List UInt8} {v1 v2 : Value} {n : Nat} {i : Int} (hK : w.heap.size ≤ K) (hW : ∃ x, W = gx w x) (hA : At W K (.cells #[v1] 46 (0, 0)))
    (hO : Own w.heap.size W 5 1 v2 n (Lib.byteCells L ++ Lib.byteCells (Lib.itoa i) ++ [.int .u8 32])) (hn : n = L.length + (Lib.itoa i).length + 1) : Inks w K (L ++ numT i) (W.setCell ⟨K, 0, none⟩ v2) := by
  refine ⟨v2, Gx.setCell hW hK, hK, hA.setc, ?_⟩
  have e1 : (L ++ numT i).length = n := by unfold numT; simp; omega
  have e2 : Lib.byteCells (L ++ numT i) = Lib.byteCells L ++ Lib.byteCells (Lib.itoa i) ++ [.int .u8 32] := by unfold numT; rw [Lib.byteCells_append, Lib.byteCells_append, List.append_assoc]; rfl
  rw [e1, e2]
  exact hO.setc (own_ne_at hO hA (by decide))
attribute [local irreducible] numT

/-- Blocks that hold no bytes, but for one, are as they were. -/
def OK (K : Nat) (W W' : World) : Prop := Lib.OthersKept 5 (some K) W W'
theorem OK.refl (K : Nat) (W : World) : OK K W W := Lib.OthersKept.refl _ _ _
theorem OK.trans {K : Nat} {a b c : World} (h : OK K a b) (h' : OK K b c) : OK K a c := Lib.OthersKept.trans h h'
theorem OK.alloc {K : Nat} {W W' : World} {o : Obj} (h : OK K W W') : OK K W (W'.alloc o) := fun k x hx hk ht => by
  have h1 := h k x hx hk ht
  have hlt : k < W'.heap.size := by
    rcases Nat.lt_or_ge k W'.heap.size with h2 | h2
    · exact h2
    · rw [Array.getElem?_eq_none h2] at h1; cases h1
  exact (Below.heap_alloc W' o k hlt).trans h1
theorem OK.setc {K : Nat} {W W' : World} {u : Value} (h : OK K W W') : OK K W (W'.setCell ⟨K, 0, none⟩ u) := fun k x hx hk ht => by
  have h1 := h k x hx hk ht
  have hne : K ≠ k := fun e => hk (by rw [e])
  simp only [World.setCell]
  rw [Array.getElem?_modify, if_neg hne]
  exact h1
theorem OK.grown {K : Nat} {W W1 W2 : World} {b n : Nat} {v : Value} {xs : List Value} (h : OK K W W1) (hO : Own b W1 5 1 v n xs) (hg : W1.grownBy W2 v.ownBlock) : OK K W W2 := fun k x hx hk ht => by
  have h1 := h k x hx hk ht
  have hlt : k < W1.heap.size := by
    rcases Nat.lt_or_ge k W1.heap.size with h2 | h2
    · exact h2
    · rw [Array.getElem?_eq_none h2] at h1; cases h1
  rw [hg.block k hlt ?_]
  · exact h1
  · intro e
    rcases hO.out.2 with ⟨rfl, _⟩ | ⟨g, cap, cur, rfl, _, hg', _⟩
    · simp [Value.ownBlock] at e
    · simp only [Value.ownBlock, Option.some.injEq] at e
      subst e
      rw [hg'] at h1
      exact ht cur (0, 0) (Option.some.inj h1).symm
theorem OK.of_none {K : Nat} {W W' : World} (h : Lib.OthersKept 5 none W W') : OK K W W' := fun k x hx _ ht => h k x hx (fun e => by cases e) ht
theorem OK.at_ {K : Nat} {W W' : World} (h : OK K W W') {g : Nat} {cs : Array Value} {t : TypeId} (hA : At W g (.cells cs t (0, 0))) (hne : g ≠ K) (ht : t ≠ 5) : At W' g (.cells cs t (0, 0)) :=
  h g _ hA (fun e => hne (Option.some.inj e)) (fun c fz e => by simp at e; exact ht e.2.1)
set_option maxHeartbeats 2000000 in
set_option maxRecDepth 100000 in
theorem Int_any (w W : World) (K : Nat) (L : List UInt8) (n : Int) (h0 : -9223372036854775808 ≤ n) (h1 : n ≤ 9223372036854775807) (hp : Pow w) (hI : Inks w K L W) (hl : L.length ≤ 70368744177664) :
    Calls Tryd.prog 25 #[.pointer (some ⟨K, 0, none⟩), .int .i64 n] W fun e W' => e = .returned (.tuple #[]) ∧ Inks w K (L ++ numT n) W' ∧ OK K W W' := by
  obtain ⟨v, ⟨x, rfl⟩, hK, hA, hO⟩ := hI
  have hit := Lib.itoa_length_le n h0 h1
  have hc := hA.cell
  have hKl : K < (gx w x).heap.size := hA.lt
  have HAp := Lib.hid (AppendInt_any L.length n h0 h1 v (Lib.byteCells L) w x hO (by omega) hp)
  have HA := Lib.hid hA
  clear hA hO hp
  go_enter Tryd.func25, Tryd.ntmps25
  go_wp2_with first
    | (go_at_call 37; refine HAp.out.mono ?_; rintro e W1 ⟨v1, rfl, hO1, hW1, hok⟩; obtain ⟨A1, c1, rfl, -⟩ := hO1.is; have hA1 : At W1 K (.cells #[v] 46 (0, 0)) := hok K _ HA.out (fun h => by cases h) (fun c fz h => by simp at h); have hc1 := hA1.cell; have hf1 : W1.frozen? ⟨K, 0, none⟩ = false := hA1.frz; have hKl1 := hA1.lt; have hw1 : w.heap.size ≤ W1.heap.size := (by obtain ⟨y, hy⟩ := hW1; rw [hy]; simp); have hA2 := hA1.setc (u := .slice A1 (L.length + (Lib.itoa n).length) c1); have hO2 := hO1.setc (u := .slice A1 (L.length + (Lib.itoa n).length) c1) (o := 0) (own_ne_at hO1 hA1 (by decide)); have hW2 : ∃ y, W1.setCell ⟨K, 0, none⟩ (.slice A1 (L.length + (Lib.itoa n).length) c1) = gx w y := Gx.setCell hW1 hK; have hK2 : OK K (gx w x) (W1.setCell ⟨K, 0, none⟩ (.slice A1 (L.length + (Lib.itoa n).length) c1)) := (OK.of_none hok).setc; clear hA1 hok hO1 hW1)
    | (at_builtin; (with_reducible apply append_new (o := ⟨some 19, _, _, _, _, _⟩) el_byte w w.heap.size (v := .slice A1 (L.length + (Lib.itoa n).length) c1) (n := L.length + (Lib.itoa n).length) (xs := Lib.byteCells L ++ Lib.byteCells (Lib.itoa n)) (m := 1) (news := [.int .u8 32])); go_loud (exact rfl; exact rfl; exact rfl; exact rfl; exact Nat.le_refl _; exact hO2.alloc; exact Gx.alloc hW2; (focus (simp <;> omega)); exact rfl; (focus (repeat (first | (with_reducible assumption) | ((with_reducible apply Shows.whole); focus ((focus (repeat (first | (with_reducible assumption) | (with_reducible exact At.new _ _) | (with_reducible refine At.row ?_) | ((with_reducible refine At.row_other ?_ ?_); rotate_left; (focus (simp <;> omega))) | (with_reducible refine At.app ?_) | (with_reducible refine At.tick ?_) | (with_reducible refine At.gx ?_) | ((with_reducible refine At.new' ?_); focus (simp; done)) | (with_reducible refine At.alloc ?_) | (with_reducible refine At.drew ?_) | (with_reducible exact Is.new _ _ _) | (with_reducible refine Is.row ?_) | ((with_reducible refine Is.row_other ?_ ?_); rotate_left; (focus (simp <;> omega))) | (with_reducible refine Is.gx ?_) | ((with_reducible refine Is.new' ?_); focus (simp; done)) | (with_reducible refine Is.alloc ?_) | (with_reducible refine Is.drew ?_)))); done)) | (with_reducible refine Shows.app ?_) | (with_reducible refine Shows.tick ?_) | (with_reducible refine Shows.gx ?_) | (with_reducible refine Shows.alloc ?_) | (with_reducible refine Shows.drew ?_)))); (focus (simp [Value.oneCell']; done)); (focus (simp only [maxLen]; omega)); (focus omega); rintro v2 W2 hW3 hO3 hg; have hA3 : At W2 K (.cells #[.slice A1 (L.length + (Lib.itoa n).length) c1] 46 (0, 0)) := hA2.alloc.grown hg (own_ne_at hO2 hA2 (by decide)); obtain ⟨A2, c2, rfl, -⟩ := hO3.is; have hc2 := hA3.cell; have hf2 : W2.frozen? ⟨K, 0, none⟩ = false := hA3.frz; have HK3 := Lib.hid (OK.grown hK2.alloc hO2.alloc hg); have HA3 := Lib.hid hA3; have HO3 := Lib.hid hO3; have HW3 := Lib.hid hW3; clear hA2 hO2 hW2 hA3 hO3 hW3 hg hK2))
  go_end0
  exact ⟨rfl, Inks.end_ hK HW3.out HA3.out HO3.out (by omega), HK3.out.setc⟩

theorem Errno_any (w W : World) (K : Nat) (L : List UInt8) (n : Int) (h0 : -9223372036854775808 ≤ n) (h1 : n ≤ 9223372036854775807) (hp : Pow w) (hI : Inks w K L W) (hl : L.length ≤ 70368744177664) :
    Calls Tryd.prog 14 #[.pointer (some ⟨K, 0, none⟩), .int .i64 n] W fun e W' => e = .returned (.tuple #[]) ∧ Inks w K (L ++ numT n) W' ∧ OK K W W' := by
  have H := Lib.hid (Int_any w W K L n h0 h1 hp hI hl)
  clear hI hp
  go_enter Tryd.func14, Tryd.ntmps14
  go_wp2_with (go_at_call 25; refine H.out.mono ?_; rintro e W1 ⟨rfl, hI1⟩; have HI := Lib.hid hI1; clear hI1)
  go_end0
  exact ⟨rfl, HI.out⟩
/-- The text of numbers. -/
def numsT : List Int → List UInt8
  | [] => []
  | n :: l => numT n ++ numsT l
theorem numsT_app (l m : List Int) : numsT (l ++ m) = numsT l ++ numsT m := by
  induction l with
  | nil => rfl
  | cons n l ih => show numT n ++ numsT (l ++ m) = _; rw [ih, ← List.append_assoc]; rfl
theorem numsT_one (n : Int) : numsT [n] = numT n := by show numT n ++ [] = _; rw [List.append_nil]
theorem numsT_len {l : List Int} (h : ∀ n ∈ l, -9223372036854775808 ≤ n ∧ n ≤ 9223372036854775807) : (numsT l).length ≤ l.length * 22 := by
  induction l with
  | nil => exact Nat.le_refl _
  | cons n l ih =>
    have h1 := ih (fun m hm => h m (List.mem_cons_of_mem _ hm))
    have h2 := h n List.mem_cons_self
    have h3 := numT_len h2.1 h2.2
    show (numT n ++ numsT l).length ≤ _
    rw [List.length_append, List.length_cons]
    omega

theorem Inks.alloc {w W : World} {K : Nat} {L : List UInt8} {o : Obj} (h : Inks w K L W) : Inks w K L (W.alloc o) := by
  obtain ⟨v, hW, hK, hA, hO⟩ := h
  exact ⟨v, Gx.alloc hW, hK, hA.alloc, hO.alloc⟩
theorem Inks.gx {w W : World} {K : Nat} {L : List UInt8} (h : Inks w K L W) : ∃ x, W = gx w x := h.choose_spec.1
theorem Inks.lt {w W : World} {K : Nat} {L : List UInt8} (h : Inks w K L W) : K < W.heap.size := h.choose_spec.2.2.1.lt
/-- Numbers of a list that stay as they are while Ink writes. -/
def Stay (w W : World) (K : Nat) (D : List Int) (A : Option Addr) : Prop := 0 < D.length → ∃ b o, A = some ⟨b, o, none⟩ ∧ ∀ W', (∃ x, W' = gx w x) → OK K W W' → ∀ j, j < D.length → W'.cell? ⟨b, o + j, none⟩ = some (.int .i64 (gw D j))
theorem take_numsT {D : List Int} {k : Nat} (h : k < D.length) : numsT (D.take (k + 1)) = numsT (D.take k) ++ numT (gw D k) := by
  rw [List.take_succ_eq_append_getElem h, numsT_app, numsT_one]
  unfold gw
  simp [List.getD, List.getElem?_eq_getElem h]
theorem gw_mem {D : List Int} {k : Nat} (h : k < D.length) : gw D k ∈ D := by
  unfold gw; simp [List.getD, List.getElem?_eq_getElem h]
theorem numsT_take_len {D : List Int} (h : ∀ n ∈ D, -9223372036854775808 ≤ n ∧ n ≤ 9223372036854775807) (k : Nat) (hk : k ≤ D.length) : (numsT (D.take k)).length ≤ D.length * 22 := by
  have h1 := numsT_len (l := D.take k) (fun n hn => h n (List.mem_of_mem_take hn))
  have h2 : (D.take k).length ≤ D.length := by rw [List.length_take]; omega
  have h3 : (D.take k).length * 22 ≤ D.length * 22 := Nat.mul_le_mul_right _ h2
  omega
set_option maxHeartbeats 2000000 in
set_option maxRecDepth 100000 in
theorem Ints_any (w W : World) (K : Nat) (L : List UInt8) (D : List Int) (A : Option Addr) (c : Nat) (hD : ∀ n ∈ D, -9223372036854775808 ≤ n ∧ n ≤ 9223372036854775807) (hp : Pow w) (hI : Inks w K L W) (hS : Stay w W K D A) (hl : L.length + D.length * 22 ≤ 35184372088832) (hDl : D.length ≤ 1099511627776) :
    Calls Tryd.prog 38 #[.pointer (some ⟨K, 0, none⟩), .slice A D.length c] W fun e W' => e = .returned (.tuple #[]) ∧ Inks w K (L ++ (numT D.length ++ numsT D)) W' ∧ OK K W W' := by
  have hlen := numT_len (n := D.length) (by omega) (by omega)
  have HI0 := Lib.hid (Int_any w W K L D.length (by omega) (by omega) hp hI (by omega))
  have HS := Lib.hid hS
  have HD := Lib.hid hD
  have HP := Lib.hid hp
  have HT := Lib.hid (fun k hk => numsT_take_len hD k hk)
  clear hI hS hD hp
  obtain ⟨n, hn⟩ : ∃ n, n = D.length := ⟨_, rfl⟩
  rw [← hn] at hl hDl hlen HI0 HT ⊢
  have HN := Lib.hid hn
  clear hn
  go_enter Tryd.func38, Tryd.ntmps38
  go_wp2_with (go_at_call 25; refine HI0.out.mono ?_; rintro e W1 ⟨rfl, hI1, hK1⟩; have HI1 := Lib.hid hI1; have HK1 := Lib.hid hK1; clear hI1 hK1)
  go_loopw [4] (fun i wr => ∃ k : Nat, k ≤ n ∧ i = .int .i64 k ∧ Inks w K (L ++ (numT n ++ numsT (D.take k))) wr ∧ OK K W wr) (fun i _ => n - (intOf i).toNat)
  case atStart => exact ⟨0, Nat.zero_le _, rfl, by rw [List.take_zero]; show Inks w K (L ++ (numT n ++ [])) _; rw [List.append_nil]; exact HI1.out, HK1.out⟩
  case round =>
    obtain ⟨k, hk, rfl, hIk, hKk⟩ := hrel
    by_cases hlt : k < n
    · obtain ⟨b, o, rfl, hcell⟩ := HS.out (by rw [← HN.out]; omega)
      have hck := hcell wr hIk.gx hKk k (by rw [← HN.out]; exact hlt)
      have hb := HD.out _ (gw_mem (by rw [← HN.out]; exact hlt : k < D.length))
      have hTk := HT.out k (by omega)
      have HE := Lib.hid (take_numsT (by rw [← HN.out]; exact hlt : k < D.length))
      have HJ := Lib.hid (Int_any w wr K (L ++ (numT n ++ numsT (D.take k))) (gw D k) hb.1 hb.2 HP.out hIk (by simp; omega))
      have HKk := Lib.hid hKk
      clear hIk hKk hcell hTk
      generalize gw D k = m at *
      go_wp2_with (go_at_call 25; refine HJ.out.mono ?_; rintro e W2 ⟨rfl, hI2, hK2⟩; have HI2 := Lib.hid hI2; have HK2 := Lib.hid hK2; clear hI2 hK2)
      go_roundw
      case rel => exact ⟨k + 1, by omega, by go_num, by rw [HE.out]; have := HI2.out; simp only [List.append_assoc] at this ⊢; exact this, HKk.out.trans HK2.out⟩
      case measure => simp [intOf]; omega
    · obtain rfl : k = n := by omega
      have HIk := Lib.hid hIk
      have HKk := Lib.hid hKk
      clear hIk hKk
      go_wp2
      go_end0
      exact ⟨rfl, by have := HIk.out; rw [List.take_of_length_le (by rw [HN.out]; omega)] at this; exact this, HKk.out⟩
end Go.Proofs.YtmpokfbliacmoaaDoor
