/-
  told and ints: contracts.
-/
import Derived.Test.YtmpokfbliacmoaaDoorSInk
import Derived.Laws.IdiomStrings
namespace Go.Proofs.YtmpokfbliacmoaaDoor
open Go.RowKit
-- AT2

/-- The text of a sample, of the first k samples, of a series. -/
def smT (x : Sm) : List UInt8 := numT 3 ++ numsT [x.t, x.n, x.m]
def smsT (g : Nat → Sm) : Nat → List UInt8
  | 0 => []
  | k + 1 => smsT g k ++ smT (g k)
def serT (den : Int) (g : Nat → Sm) (n : Nat) : List UInt8 := numT den ++ (numT n ++ smsT g n)
/-- Numbers that an int can be. -/
def Fit (n : Int) : Prop := -9223372036854775808 ≤ n ∧ n ≤ 9223372036854775807
def FitS (g : Nat → Sm) (n : Nat) : Prop := ∀ i, i < n → Fit (g i).t ∧ Fit (g i).n ∧ Fit (g i).m
theorem smT_len {x : Sm} (h : Fit x.t ∧ Fit x.n ∧ Fit x.m) : (smT x).length ≤ 88 := by
  have h1 := numT_len (n := 3) (by omega) (by omega)
  have h2 := numsT_len (l := [x.t, x.n, x.m]) (by
    intro n hn
    simp only [List.mem_cons, List.not_mem_nil, or_false] at hn
    rcases hn with rfl | rfl | rfl
    · exact h.1
    · exact h.2.1
    · exact h.2.2)
  unfold smT
  rw [List.length_append]
  simp only [List.length_cons, List.length_nil] at h2
  omega
theorem smsT_len {g : Nat → Sm} {n : Nat} (h : FitS g n) : ∀ k, k ≤ n → (smsT g k).length ≤ k * 88
  | 0, _ => by unfold smsT; simp
  | k + 1, hk => by
    have h1 := smsT_len h k (by omega)
    have h2 := smT_len (h k (by omega))
    show (smsT g k ++ smT (g k)).length ≤ _
    rw [List.length_append]; omega
attribute [irreducible] Fit
theorem Fit.out {n : Int} (h : Fit n) : -9223372036854775808 ≤ n ∧ n ≤ 9223372036854775807 := by unfold Fit at h; exact h
theorem Fit.mk {n : Int} (h : -9223372036854775808 ≤ n ∧ n ≤ 9223372036854775807) : Fit n := by unfold Fit; exact h

set_option maxHeartbeats 2000000 in
set_option maxRecDepth 100000 in
theorem InkSample_any (w W : World) (K : Nat) (L : List UInt8) (x : Sm) (hf : Fit x.t ∧ Fit x.n ∧ Fit x.m) (hp : Pow w) (hI : Inks w K L W) (hl : L.length ≤ 17592186044416) :
    Calls Tryd.prog 26 #[.pointer (some ⟨K, 0, none⟩), smV x.t x.n x.m] W fun e W' => e = .returned (.tuple #[]) ∧ Inks w K (L ++ smT x) W' ∧ OK K W W' := by
  have hKl := hI.lt
  have h1 : Inks w K L ((W.alloc (.cells #[.int .i64 x.t, .int .i64 x.n, .int .i64 x.m] 38)).alloc (.cells #[.int .i64 x.t, .int .i64 x.n, .int .i64 x.m] 3)) := hI.alloc.alloc
  have hS : Stay w ((W.alloc (.cells #[.int .i64 x.t, .int .i64 x.n, .int .i64 x.m] 38)).alloc (.cells #[.int .i64 x.t, .int .i64 x.n, .int .i64 x.m] 3)) K [x.t, x.n, x.m] (some ⟨W.heap.size + 1, 0, none⟩) := fun _ => by
    refine ⟨W.heap.size + 1, 0, rfl, fun W' _ hok j hj => ?_⟩
    have hA : At W' (W.heap.size + 1) (.cells #[.int .i64 x.t, .int .i64 x.n, .int .i64 x.m] 3 (0, 0)) := hok.at_ (At.new' (by simp)) (by omega) (by decide)
    rw [cell_of_row W' _ _ _ _ _ hA]
    simp only [List.length_cons, List.length_nil] at hj
    rcases (by omega : j = 0 ∨ j = 1 ∨ j = 2) with rfl | rfl | rfl <;> (unfold gw; rfl)
  have HJ := Lib.hid (Ints_any w _ K L [x.t, x.n, x.m] (some ⟨W.heap.size + 1, 0, none⟩) 3 (by
    intro n hn
    simp only [List.mem_cons, List.not_mem_nil, or_false] at hn
    rcases hn with rfl | rfl | rfl
    · exact hf.1.out
    · exact hf.2.1.out
    · exact hf.2.2.out) hp h1 hS (by simp; omega) (by simp))
  clear hI h1 hS hf hp
  obtain ⟨t, n, m⟩ := x
  simp only [List.length_cons, List.length_nil] at HJ ⊢
  go_enter Tryd.func26, Tryd.ntmps26
  go_wp2_with (go_at_call 38; refine HJ.out.mono ?_; rintro e W2 ⟨rfl, hI2, hK2⟩; have HI2 := Lib.hid hI2; have HK2 := Lib.hid hK2; clear hI2 hK2)
  go_end0
  exact ⟨rfl, HI2.out, (OK.refl K W).alloc.alloc.trans HK2.out⟩
set_option maxHeartbeats 2000000 in
set_option maxRecDepth 100000 in
theorem InkSeries_any (w W : World) (K : Nat) (L : List UInt8) (den : Int) (g : Nat → Sm) (n c : Nat) (A : Option Addr) (hd : Fit den) (hf : FitS g n) (hn : n ≤ 1000000) (hp : Pow w) (hI : Inks w K L W) (hL : SmAt w g n A) (hl : L.length ≤ 8796093022208) :
    Calls Tryd.prog 13 #[.pointer (some ⟨K, 0, none⟩), serV den A n c] W fun e W' => e = .returned (.tuple #[]) ∧ Inks w K (L ++ serT den g n) W' ∧ OK K W W' := by
  have hKl := hI.lt
  have hld := numT_len hd.out.1 hd.out.2
  have hln := numT_len (n := n) (by omega) (by omega)
  have hneK : W.heap.size ≠ K := by omega
  have h1 : Inks w K L (W.alloc (.cells #[.int .i64 den, .slice A n c] 24)) := hI.alloc
  have HJ1 := Lib.hid (Int_any w _ K L den hd.out.1 hd.out.2 hp h1 (by omega))
  have HJ2 := Lib.hid (fun W1 (h : Inks w K (L ++ numT den) W1) => Int_any w W1 K (L ++ numT den) n (by omega) (by omega) hp h (by simp; omega))
  have HP := Lib.hid hp
  have HF := Lib.hid hf
  have HLS := Lib.hid (fun k hk => smsT_len hf k hk)
  clear hI h1 hf hp
  go_enter Tryd.func13, Tryd.ntmps13
  go_wp2_with first
    | (go_at_call 25; (with_reducible refine HJ1.out.mono ?_); rintro e W1 ⟨rfl, hI1, hK1⟩; have hA1 : At W1 W.heap.size (.cells #[.int .i64 den, .slice A n c] 24 (0, 0)) := hK1.at_ (At.new W _) hneK (by decide); have HK1 := Lib.hid ((OK.refl K W).alloc.trans hK1); have HI1 := Lib.hid hI1; have q1 : W1.cell? ⟨W.heap.size, 1, none⟩ = some (.slice A n c) := (by rw [cell_of_row W1 _ _ _ _ _ hA1]; rfl); have HA1 := Lib.hid hA1; clear hI1 hK1 hA1)
    | (go_at_call 25; refine (HJ2.out _ HI1.out).mono ?_; rintro e W2 ⟨rfl, hI2, hK2⟩; have hA2 : At W2 W.heap.size (.cells #[.int .i64 den, .slice A n c] 24 (0, 0)) := hK2.at_ HA1.out hneK (by decide); have HK2 := Lib.hid (HK1.out.trans hK2); have HI2 := Lib.hid hI2; have HA2 := Lib.hid hA2; clear hI2 hK2 hA2)
  go_loopw [4] (fun i wr => ∃ k : Nat, k ≤ n ∧ i = .int .i64 k ∧ Inks w K (L ++ (numT den ++ (numT n ++ smsT g k))) wr ∧ OK K W wr ∧ At wr W.heap.size (.cells #[.int .i64 den, .slice A n c] 24 (0, 0))) (fun i _ => n - (intOf i).toNat)
  case atStart => exact ⟨0, Nat.zero_le _, rfl, by show Inks w K (L ++ (numT den ++ (numT n ++ []))) _; rw [List.append_nil, ← List.append_assoc]; exact HI2.out, HK2.out, HA2.out⟩
  case round =>
    obtain ⟨k, hk, rfl, hIk, hKk, hAk⟩ := hrel
    have hq : wr.cell? ⟨W.heap.size, 1, none⟩ = some (.slice A n c) := by rw [cell_of_row wr _ _ _ _ _ hAk]; rfl
    by_cases hlt : k < n
    · obtain ⟨b, o, rfl, hbw, HC⟩ := hL.get (by omega)
      obtain ⟨c1, c2, c3⟩ := HC.out k hlt
      obtain ⟨x, hx⟩ := hIk.gx
      have d1 : wr.cell? ⟨b, o + k * 3, none⟩ = some (.int .i64 (g k).t) := by rw [hx]; exact cell_keep_gx c1
      have d2 : wr.cell? ⟨b, o + k * 3 + 1, none⟩ = some (.int .i64 (g k).n) := by rw [hx]; exact cell_keep_gx c2
      have d3 : wr.cell? ⟨b, o + k * 3 + 2, none⟩ = some (.int .i64 (g k).m) := by rw [hx]; exact cell_keep_gx c3
      have hlk := HLS.out k (by omega)
      have HS1 := Lib.hid (InkSample_any w wr K (L ++ (numT den ++ (numT n ++ smsT g k))) (g k) (HF.out k hlt) HP.out hIk (by simp; omega))
      have HKk := Lib.hid hKk
      have HAk := Lib.hid hAk
      have hE : smsT g (k + 1) = smsT g k ++ smT (g k) := rfl
      have HE := Lib.hid hE
      clear hIk hKk hAk hx c1 c2 c3 hE hlk
      generalize smT (g k) = sT at *
      generalize (g k).t = xt at *
      generalize (g k).n = xn at *
      generalize (g k).m = xm at *
      go_wp2_with (go_at_call 26; refine HS1.out.mono ?_; rintro e W2 ⟨rfl, hI2, hK2⟩; have HI3 := Lib.hid hI2; have HK3 := Lib.hid hK2; clear hI2 hK2)
      go_roundw
      case rel => exact ⟨k + 1, by omega, by go_num, by rw [HE.out]; have := HI3.out; simp only [List.append_assoc] at this ⊢; exact this, HKk.out.trans HK3.out, HK3.out.at_ HAk.out hneK (by decide)⟩
      case measure => simp [intOf]; omega
    · obtain rfl : k = n := by omega
      have HIk := Lib.hid hIk
      have HKk := Lib.hid hKk
      clear hIk hKk hAk
      go_wp2
      go_end0
      exact ⟨rfl, HIk.out, HKk.out⟩
set_option maxRecDepth 100000 in
theorem bytes_back (L : List UInt8) (A : Option Addr) (c b : Nat) (W : World) (hO : Own b W 5 1 (.slice A L.length c) L.length (Lib.byteCells L)) : (convert 44 9 (.slice A L.length c)).run Tryd.prog W = .ok (.string ⟨L.toArray⟩) W := by
  obtain ⟨A', c', e, _, _, hnil, hsh⟩ := hO.is
  injection e with e1 e2 e3
  subst e1
  cases A with
  | none =>
    have h0 : L = [] := List.eq_nil_of_length_eq_zero (hnil rfl)
    subst h0
    have := run_convert_bytes_nil (P := Tryd.prog) W 44 5 Tryd.underlying44 Tryd.underlying5 0 c 9 Tryd.underlying9
    exact this
  | some a =>
    refine run_convert_bytes_back (P := Tryd.prog) W 44 9 5 a c L Tryd.underlying44 Tryd.underlying5 Tryd.underlying9 (fun j hj => ?_)
    unfold Shows at hsh
    obtain ⟨g, o, ea, hc⟩ := hsh (by rw [Lib.byteCells_length]; omega)
    obtain rfl := Option.some.inj ea
    rw [Addr.add_lit]
    refine hc j _ ?_
    unfold Lib.byteCells
    simp [List.getElem?_eq_getElem hj]
set_option maxHeartbeats 2000000 in
set_option maxRecDepth 100000 in
theorem Told_any (w W : World) (K : Nat) (L : List UInt8) (hI : Inks w K L W) :
    Calls Tryd.prog 15 #[.pointer (some ⟨K, 0, none⟩)] W fun e W' => e = .returned (.string ⟨L.toArray⟩) ∧ W = W' := by
  obtain ⟨v, hx, hK, hA, hO⟩ := hI
  obtain ⟨A1, c1, rfl, -⟩ := hO.is
  have hc := hA.cell
  have hKl := hA.lt
  have hb := bytes_back L A1 c1 _ W hO
  clear hA hO
  go_enter Tryd.func15, Tryd.ntmps15
  go_wp2
  go_ret
  exact ⟨rfl, rfl⟩

/-- The text of a series with an error. -/
@[irreducible] def toldT (den : Int) (g : Nat → Sm) (n : Nat) (e : Int) : ByteArray := ⟨(serT den g n ++ numT e).toArray⟩
theorem smsT_same {g g' : Nat → Sm} {n : Nat} (h : ∀ i, i < n → g i = g' i) : ∀ k, k ≤ n → smsT g k = smsT g' k
  | 0, _ => rfl
  | k + 1, hk => by
    show smsT g k ++ smT (g k) = smsT g' k ++ smT (g' k)
    rw [smsT_same h k (by omega), h k (by omega)]
theorem toldT_same {den e : Int} {g g' : Nat → Sm} {n : Nat} (h : ∀ i, i < n → g i = g' i) : toldT den g n e = toldT den g' n e := by
  unfold toldT serT
  rw [smsT_same h n (Nat.le_refl _)]
set_option maxHeartbeats 2000000 in
set_option maxRecDepth 100000 in
theorem told_any (w : World) (den : Int) (g : Nat → Sm) (n c : Nat) (A : Option Addr) (e : Int) (hd : Fit den) (hf : FitS g n) (hn : n ≤ 1000000) (he : Fit e) (hp : Pow w) (hL : SmAt w g n A) :
    Calls Tryd.prog 5 #[serV den A n c, .int .i64 e] w fun e' W' => e' = .returned (.string (toldT den g n e)) ∧ ∃ x, W' = gx w x := by
  have h1 : Inks w (w.heap.size + 1) [] ((w.alloc (.cells #[.int .i64 den, .slice A n c] 24)).alloc (.cells #[.slice none 0 0] 46)) :=
    ⟨.slice none 0 0, Gx.alloc (Gx.alloc (Gx.refl _)), by omega, At.new' (by simp), Own.nil _ _ _ _⟩
  have HJ := Lib.hid (InkSeries_any w _ (w.heap.size + 1) [] den g n c A hd hf hn hp h1 hL (by simp))
  have hls : (serT den g n).length ≤ 100000000 := by
    have h2 := smsT_len hf n (Nat.le_refl _)
    have h3 := numT_len hd.out.1 hd.out.2
    have h4 := numT_len (n := n) (by omega) (by omega)
    unfold serT
    simp only [List.length_append]
    omega
  have HE := Lib.hid (fun W1 (h : Inks w (w.heap.size + 1) ([] ++ serT den g n) W1) => Errno_any w W1 (w.heap.size + 1) ([] ++ serT den g n) e he.out.1 he.out.2 hp h (by simp; omega))
  have HT : Hid (toldT den g n e = ⟨(serT den g n ++ numT e).toArray⟩) := by unfold toldT; exact rfl
  clear h1 hd hf he hp hL hls
  generalize serT den g n = S at *
  generalize numT e = E at *
  go_enter Tryd.func5, Tryd.ntmps5
  go_wp2_with first
    | (go_at_call 13; refine HJ.out.mono ?_; rintro e W1 ⟨rfl, hI1, -⟩; have HI1 := Lib.hid hI1; clear hI1)
    | (go_at_call 14; refine (HE.out _ HI1.out).mono ?_; rintro e W2 ⟨rfl, hI2, -⟩; have HI2 := Lib.hid hI2; clear hI2)
    | (go_at_call 15; refine (Told_any _ _ _ _ HI2.out).mono ?_; rintro e W3 ⟨rfl, rfl⟩)
  go_ret
  exact ⟨by rw [HT.out]; rfl, HI2.out.gx⟩
/-- The text of numbers with an error. -/
@[irreducible] def intsT (D : List Int) (e : Int) : ByteArray := ⟨((numT D.length ++ numsT D) ++ numT e).toArray⟩
end Go.Proofs.YtmpokfbliacmoaaDoor
