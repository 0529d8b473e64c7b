/-
  Same, the reference's: the contract.
-/
import Derived.Test.YtllahhmonoedmaaDoorSame
namespace Go.Proofs.YtllahhmonoedmaaDoor
open Go.RowKit
-- AT2

def u8s (l : List Int) : List UInt8 := l.map fun x => UInt8.ofNat x.toNat
theorem push_all (l : List Int) : ∀ r : ByteArray, (l.foldl (fun r x => r.push (UInt8.ofNat x.toNat)) r).data.toList = r.data.toList ++ u8s l := by
  induction l with
  | nil => intro r; simp [u8s]
  | cons x l ih =>
    intro r
    rw [List.foldl_cons, ih]
    simp [ByteArray.push, u8s]
theorem strB_data (B : List Int) (n : Nat) : (strB B n).data.toList = u8s ((List.range n).map (gw B)) := by
  unfold strB
  rw [push_all]
  rfl
theorem strB_eq {B D : List Int} (hB : Bs B) (hD : Bs D) (n : Nat) (h : strB B n = strB D n) (j : Nat) (hj : j < n) : gw B j = gw D j := by
  have e := congrArg (fun s : ByteArray => s.data.toList[j]?) h
  simp only [strB_data, u8s, List.map_map, List.getElem?_map, List.getElem?_range hj, Option.map_some, Option.some.injEq, Function.comp] at e
  have e2 := congrArg UInt8.toNat e
  have b0 := hB j
  have b1 := hD j
  rw [UInt8.toNat_ofNat', UInt8.toNat_ofNat'] at e2
  omega
theorem loop_is (b : ByteArray) : ∀ (m i : Nat) (acc : List UInt8), b.size - i = m → ByteArray.toList.loop b i acc = acc.reverse ++ b.data.toList.drop i := by
  intro m
  induction m with
  | zero =>
    intro i acc h
    rw [ByteArray.toList.loop]
    have hi : ¬ i < b.size := by omega
    rw [if_neg hi, List.drop_eq_nil_of_le (by have : b.data.toList.length = b.size := rfl; omega), List.append_nil]
  | succ m ih =>
    intro i acc h
    have hi : i < b.size := by omega
    rw [ByteArray.toList.loop, if_pos hi, ih (i + 1) _ (by omega)]
    have hl : i < b.data.toList.length := hi
    rw [List.drop_eq_getElem_cons hl]
    have e : b.get! i = b.data.toList[i] := by
      have hi' : i < b.data.size := hi
      show b.data[i]! = _
      rw [getElem!_pos b.data i hi']
      simp
    simp [e]
theorem toList_is (b : ByteArray) : b.toList = b.data.toList := by
  unfold ByteArray.toList
  rw [loop_is b _ 0 [] rfl]
  simp
theorem strB_eqW {B D : List Int} (hB : Bs B) (hD : Bs D) (hl : B.length = 96) (hl' : D.length = 96) : ((strB B 96).toList == (strB D 96).toList) = eqW B D := by
  rw [Bool.eq_iff_iff, beq_iff_eq, eqW_iff hl hl', toList_is, toList_is]
  refine ⟨fun h => ext_gw (by omega) fun k hk => strB_eq hB hD 96 ?_ k (by omega), fun h => by rw [h]⟩
  have : (strB B 96).data = (strB D 96).data := Array.toList_inj.1 h
  cases hs : strB B 96; cases hs' : strB D 96
  rw [hs, hs'] at this
  simp at this
  rw [this]
theorem quiet_conv {ops : Array Oper} {C : World → Prop} {Q : Act → Prop} {a : Act} {o : Oper} {rest : List Oper} (hw : Region.wanted o (yielded ops a.tmps) = true) (x : Operand) (ho : o.op = .convert 61 9 x)
    (A : Option Addr) (n c : Nat) (hx : a.eval x = .slice A n c) (B : List Int) (hC : ∀ w, C w → HeldB B A n w) (hA : A = none → n = 0)
    (h : wpQuiet Tryd.prog ops C Q rest (a.put o.dst (.string (strB B n)))) : wpQuiet Tryd.prog ops C Q (o :: rest) a := by
  refine BigFrame.wpQuiet_want hw fun K hK => ⟨.string (strB B n), fun w hw' => ?_, hK _ h⟩
  unfold Oper.quietAt execOp
  simp only [ho, hx, Sem.run_bind, Sem.run_pure, Result.andThen_ok, conv_held B A n c w (hC w hw') hA]
  exact ⟨rfl, rfl⟩
set_option maxHeartbeats 600000 in
set_option maxRecDepth 100000 in
theorem RSame_bad (A A' : Option Addr) (n n' c c' : Nat) (at_ to_ : Int) (hm : n ≤ 9223372036854775807) (ha : at_ ≤ 9223372036854775807) (hm' : n' ≤ 9223372036854775807) (ha' : to_ ≤ 9223372036854775807) (w : World) (E : Int) (hE : E ≠ 0) (he : (placeE n at_ 96 = E) ∨ (placeE n at_ 96 = 0 ∧ placeE n' to_ 96 = E)) :
    Calls Tryd.prog 55 #[.slice A n c, .int .i64 at_, .slice A' n' c', .int .i64 to_] w fun e w' => e = .returned (.tuple #[.bool false, .int .i64 E]) ∧ ∃ x, w' = gx w x := by
  have hb : (E != 0) = true := by rw [bne_iff_ne]; exact hE
  clear hE
  rcases he with he | ⟨he, he'⟩
  · have HE := Lib.hid he
    clear he
    go_enter Tryd.func55, Tryd.ntmps55
    go_wp2_with (go_at_call 108; refine (Place_any A n c at_ 96 hm ha (by decide) _).mono ?_; rw [HE.out]; rintro e w' ⟨rfl, rfl⟩)
    go_ret2
    exact ⟨rfl, (by repeat (first | (with_reducible exact Gx.refl _) | (with_reducible assumption) | (with_reducible refine Gx.gx ?_) | (with_reducible refine Gx.alloc ?_) | (with_reducible refine Gx.drew ?_) | (with_reducible refine Gx.drewN ?_) | (with_reducible refine Gx.setRow ?_ (by simp)) | (with_reducible refine Gx.setCell ?_ (by simp))))⟩
  · have HE := Lib.hid he
    have HE' := Lib.hid he'
    clear he he'
    go_enter Tryd.func55, Tryd.ntmps55
    go_wp2_with (go_at_call 108; refine (Place_any _ _ _ _ 96 (by assumption) (by assumption) (by decide) _).mono ?_; (first | rw [HE.out] | rw [HE'.out]); rintro e w' ⟨rfl, rfl⟩)
    go_ret2
    exact ⟨rfl, (by repeat (first | (with_reducible exact Gx.refl _) | (with_reducible assumption) | (with_reducible refine Gx.gx ?_) | (with_reducible refine Gx.alloc ?_) | (with_reducible refine Gx.drew ?_) | (with_reducible refine Gx.drewN ?_) | (with_reducible refine Gx.setRow ?_ (by simp)) | (with_reducible refine Gx.setCell ?_ (by simp))))⟩
set_option maxHeartbeats 1000000 in
set_option maxRecDepth 100000 in
theorem RSame_good (B D : List Int) (hbB : Bs B) (hbD : Bs D) (hB : B.length = 96) (hD : D.length = 96) (b o n c a b' o' n' c' a' : Nat) (hm : n ≤ 4611686018427387904) (hnc : n ≤ c) (h : a + 96 ≤ n) (hm' : n' ≤ 4611686018427387904) (hnc' : n' ≤ c') (h' : a' + 96 ≤ n') (w : World)
    (hc : ∀ j, j < 96 → w.cell? ⟨b, o + a + j, none⟩ = some (.int .u8 (gw B j))) (hd : ∀ j, j < 96 → w.cell? ⟨b', o' + a' + j, none⟩ = some (.int .u8 (gw D j))) :
    Calls Tryd.prog 55 #[.slice (some ⟨b, o, none⟩) n c, .int .i64 a, .slice (some ⟨b', o', none⟩) n' c', .int .i64 a'] w fun e w' => e = .returned (.tuple #[.bool (eqW B D), .int .i64 0]) ∧ ∃ x, w' = gx w x := by
  have he : placeE n (a : Int) 96 = 0 := by unfold placeE; rw [if_neg (by omega), if_neg (by omega)]
  have he' : placeE n' (a' : Int) 96 = 0 := by unfold placeE; rw [if_neg (by omega), if_neg (by omega)]
  have HE := Lib.hid he
  have HE' := Lib.hid he'
  have q1 : (a : Int) ≤ 9223372036854775807 := by omega
  have q2 : (a' : Int) ≤ 9223372036854775807 := by omega
  have q3 : n ≤ 9223372036854775807 := by omega
  have q4 : n' ≤ 9223372036854775807 := by omega
  have hBh : ∀ x, HeldB B (some ⟨b, o + a, none⟩) 96 (gx w x) := fun x => HeldB.gx (by unfold HeldB; exact fun _ => ⟨b, o + a, rfl, hc⟩)
  have hDh : ∀ x, HeldB D (some ⟨b', o' + a', none⟩) 96 (gx w x) := fun x => HeldB.gx (by unfold HeldB; exact fun _ => ⟨b', o' + a', rfl, hd⟩)
  have HB := Lib.hid hBh
  have HD := Lib.hid hDh
  have s1 : ∀ W, (Instr.slice 61 (.slice (some ⟨b, o, none⟩) n c) (some (.int .i64 (a : Int))) (some (.int .i64 ((a : Int) + 96))) none).run Tryd.prog W = .ok (.slice (some ⟨b, o + a, none⟩) 96 (c - a)) W := fun W => by
    have := slice_part b o n c a (a + 96) (by omega) (by omega) (by omega) W
    rw [Nat.add_sub_cancel_left] at this
    exact this
  have s2 : ∀ W, (Instr.slice 61 (.slice (some ⟨b', o', none⟩) n' c') (some (.int .i64 (a' : Int))) (some (.int .i64 ((a' : Int) + 96))) none).run Tryd.prog W = .ok (.slice (some ⟨b', o' + a', none⟩) 96 (c' - a')) W := fun W => by
    have := slice_part b' o' n' c' a' (a' + 96) (by omega) (by omega) (by omega) W
    rw [Nat.add_sub_cancel_left] at this
    exact this
  have w1 : IntKind.i64.wrap ((a : Int) + 96) = (a : Int) + 96 := IntWalk.i64_in _ (by omega)
  have w2 : IntKind.i64.wrap ((a' : Int) + 96) = (a' : Int) + 96 := IntWalk.i64_in _ (by omega)
  have eS := Lib.hid (strB_eqW hbB hbD hB hD)
  clear he he' hc hd hBh hDh
  go_enter Tryd.func55, Tryd.ntmps55
  go_wp2_with (go_at_call 108; refine (Place_any _ _ _ _ 96 (by assumption) (by assumption) (by decide) _).mono ?_; (first | rw [HE.out] | rw [HE'.out]); rintro e w' ⟨rfl, rfl⟩)
  refine region_gx (by kernel_rfl) (by kernel_rfl) ?_
  repeat (any_goals (first | (refine quiet_conv rfl _ rfl (some ⟨b, o + a, none⟩) 96 (c - a) rfl B ?_ (fun h => by cases h) ?_; (focus (rintro _ ⟨x, rfl⟩; exact HB.out x))) | (refine quiet_conv rfl _ rfl (some ⟨b', o' + a', none⟩) 96 (c' - a') rfl D ?_ (fun h => by cases h) ?_; (focus (rintro _ ⟨x, rfl⟩; exact HD.out x))) | go_big_quiet_step (fail) | quiet_step (fail)))
  refine wpQuiet_nil ?_
  rintro _ ⟨x, rfl⟩
  go_wp2
  go_ret2
  exact ⟨by rw [← eS.out]; rfl, (by repeat (first | (with_reducible exact Gx.refl _) | (with_reducible assumption) | (with_reducible refine Gx.gx ?_) | (with_reducible refine Gx.alloc ?_) | (with_reducible refine Gx.drew ?_) | (with_reducible refine Gx.drewN ?_) | (with_reducible refine Gx.setRow ?_ (by simp)) | (with_reducible refine Gx.setCell ?_ (by simp))))⟩
end Go.Proofs.YtllahhmonoedmaaDoor
