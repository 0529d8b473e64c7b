/-
  PutSecond, the program's: contracts.
-/
import Derived.Test.YtllahhmonoedmaaDoorLawPut
import Derived.Deep.MidRow
namespace Go.Proofs.YtllahhmonoedmaaDoor
open Go.RowKit
-- AT2

/-- Eight frames' words, one behind the other. -/
structure Ss (L : List Int) : Prop where
  len : L.length = 512
  bd : ∀ k, 0 ≤ gw L k ∧ gw L k ≤ 65535
/-- The frame i of them. -/
def sub (L : List Int) (i : Nat) : List Int := (L.drop (64 * i)).take 64
theorem sub_len {L : List Int} (h : L.length = 512) {i : Nat} (hi : i < 8) : (sub L i).length = 64 := by unfold sub; simp; omega
theorem gw_sub (L : List Int) (i j : Nat) (hj : j < 64) : gw (sub L i) j = gw L (64 * i + j) := by
  unfold sub gw
  simp [List.getD_eq_getElem?_getD, hj, List.getElem?_drop]
theorem gw_past {F : List Int} {k : Nat} (h : F.length ≤ k) : gw F k = 0 := by
  unfold gw
  simp [List.getD_eq_getElem?_getD, List.getElem?_eq_none h]
theorem Ss.fr {L : List Int} (h : Ss L) {i : Nat} (hi : i < 8) : Fr (sub L i) :=
  ⟨sub_len h.len hi, fun k => by
    by_cases hk : k < 64
    · rw [gw_sub L i k hk]; exact h.bd _
    · rw [gw_past (by rw [sub_len h.len hi]; omega)]; decide⟩
attribute [irreducible] sub
theorem range_sub {L : List Int} (hl : L.length = 512) {i : Nat} (hi : i < 8) {w : World} {g : Nat} {t : TypeId} (hA : At w g (.cells (fc L) t (0, 0))) : w.rangeAt g (64 * i) ((sub L i).map (Value.int .u16)) := by
  intro j v hj
  have hj' : j < 64 := by
    have := (List.getElem?_eq_some_iff.1 hj).1
    rw [List.length_map, sub_len hl hi] at this
    exact this
  have e := fc_get (sub L i) j (by rw [sub_len hl hi]; exact hj')
  have hv : v = .int .u16 (gw (sub L i) j) := by
    have : (fc (sub L i))[j]? = some v := by unfold fc; simpa using hj
    rw [e] at this
    exact (Option.some.inj this).symm
  rw [cell_of_row w g _ _ _ _ hA, fc_get L (64 * i + j) (by omega), hv, gw_sub L i j hj']
theorem load_sub {ops : Array Oper} {rest : List Oper} {o : Oper} {a : Act} {w : World} {Q : Exit → Act → World → Prop} (hgd : o.guard = none) (x : Operand) (ho : o.op = .load 32 x)
    (g q i : Nat) (hx : a.eval x = .pointer (some ⟨g, q, none⟩)) (hq : q = 64 * i) (L : List Int) (t : TypeId) (hg : At w g (.cells (fc L) t (0, 0))) (hl : L.length = 512) (hi : i < 8)
    (h : wpList Tryd.prog ops Q rest (a.put o.dst (.agg (fc (sub L i)))) w) : wpList Tryd.prog ops Q (o :: rest) a w := by
  subst hq
  exact wpList_load_mid hgd _ x ho g _ hx _ _ (range_sub hl hi hg) Tryd.underlying32 rfl (by rw [List.length_map, sub_len hl hi]; kernel_rfl) h
theorem load_eight {ops : Array Oper} {rest : List Oper} {o : Oper} {a : Act} {w : World} {Q : Exit → Act → World → Prop} (hgd : o.guard = none) (x : Operand) (ho : o.op = .load 76 x)
    (g : Nat) (hx : a.eval x = .pointer (some ⟨g, 0, none⟩)) (L : List Int) (hg : At w g (.cells (fc L) 76 (0, 0))) (hl : L.length = 512)
    (h : wpList Tryd.prog ops Q rest (a.put o.dst (.agg (fc L))) w) : wpList Tryd.prog ops Q (o :: rest) a w :=
  wpList_load_row hgd _ x ho g hx _ _ _ _ hg Tryd.underlying76 rfl (by rw [fc_size, hl]; kernel_rfl) h

/-- The bytes behind k frames. -/
def wr8 (C : List Int) (q : Nat) (L : List Int) : Nat → List Int
  | 0 => C
  | k + 1 => wrF (wr8 C q L k) (q + 96 * k) (sub L k)
theorem wr8_len (C : List Int) (q : Nat) (L : List Int) : ∀ k, (wr8 C q L k).length = C.length
  | 0 => rfl
  | k + 1 => by unfold wr8; rw [wrF_len, wr8_len C q L k]
theorem wr8_bs {C : List Int} (hC : Bs C) (q : Nat) {L : List Int} (hL : Ss L) (hn : ∀ i, i < 8 → Narrow (sub L i)) : ∀ k, k ≤ 8 → Bs (wr8 C q L k)
  | 0, _ => hC
  | k + 1, h => by unfold wr8; exact wrF_bs (wr8_bs hC q hL hn k (by omega)) _ (hL.fr (by omega)) (hn k (by omega))
/-- The byte j of eight frames. -/
def by8 (L : List Int) (j : Nat) : Int := byI (sub L (j / 96)) (j % 96)
theorem gw_wr8 (C : List Int) (q : Nat) (L : List Int) (h : q + 768 ≤ C.length) : ∀ k, k ≤ 8 → ∀ j, gw (wr8 C q L k) j = if q ≤ j ∧ j < q + 96 * k then by8 L (j - q) else gw C j
  | 0, _, j => by unfold wr8; rw [if_neg (by omega)]
  | k + 1, hk, j => by
    unfold wr8
    rw [gw_wrF _ _ _ (by rw [wr8_len]; omega), gw_wr8 C q L h k (by omega) j]
    by_cases c : q + 96 * k ≤ j ∧ j < q + 96 * k + 96
    · rw [if_pos c, if_pos (by omega)]
      unfold by8
      rw [show (j - q) / 96 = k by omega, show (j - q) % 96 = j - (q + 96 * k) by omega]
    · rw [if_neg c]
      by_cases d : q ≤ j ∧ j < q + 96 * k
      · rw [if_pos d, if_pos (by omega)]
      · rw [if_neg d, if_neg (by omega)]
theorem wr8_0 (C : List Int) (q : Nat) (L : List Int) : wr8 C q L 0 = C := rfl
theorem wr8_succ (C : List Int) (q : Nat) (L : List Int) (k : Nat) : wrF (wr8 C q L k) (q + 96 * k) (sub L k) = wr8 C q L (k + 1) := rfl
attribute [irreducible] wr8
/-- Is one of the first k frames too wide? -/
def wide8 (L : List Int) : Nat → Bool
  | 0 => false
  | k + 1 => wide8 L k || wideB (sub L k)
theorem wide8_no {L : List Int} : ∀ {k : Nat}, wide8 L k = false → ∀ i, i < k → wideB (sub L i) = false
  | k + 1, h, i, hi => by
    unfold wide8 at h
    rw [Bool.or_eq_false_iff] at h
    by_cases e : i = k
    · subst e; exact h.2
    · exact wide8_no h.1 i (by omega)
theorem wide8_mono {L : List Int} {k m : Nat} (h : k ≤ m) (hk : wide8 L k = true) : wide8 L m = true := by
  induction m with
  | zero => obtain rfl : k = 0 := by omega
            exact hk
  | succ m ih =>
    by_cases e : k = m + 1
    · subst e; exact hk
    · unfold wide8; rw [ih (by omega)]; rfl

theorem PutSecond_bad (A : Option Addr) (n c : Nat) (at_ : Int) (L : List Int) (hm : n ≤ 9223372036854775807) (ha : at_ ≤ 9223372036854775807) (w : World) (E : Int) (he : placeE n at_ 768 = E) (hE : E ≠ 0) :
    Calls Tryd.prog 72 #[.slice A n c, .int .i64 at_, .agg (fc L)] w fun e w' => e = .returned (.int .i64 E) ∧ ∃ x, w' = gx w x := by
  have hb : (E != 0) = true := by rw [bne_iff_ne]; exact hE
  have HE := Lib.hid he
  clear he
  go_enter Tryd.func72, Tryd.ntmps72
  go_wp2_with (go_at_call 110; refine (checkRoom_any A n c at_ 768 hm ha _).mono ?_; rw [HE.out]; rintro e w' ⟨rfl, rfl⟩)
  go_ret
  exact ⟨rfl, (by repeat (first | (with_reducible exact Gx.refl _) | (with_reducible assumption) | (with_reducible refine Gx.gx ?_) | (with_reducible refine Gx.alloc ?_) | (with_reducible refine Gx.drew ?_) | (with_reducible refine Gx.drewN ?_) | (with_reducible refine Gx.setRow ?_ (by simp)) | (with_reducible refine Gx.setCell ?_ (by simp))))⟩

set_option maxHeartbeats 1000000 in
set_option maxRecDepth 100000 in
theorem PutSecond_wide (g o n c a : Nat) (L : List Int) (hL : Ss L) (hw : wide8 L 8 = true) (hm : n ≤ 9223372036854775807) (hnc : n ≤ c) (hcm : c ≤ 9223372036854775807) (h : a + 768 ≤ n) (w : World) :
    Calls Tryd.prog 72 #[.slice (some ⟨g, o, none⟩) n c, .int .i64 a, .agg (fc L)] w fun e w' => e = .returned (.int .i64 9) ∧ ∃ x, w' = gx w x := by
  have hl := hL.len
  have hp : placeE n (a : Int) 768 = 0 := by unfold placeE; rw [if_neg (by omega), if_neg (by omega)]
  have HP := Lib.hid hp
  clear hp
  go_enter Tryd.func72, Tryd.ntmps72
  go_wp2_with (go_at_call 110; refine (checkRoom_any _ n c a 768 hm (by omega) _).mono ?_; rw [HP.out]; rintro e w' ⟨rfl, rfl⟩)
  go_loopw [17] (fun i wr => ∃ k : Nat, k < 8 ∧ i = .int .i64 k ∧ wide8 L k = false ∧ ∃ x, wr = gx (w.alloc (.cells (fc L) 76)) x) (fun i _ => 8 - (intOf i).toNat)
  case atStart => exact ⟨0, by decide, rfl, rfl, Gx.refl _⟩
  case round =>
    obtain ⟨k, hk, rfl, hf, x, rfl⟩ := hrel
    have hfr := hL.fr hk
    cases hc : wideB (sub L k)
    · have hf1 : wide8 L (k + 1) = false := by unfold wide8; rw [hf, hc]; rfl
      have hk1 : k + 1 < 8 := by
        by_cases e : k + 1 = 8
        · rw [e, hw] at hf1; exact absurd hf1 (by decide)
        · omega
      go_wp2_with (first | (refine load_sub rfl _ rfl _ _ k rfl ?_ L 76 ?_ hl hk ?_; (focus omega); (focus (repeat (first | (with_reducible assumption) | (with_reducible exact At.new _ _) | (with_reducible refine At.row ?_) | (with_reducible refine At.app ?_) | (with_reducible refine At.tick ?_) | (with_reducible refine At.gx ?_) | ((with_reducible refine At.new' ?_); focus (simp; done)) | (with_reducible refine At.alloc ?_) | (with_reducible refine At.drew ?_) | (with_reducible exact Is.new _ _ _) | (with_reducible refine Is.row ?_) | (with_reducible refine Is.gx ?_) | ((with_reducible refine Is.new' ?_); focus (simp; done)) | (with_reducible refine Is.alloc ?_) | (with_reducible refine Is.drew ?_))))) | (go_at_call 84; refine (isWide_any _ hfr _).mono ?_; rintro e w' ⟨rfl, z, rfl⟩))
      go_roundw
      case rel => exact ⟨k + 1, hk1, by go_num, hf1, by exact (by repeat (first | (with_reducible exact Gx.refl _) | (with_reducible assumption) | (with_reducible refine Gx.gx ?_) | (with_reducible refine Gx.alloc ?_) | (with_reducible refine Gx.drew ?_) | (with_reducible refine Gx.drewN ?_) | (with_reducible refine Gx.setRow ?_ (by simp)) | (with_reducible refine Gx.setCell ?_ (by simp))))⟩
      case measure => simp [intOf]; omega
    · go_wp2_with (first | (refine load_sub rfl _ rfl _ _ k rfl ?_ L 76 ?_ hl hk ?_; (focus omega); (focus (repeat (first | (with_reducible assumption) | (with_reducible exact At.new _ _) | (with_reducible refine At.row ?_) | (with_reducible refine At.app ?_) | (with_reducible refine At.tick ?_) | (with_reducible refine At.gx ?_) | ((with_reducible refine At.new' ?_); focus (simp; done)) | (with_reducible refine At.alloc ?_) | (with_reducible refine At.drew ?_) | (with_reducible exact Is.new _ _ _) | (with_reducible refine Is.row ?_) | (with_reducible refine Is.gx ?_) | ((with_reducible refine Is.new' ?_); focus (simp; done)) | (with_reducible refine Is.alloc ?_) | (with_reducible refine Is.drew ?_))))) | (go_at_call 84; refine (isWide_any _ hfr _).mono ?_; rintro e w' ⟨rfl, z, rfl⟩))
      go_ret
      exact ⟨rfl, (by repeat (first | (with_reducible exact Gx.refl _) | (with_reducible assumption) | (with_reducible refine Gx.gx ?_) | (with_reducible refine Gx.alloc ?_) | (with_reducible refine Gx.drew ?_) | (with_reducible refine Gx.drewN ?_) | (with_reducible refine Gx.setRow ?_ (by simp)) | (with_reducible refine Gx.setCell ?_ (by simp))))⟩

theorem quiet_sub {ops : Array Oper} {C : World → Prop} {Q : Act → Prop} {a : Act} {o : Oper} {rest : List Oper} (hw : Region.wanted o (yielded ops a.tmps) = true) (x : Operand) (ho : o.op = .load 32 x)
    (g q i : Nat) (hx : a.eval x = .pointer (some ⟨g, q, none⟩)) (hq : q = 64 * i) (L : List Int) (t : TypeId) (hC : ∀ w, C w → At w g (.cells (fc L) t (0, 0))) (hl : L.length = 512) (hi : i < 8)
    (h : wpQuiet Tryd.prog ops C Q rest (a.put o.dst (.agg (fc (sub L i))))) : wpQuiet Tryd.prog ops C Q (o :: rest) a := by
  subst hq
  refine BigFrame.wpQuiet_want hw fun K hK => ⟨.agg (fc (sub L i)), fun w hw' => ?_, hK _ h⟩
  unfold Oper.quietAt execOp
  simp only [ho, hx, Instr.loadAt, Instr.sureAddr, Sem.run_bind, Sem.run_pure, Result.andThen_ok, run_loadVar_mid w g _ _ _ _ (range_sub hl hi (hC w hw')) Tryd.underlying32 rfl (by rw [List.length_map, sub_len hl hi]; kernel_rfl)]
  exact ⟨rfl, rfl⟩
set_option maxHeartbeats 400000 in
set_option maxRecDepth 100000 in
theorem frameOf_any (g q i : Nat) (hi : i < 8) (w : World) :
    Calls Tryd.prog 111 #[.pointer (some ⟨g, q, none⟩), .int .i64 i] w fun e w' => e = .returned (.pointer (some ⟨g, q + 96 * i, none⟩)) ∧ w = w' := by
  have hat : ∀ w, (Instr.arrayAt 120 (.slice (some ⟨g, q + i * 96, none⟩) (768 - i * 96) (768 - i * 96))).run Tryd.prog w = .ok (.pointer (some ⟨g, q + i * 96, none⟩)) w := fun w => run_arrayAt _ _ _ _ _ _ _ Tryd.underlying120 (by omega)
  have hne : ¬ (768 = i * 96) := by omega
  have hsl : ∀ w, (Instr.sliceAt 148 (.pointer (some ⟨g, q, none⟩)) (some (.int .i64 ((i : Int) * 96))) none none).run Tryd.prog w = .ok (.slice (some ⟨g, q + i * 96, none⟩) (768 - i * 96) (768 - i * 96)) w := fun w => by
    have ht' : Tryd.prog.underlying 148 = some (.array (Tryd.prog.arrayLen 148) (Tryd.prog.elem 148)) := by simp [Program.elem, Program.arrayLen, Tryd.underlying148]
    have he : Tryd.prog.elem 148 = 5 := by simp [Program.elem, Tryd.underlying148]
    have hn : Tryd.prog.arrayLen 148 = 768 := by simp [Program.arrayLen, Tryd.underlying148]
    rw [run_sliceAt_array_l w 148 _ ht' .i64 _ (by omega) (by rw [hn]; omega), he, sizeByte, hn]
    have e2 : ((i : Int) * 96).toNat = i * 96 := by omega
    by_cases h0 : i = 0
    · subst h0; simp [Result.andThen, slicedAt, Addr.add]
    · have h1 : ¬ i * 96 = 0 := by omega
      simp [Result.andThen, slicedAt, Addr.add, hne, e2, h1]
  have hw : IntKind.i64.wrap ((i : Int) * 96) = (i : Int) * 96 := IntWalk.i64_in _ (by omega)
  go_enter Tryd.func111, Tryd.ntmps111
  go_wp2
  go_ret
  exact ⟨by rw [Nat.mul_comm 96 i]; rfl, rfl⟩
set_option maxHeartbeats 2000000 in
set_option maxRecDepth 100000 in
theorem PutSecond_good (C : List Int) (hC : Bs C) (g o n c a : Nat) (L : List Int) (hL : Ss L) (hw : wide8 L 8 = false) (hm : n ≤ 9223372036854775807) (hnc : n ≤ c) (hcm : c ≤ 9223372036854775807) (h : a + 768 ≤ n) (hq : o + a + 768 ≤ C.length) (w : World) (hA : At w g (.cells (bc C) 5 (0, 0))) :
    Calls Tryd.prog 72 #[.slice (some ⟨g, o, none⟩) n c, .int .i64 a, .agg (fc L)] w fun e w' => e = .returned (.int .i64 0) ∧ ∃ x, w' = gx (w.setRow g (bc (wr8 C (o + a) L 8))) x := by
  have hl := hL.len
  have hg := hA.lt
  have hI : Is w g 5 := ⟨_, hA⟩
  have hws := wide8_no hw
  have hns : ∀ i, i < 8 → Narrow (sub L i) := fun i hi => wideB_false.1 (hws i hi)
  have hp : placeE n (a : Int) 768 = 0 := by unfold placeE; rw [if_neg (by omega), if_neg (by omega)]
  have HP := Lib.hid hp
  have HW := Lib.hid hws
  have HN := Lib.hid hns
  have e0 : w.setRow g (bc (wr8 C (o + a) L 0)) = w := by rw [wr8_0]; exact hA.self
  have E0 := Lib.hid e0
  have hat : ∀ w, (Instr.arrayAt 148 (.slice (some ⟨g, o + a, none⟩) (n - a) (c - a))).run Tryd.prog w = .ok (.pointer (some ⟨g, o + a, none⟩)) w := fun w => run_arrayAt _ _ _ _ _ _ _ Tryd.underlying148 (by omega)
  have hac : ¬ (c = a) := by omega
  clear hp hws hns e0
  go_enter Tryd.func72, Tryd.ntmps72
  go_wp2_with (go_at_call 110; refine (checkRoom_any _ n c a 768 hm (by omega) _).mono ?_; rw [HP.out]; rintro e w' ⟨rfl, rfl⟩)
  go_loopw [17] (fun i wr => ∃ k : Nat, k ≤ 8 ∧ i = .int .i64 k ∧ ∃ x, wr = gx (w.alloc (.cells (fc L) 76)) x) (fun i _ => 8 - (intOf i).toNat)
  case atStart => exact ⟨0, by decide, rfl, Gx.refl _⟩
  case round =>
    obtain ⟨k, hk, rfl, x, rfl⟩ := hrel
    by_cases hlt : k < 8
    · have hfr := hL.fr hlt
      have hc := HW.out k hlt
      go_wp2_with (first | (refine load_sub rfl _ rfl _ _ k rfl ?_ L 76 ?_ hl hlt ?_; (focus omega); (focus (repeat (first | (with_reducible assumption) | (with_reducible exact At.new _ _) | (with_reducible refine At.row ?_) | (with_reducible refine At.app ?_) | (with_reducible refine At.tick ?_) | (with_reducible refine At.gx ?_) | ((with_reducible refine At.new' ?_); focus (simp; done)) | (with_reducible refine At.alloc ?_) | (with_reducible refine At.drew ?_) | (with_reducible exact Is.new _ _ _) | (with_reducible refine Is.row ?_) | (with_reducible refine Is.gx ?_) | ((with_reducible refine Is.new' ?_); focus (simp; done)) | (with_reducible refine Is.alloc ?_) | (with_reducible refine Is.drew ?_))))) | (go_at_call 84; refine (isWide_any _ hfr _).mono ?_; rw [hc]; rintro e w' ⟨rfl, z, rfl⟩))
      go_roundw
      case rel => exact ⟨k + 1, by omega, by go_num, by exact (by repeat (first | (with_reducible exact Gx.refl _) | (with_reducible assumption) | (with_reducible refine Gx.gx ?_) | (with_reducible refine Gx.alloc ?_) | (with_reducible refine Gx.drew ?_) | (with_reducible refine Gx.drewN ?_) | (with_reducible refine Gx.setRow ?_ (by simp)) | (with_reducible refine Gx.setCell ?_ (by simp))))⟩
      case measure => simp [intOf]; omega
    · obtain rfl : k = 8 := by omega
      go_wp2
      go_loopw [29] (fun i wr => ∃ k : Nat, k ≤ 8 ∧ i = .int .i64 k ∧ ∃ y, wr = gx ((w.setRow g (bc (wr8 C (o + a) L k))).alloc (.cells (fc L) 76)) y) (fun i _ => 8 - (intOf i).toNat)
      case atStart => exact ⟨0, by decide, rfl, by rw [E0.out]; exact ⟨_, rfl⟩⟩
      case round =>
        obtain ⟨k, hk, rfl, y, rfl⟩ := hrel
        by_cases hlt : k < 8
        · have hfr := hL.fr hlt
          have hb := wr8_bs hC (o + a) hL HN.out k hk
          have hlc : (wr8 C (o + a) L k).length = C.length := wr8_len C (o + a) L k
          have hs := Lib.hid (wr8_succ C (o + a) L k)
          have hq' : o + a + 96 * k + 96 ≤ (wr8 C (o + a) L k).length := by omega
          have hn := HN.out k hlt
          clear hlc
          go_wp2
          first | (with_reducible refine region_gx_tail 6 (by kernel_rfl) (by kernel_rfl) ?_) | (with_reducible refine region_w_tail 6 (by kernel_rfl) (by kernel_rfl) ?_)
          simp only [List.take_succ_cons, List.take_zero, List.drop_succ_cons, List.drop_zero]
          repeat (any_goals (first | (refine quiet_sub rfl _ rfl _ _ k rfl ?_ L 76 ?_ hl hlt ?_; (focus omega); (focus (rintro _ ⟨x, rfl⟩; (focus (repeat (first | (with_reducible assumption) | (with_reducible exact At.new _ _) | (with_reducible refine At.row ?_) | (with_reducible refine At.app ?_) | (with_reducible refine At.tick ?_) | (with_reducible refine At.gx ?_) | ((with_reducible refine At.new' ?_); focus (simp; done)) | (with_reducible refine At.alloc ?_) | (with_reducible refine At.drew ?_) | (with_reducible exact Is.new _ _ _) | (with_reducible refine Is.row ?_) | (with_reducible refine Is.gx ?_) | ((with_reducible refine Is.new' ?_); focus (simp; done)) | (with_reducible refine Is.alloc ?_) | (with_reducible refine Is.drew ?_))))))) | go_big_quiet_step ((go_at_call 111; exact calls_gx_same (frameOf_any g (o + a) k hlt _))) | quiet_step ((go_at_call 111; exact calls_gx_same (frameOf_any g (o + a) k hlt _)))))
          refine wpQuiet_nil ?_
          rintro _ ⟨x, rfl⟩
          go_wp2_with (go_at_call 103; refine (write_any _ hb (o + a + 96 * k) hq' _ hfr hn _ g ?_).mono ?_; (focus (repeat (first | (with_reducible assumption) | (with_reducible exact At.new _ _) | (with_reducible refine At.row ?_) | (with_reducible refine At.app ?_) | (with_reducible refine At.tick ?_) | (with_reducible refine At.gx ?_) | ((with_reducible refine At.new' ?_); focus (simp; done)) | (with_reducible refine At.alloc ?_) | (with_reducible refine At.drew ?_) | (with_reducible exact Is.new _ _ _) | (with_reducible refine Is.row ?_) | (with_reducible refine Is.gx ?_) | ((with_reducible refine Is.new' ?_); focus (simp; done)) | (with_reducible refine Is.alloc ?_) | (with_reducible refine Is.drew ?_)))); rintro e w' ⟨rfl, z, rfl⟩)
          refine ⟨⟨_, _, _, _, _, _, _, _, _, _, _, _, ⟨k + 1, by omega, ?_, ?_⟩, rfl⟩, ?_⟩
          · go_num
          · rw [← hs.out]; exact ⟨_, rfl⟩
          · simp [intOf]; omega
        · obtain rfl : k = 8 := by omega
          go_wp2
          go_ret
          exact ⟨rfl, (by repeat (first | (with_reducible exact Gx.refl _) | (with_reducible assumption) | (with_reducible refine Gx.gx ?_) | (with_reducible refine Gx.alloc ?_) | (with_reducible refine Gx.drew ?_) | (with_reducible refine Gx.drewN ?_) | (with_reducible refine Gx.setRow ?_ (by simp)) | (with_reducible refine Gx.setCell ?_ (by simp))))⟩
end Go.Proofs.YtllahhmonoedmaaDoor