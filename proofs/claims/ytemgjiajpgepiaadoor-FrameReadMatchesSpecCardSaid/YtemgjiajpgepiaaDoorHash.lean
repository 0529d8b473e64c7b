/-
  Hash, the program's and the reference's: contracts.
-/
import Derived.Test.YtemgjiajpgepiaaDoorToBytes
import Derived.Laws.BitsAllLaws
namespace Go.Proofs.YtemgjiajpgepiaaDoor
open Go.RowKit
-- AT2

/-- One byte mixed into a digest. -/
@[irreducible] def hstep (h b : Int) : Int := IntKind.u64.wrap (xorI h b * 1099511628211)
theorem hstep_bd (h b : Int) : 0 ≤ hstep h b ∧ hstep h b < 18446744073709551616 := by unfold hstep; rw [IntKind.wrap_u64]; omega
def hashTo (F : List Int) : Nat → Int
  | 0 => 14695981039346656037
  | k + 1 => hstep (hstep (hashTo F k) (gw F k / 256)) (gw F k % 256)
theorem hashTo_bd (F : List Int) : ∀ k, 0 ≤ hashTo F k ∧ hashTo F k < 18446744073709551616
  | 0 => by simp [hashTo]
  | k + 1 => hstep_bd _ _
theorem hash_0 (F : List Int) : hashTo F 0 = 14695981039346656037 := rfl
theorem hash_succ (F : List Int) (k : Nat) : hstep (hstep (hashTo F k) (gw F k / 256)) (gw F k % 256) = hashTo F (k + 1) := rfl
theorem hstep_eq {h b : Int} (h0 : 0 ≤ h) (h1 : h < 18446744073709551616) (b0 : 0 ≤ b) (b1 : b < 256) : IntKind.u64.wrap (bits .xor .u64 h b * 1099511628211) = hstep h b := by
  rw [bits_xor .u64 64 (by decide) wraps_u64 h b h0 (by omega) b0 (by omega)]
  unfold hstep
  rfl
attribute [irreducible] hashTo
/-- The byte k of a digest. -/
def digI (h : Int) (k : Nat) : Int := h / 2 ^ (56 - 8 * k) % 256
def digTo (h : Int) : Nat → List Int
  | 0 => zerosI 8
  | k + 1 => (digTo h k).set k (digI h k)
theorem digTo_len (h : Int) : ∀ k, (digTo h k).length = 8
  | 0 => by unfold digTo; exact zerosI_len 8
  | k + 1 => by unfold digTo; rw [List.length_set, digTo_len h k]
theorem dig_0 (h : Int) : digTo h 0 = zerosI 8 := rfl
theorem dig_succ (h : Int) (k : Nat) : (digTo h k).set k (digI h k) = digTo h (k + 1) := rfl
attribute [irreducible] digTo
def hashD (F : List Int) : List Int := digTo (hashTo F 64) 8
theorem hashD_len (F : List Int) : (hashD F).length = 8 := digTo_len _ 8
theorem hashD_eq (F : List Int) : digTo (hashTo F 64) 8 = hashD F := rfl
attribute [irreducible] hashD
@[go_sem high] theorem fold_zero8 : (#[Value.int .u8 0, Value.int .u8 0, Value.int .u8 0, Value.int .u8 0, Value.int .u8 0, Value.int .u8 0, Value.int .u8 0, Value.int .u8 0] : Array Value) = bc (zerosI 8) := by
  unfold zerosI
  rfl
section
variable {ops : Array Oper} {rest : List Oper} {o : Oper} {a : Act} {w : World} {Q : Exit → Act → World → Prop}
theorem load_dg (hgd : o.guard = none) (x : Operand) (ho : o.op = .load 51 x) (g : Nat) (hx : a.eval x = .pointer (some ⟨g, 0, none⟩)) (D : List Int) (hg : At w g (.cells (bc D) 51 (0, 0))) (hl : D.length = 8)
    (h : wpList Tryd.prog ops Q rest (a.put o.dst (.agg (bc D))) w) : wpList Tryd.prog ops Q (o :: rest) a w :=
  wpList_plain hgd fun _ hK => wp_load_row _ x ho g hx _ _ _ _ hg Tryd.underlying51 rfl (by rw [bc_size, hl]; kernel_rfl) (hK _ _ h)
theorem store_dg (hgd : o.guard = none) (x y : Operand) (ho : o.op = .store 51 x y) (g : Nat) (hx : a.eval x = .pointer (some ⟨g, 0, none⟩)) (D : List Int) (hy : a.eval y = .agg (bc D)) (E : List Int) (hg : At w g (.cells (bc E) 51 (0, 0))) (hl : D.length = 8) (hl' : E.length = 8)
    (h : wpList Tryd.prog ops Q rest (a.put o.dst undef) (w.setRow g (bc D))) : wpList Tryd.prog ops Q (o :: rest) a w :=
  wpList_store_row hgd _ x y ho g _ hx hy _ _ hg (by rw [bc_size, hl]; kernel_rfl) (by rw [bc_size, bc_size, hl, hl']) (by simp [bc, Value.oneCell']) h
end
theorem ret_dg {fn : Func} {p : Tmp} (h : fn.results = #[.cell p 51]) (a : Act) (w : World) (g : Nat) (D : List Int) (hp : a.tmps.getD p undef = .pointer (some ⟨g, 0, none⟩))
    (hd : a.defers = []) {R : Ending → World → Prop} (hg : At w g (.cells (bc D) 51 (0, 0))) (hl : D.length = 8) (hR : R (.returned (.agg (bc D))) w) : bodyPost Tryd.prog fn R .ret a w :=
  bodyPost_ret (by
    have hp' : a.tmps[p]?.getD undef = .pointer (some ⟨g, 0, none⟩) := by simpa using hp
    have hld := run_loadVar_row (P := Tryd.prog) w g _ _ _ _ _ hg Tryd.underlying51 rfl (by rw [bc_size, hl]; kernel_rfl)
    simp [results, h, hp', asAddr, hld]) hd hR

set_option maxHeartbeats 1000000 in
set_option maxRecDepth 100000 in
theorem Hash_any (F : List Int) (hF : Fr F) (w : World) :
    Calls Tryd.prog 37 #[.agg (fc F)] w fun e w' => e = .returned (.agg (bc (hashD F))) ∧ ∃ x, w' = gx w x := by
  have hl := hF.len
  have Z := Lib.hid (hash_0 F)
  have hz := zerosI_len 8
  go_enter Tryd.func37, Tryd.ntmps37
  go_wp2
  go_loop [3, 7] (fun h i => ∃ k : Nat, k ≤ 64 ∧ i = .int .i64 k ∧ h = .int .u64 (hashTo F k)) (fun _ i => 64 - (intOf i).toNat)
  case atStart => exact ⟨0, Nat.zero_le _, rfl, by rw [Z.out]⟩
  case round =>
    obtain ⟨k, hk, rfl, rfl⟩ := hrel
    have b0 := (hashTo_bd F k).1
    have b1 := (hashTo_bd F k).2
    by_cases hlt : k < 64
    · have k0 : 0 ≤ gw F k := (hF.bd k).1
      have k1 : gw F k ≤ 65535 := (hF.bd k).2
      have y := hstep_bd (hashTo F k) (gw F k / 256)
      have x1 := hstep_eq (b := gw F k / 256) b0 b1 (by omega) (by omega)
      have x2 := hstep_eq (b := gw F k % 256) y.1 y.2 (by omega) (by omega)
      have x3 : bits .and .u16 (gw F k) 255 = gw F k % 256 := u16_and255 _ k0 k1
      have hs := Lib.hid (hash_succ F k)
      have c1 := y.1
      have c2 := y.2
      clear y
      go_wp2
      go_round
      case rel => exact ⟨k + 1, by omega, by go_num, by rw [← hs.out]⟩
      case measure => simp [intOf]; omega
    · obtain rfl : k = 64 := by omega
      have D0 := Lib.hid (dig_0 (hashTo F 64))
      have DE := Lib.hid (hashD_eq F)
      generalize hashTo F 64 = H at *
      go_wp2
      go_loopw [27] (fun i wr => ∃ k : Nat, k ≤ 8 ∧ i = .int .i64 k ∧ wr = ((w.alloc (.cells (fc F) 32)).alloc (.cells (bc (zerosI 8)) 51)).alloc (.cells (bc (digTo H k)) 51)) (fun i _ => 8 - (intOf i).toNat)
      case atStart => exact ⟨0, Nat.zero_le _, rfl, by rw [D0.out]⟩
      case round =>
        obtain ⟨k, hk, rfl, rfl⟩ := hrel
        have hl1 := digTo_len H k
        by_cases hlt : k < 8
        · have s1 : (8 * (7 - (k : Int))).toNat = 56 - 8 * k := by omega
          have hs := Lib.hid (dig_succ H k)
          go_wp2
          go_roundw
          case rel => exact ⟨k + 1, by omega, by go_num, by rw [← hs.out]; rfl⟩
          case measure => simp [intOf]; omega
        · obtain rfl : k = 8 := by omega
          go_wp2_with (first | (refine load_dg rfl _ rfl _ rfl _ ?_ hl1 ?_; (focus (repeat (first | (with_reducible assumption) | (with_reducible exact At.new _ _) | (with_reducible refine At.row ?_) | (with_reducible refine At.app ?_) | (with_reducible refine At.tick ?_) | (with_reducible refine At.gx ?_) | ((with_reducible refine At.new' ?_); focus (simp; done)) | (with_reducible refine At.alloc ?_) | (with_reducible refine At.drew ?_) | (with_reducible exact Is.new _ _ _) | (with_reducible refine Is.row ?_) | (with_reducible refine Is.gx ?_) | ((with_reducible refine Is.new' ?_); focus (simp; done)) | (with_reducible refine Is.alloc ?_) | (with_reducible refine Is.drew ?_))))) | (refine store_dg rfl _ _ rfl _ rfl _ rfl _ ?_ hl1 hz ?_; (focus (repeat (first | (with_reducible assumption) | (with_reducible exact At.new _ _) | (with_reducible refine At.row ?_) | (with_reducible refine At.app ?_) | (with_reducible refine At.tick ?_) | (with_reducible refine At.gx ?_) | ((with_reducible refine At.new' ?_); focus (simp; done)) | (with_reducible refine At.alloc ?_) | (with_reducible refine At.drew ?_) | (with_reducible exact Is.new _ _ _) | (with_reducible refine Is.row ?_) | (with_reducible refine Is.gx ?_) | ((with_reducible refine Is.new' ?_); focus (simp; done)) | (with_reducible refine Is.alloc ?_) | (with_reducible refine Is.drew ?_))))))
          refine ret_dg rfl _ _ _ _ rfl rfl ?_ hl1 ?_
          · (focus (repeat (first | (with_reducible assumption) | (with_reducible exact At.new _ _) | (with_reducible refine At.row ?_) | (with_reducible refine At.app ?_) | (with_reducible refine At.tick ?_) | (with_reducible refine At.gx ?_) | ((with_reducible refine At.new' ?_); focus (simp; done)) | (with_reducible refine At.alloc ?_) | (with_reducible refine At.drew ?_) | (with_reducible exact Is.new _ _ _) | (with_reducible refine Is.row ?_) | (with_reducible refine Is.gx ?_) | ((with_reducible refine Is.new' ?_); focus (simp; done)) | (with_reducible refine Is.alloc ?_) | (with_reducible refine Is.drew ?_))))
          · exact ⟨by rw [DE.out], (by repeat (first | (with_reducible exact Gx.refl _) | (with_reducible assumption) | (with_reducible refine Gx.gx ?_) | (with_reducible refine Gx.alloc ?_) | (with_reducible refine Gx.drew ?_) | (with_reducible refine Gx.drewN ?_) | (with_reducible refine Gx.setRow ?_ (by simp)) | (with_reducible refine Gx.setCell ?_ (by simp))))⟩

set_option maxHeartbeats 1000000 in
set_option maxRecDepth 100000 in
theorem RHash_any (F : List Int) (hF : Fr F) (w : World) :
    Calls Tryd.prog 38 #[.agg (fc F)] w fun e w' => e = .returned (.agg (bc (hashD F))) ∧ ∃ x, w' = gx w x := by
  have hl := hF.len
  have Z := Lib.hid (hash_0 F)
  have hz := zerosI_len 8
  go_enter Tryd.func38, Tryd.ntmps38
  go_wp2_with (first | (refine load_fr rfl _ rfl _ rfl ?_ ?_ ?_ ?_; rotate_left; (focus (repeat (first | (with_reducible assumption) | (with_reducible exact At.new _ _) | (with_reducible refine At.row ?_) | (with_reducible refine At.app ?_) | (with_reducible refine At.tick ?_) | (with_reducible refine At.gx ?_) | ((with_reducible refine At.new' ?_); focus (simp; done)) | (with_reducible refine At.alloc ?_) | (with_reducible refine At.drew ?_) | (with_reducible exact Is.new _ _ _) | (with_reducible refine Is.row ?_) | (with_reducible refine Is.gx ?_) | ((with_reducible refine Is.new' ?_); focus (simp; done)) | (with_reducible refine Is.alloc ?_) | (with_reducible refine Is.drew ?_)))); (focus (with_reducible (first | exact hl | exact hl1 | exact hl2 | exact hl3 | exact hl4 | exact zeroF_len)))))
  go_loopw [3, 11] (fun h i wr => ∃ k : Nat, k ≤ 64 ∧ i = .int .i64 k ∧ h = .int .u64 (hashTo F k) ∧ ∃ x, wr = gx ((w.alloc (.cells (fc F) 32)).alloc (.cells (bc (zerosI 8)) 51)) x) (fun _ i _ => 64 - (intOf i).toNat)
  case atStart => exact ⟨0, Nat.zero_le _, rfl, by rw [Z.out], _, (gx_none _).symm⟩
  case round =>
    obtain ⟨k, hk, rfl, rfl, x, rfl⟩ := hrel
    have b0 := (hashTo_bd F k).1
    have b1 := (hashTo_bd F k).2
    by_cases hlt : k < 64
    · have k0 : 0 ≤ gw F k := (hF.bd k).1
      have k1 : gw F k ≤ 65535 := (hF.bd k).2
      have y := hstep_bd (hashTo F k) (gw F k / 256)
      have x1 := hstep_eq (b := gw F k / 256) b0 b1 (by omega) (by omega)
      have x2 := hstep_eq (b := gw F k % 256) y.1 y.2 (by omega) (by omega)
      have hs := Lib.hid (hash_succ F k)
      have c1 := y.1
      have c2 := y.2
      have d1 : (gw F k).tdiv 256 = gw F k / 256 := Int.tdiv_eq_ediv_of_nonneg k0
      have d2 : (gw F k).tmod 256 = gw F k % 256 := Int.tmod_eq_emod_of_nonneg k0
      have d3 : IntKind.u64.wrap (IntKind.u16.wrap (gw F k / 256)) = gw F k / 256 := by rw [IntWalk.u16_in _ (by omega), IntKind.wrap_u64]; omega
      have d4 : IntKind.u64.wrap (IntKind.u16.wrap (gw F k % 256)) = gw F k % 256 := by rw [IntWalk.u16_in _ (by omega), IntKind.wrap_u64]; omega
      clear y
      go_wp2
      go_loop [3, 22] (fun h i => (i = .int .i64 0 ∧ h = .int .u64 (hashTo F k)) ∨ (i = .int .i64 1 ∧ h = .int .u64 (hstep (hashTo F k) (gw F k / 256))) ∨ (i = .int .i64 2 ∧ h = .int .u64 (hashTo F (k + 1)))) (fun _ i => 2 - (intOf i).toNat)
      case atStart => exact .inl ⟨rfl, rfl⟩
      case round =>
        rcases hrel with ⟨rfl, rfl⟩ | ⟨rfl, rfl⟩ | ⟨rfl, rfl⟩
        · go_wp2
          go_round
          case rel => exact .inr (.inl ⟨rfl, rfl⟩)
          case measure => simp [intOf]
        · go_wp2
          go_round
          case rel => exact .inr (.inr ⟨rfl, by rw [hs.out]⟩)
          case measure => simp [intOf]
        · go_wp2
          go_roundw
          case rel => exact ⟨k + 1, by omega, by go_num, rfl, Gx.alloc ⟨_, rfl⟩⟩
          case measure => simp [intOf]; omega
    · obtain rfl : k = 64 := by omega
      have D0 := Lib.hid (dig_0 (hashTo F 64))
      have DE := Lib.hid (hashD_eq F)
      generalize hashTo F 64 = H at *
      have hA1 : At (gx ((w.alloc (.cells (fc F) 32)).alloc (.cells (bc (zerosI 8)) 51)) x) (w.heap.size + 1) (.cells (bc (zerosI 8)) 51 (0, 0)) := by (focus (repeat (first | (with_reducible assumption) | (with_reducible exact At.new _ _) | (with_reducible refine At.row ?_) | (with_reducible refine At.app ?_) | (with_reducible refine At.tick ?_) | (with_reducible refine At.gx ?_) | ((with_reducible refine At.new' ?_); focus (simp; done)) | (with_reducible refine At.alloc ?_) | (with_reducible refine At.drew ?_) | (with_reducible exact Is.new _ _ _) | (with_reducible refine Is.row ?_) | (with_reducible refine Is.gx ?_) | ((with_reducible refine Is.new' ?_); focus (simp; done)) | (with_reducible refine Is.alloc ?_) | (with_reducible refine Is.drew ?_))))
      have hG1 : ∃ y, gx ((w.alloc (.cells (fc F) 32)).alloc (.cells (bc (zerosI 8)) 51)) x = gx w y := by exact (by repeat (first | (with_reducible exact Gx.refl _) | (with_reducible assumption) | (with_reducible refine Gx.gx ?_) | (with_reducible refine Gx.alloc ?_) | (with_reducible refine Gx.drew ?_) | (with_reducible refine Gx.drewN ?_) | (with_reducible refine Gx.setRow ?_ (by simp)) | (with_reducible refine Gx.setCell ?_ (by simp))))
      generalize hw1 : gx ((w.alloc (.cells (fc F) 32)).alloc (.cells (bc (zerosI 8)) 51)) x = W1 at *
      go_wp2
      go_loopw [32] (fun i wr => ∃ k : Nat, k ≤ 8 ∧ i = .int .i64 k ∧ wr = W1.alloc (.cells (bc (digTo H k)) 51)) (fun i _ => 8 - (intOf i).toNat)
      case atStart => exact ⟨0, Nat.zero_le _, rfl, by rw [D0.out]⟩
      case round =>
        obtain ⟨k, hk, rfl, rfl⟩ := hrel
        have hl1 := digTo_len H k
        by_cases hlt : k < 8
        · have s1 : (56 - 8 * (k : Int)).toNat = 56 - 8 * k := by omega
          have hs := Lib.hid (dig_succ H k)
          go_wp2
          go_roundw
          case rel => exact ⟨k + 1, by omega, by go_num, by rw [← hs.out]; rfl⟩
          case measure => simp [intOf]; omega
        · obtain rfl : k = 8 := by omega
          have hA2 : At (W1.alloc (.cells (bc (digTo H 8)) 51)) (w.heap.size + 1) (.cells (bc (zerosI 8)) 51 (0, 0)) := hA1.alloc
          go_wp2_with (first | (refine load_dg rfl _ rfl _ rfl _ (At.new _ _) hl1 ?_) | (refine store_dg rfl _ _ rfl _ rfl _ rfl _ hA2 hl1 hz ?_))
          refine ret_dg rfl _ _ _ _ rfl rfl (At.row ⟨_, hA2⟩) hl1 ?_
          exact ⟨by rw [DE.out], Gx.setRow (Gx.alloc hG1) (by omega)⟩
end Go.Proofs.YtemgjiajpgepiaaDoor
