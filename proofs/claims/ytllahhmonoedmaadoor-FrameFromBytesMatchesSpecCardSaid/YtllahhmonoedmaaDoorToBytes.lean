/-
  ToBytes, the program's and the reference's; bytes compared.
-/
import Derived.Test.YtllahhmonoedmaaDoorPack
import Derived.Test.YtllahhmonoedmaaDoorTail
import Derived.Test.YtllahhmonoedmaaDoorFramed
import Derived.Laws.BytesString
namespace Go.Proofs.YtllahhmonoedmaaDoor
open Go.RowKit

-- AT2
theorem At.app {w : World} {g : Nat} {o : Obj} {x y : Ext} (h : At (Go.Proofs.YtllahhmonoedmaaDoor.gx w x) g o) : At (Go.Proofs.YtllahhmonoedmaaDoor.gx w (x.app y)) g o := by rw [← gx_gx]; exact h.gx
theorem At.tick {w : World} {g : Nat} {o : Obj} {x : Ext} {n : Nat} (h : At (Go.Proofs.YtllahhmonoedmaaDoor.gx w x) g o) : At (Go.Proofs.YtllahhmonoedmaaDoor.gx w (x.tick n)) g o := by rw [← drewN_gx]; exact h
theorem region_w_tail {P : Program} {id : Nat} {Q : Exit → Act → World → Prop} {a : Act} {w : World} {l : List Oper} (n : Nat) (hm : P.follows .mixedOrders = true) (hB : Region.lexTailB .any l.toArray n = true)
    (h : wpQuiet P l.toArray (fun w' => ∃ x, w' = gx w x) (fun a' => ∀ w', (∃ x, w' = gx w x) → wpList P l.toArray Q (l.drop n) a' w') (l.take n) a) : (Code.region id l.toArray true).wp P Q a w :=
  region_quiet_tail n hm hB (Gx.drew (Gx.refl w)) h
@[go_sem high] theorem make96 (w : World) : (Instr.makeSlice 61 (.int .i64 96) (.int .i64 96)).run Tryd.prog w = .ok (.slice (some ⟨w.heap.size, 0, none⟩) 96 96) (w.alloc (.cells (bc (zerosI 96)) 5)) := by
  unfold zerosI
  kernel_rfl

/-- What ToBytes gives: a new block with the frame's bytes. -/
def packF (F : List Int) : List Int := wrF (zerosI 96) 0 F
theorem packF_len (F : List Int) : (packF F).length = 96 := by unfold packF; rw [wrF_len, zerosI_len]
theorem gw_packF (F : List Int) (j : Nat) (hj : j < 96) : gw (packF F) j = byI F j := by
  unfold packF; rw [gw_wrF _ _ _ (by rw [zerosI_len]; decide), if_pos (by omega)]; rfl
attribute [irreducible] packF

set_option maxHeartbeats 600000 in
set_option maxRecDepth 100000 in
theorem ToBytes_wide (F : List Int) (hF : Fr F) (hw : wideB F = true) (w : World) :
    Calls Tryd.prog 44 #[.agg (fc F)] w fun e w' => e = .returned (.tuple #[.slice none 0 0, .int .i64 9]) ∧ ∃ x, w' = gx w x := by
  have hl := hF.len
  go_enter Tryd.func44, Tryd.ntmps44
  go_wp2_with (first | (refine load_fr rfl _ rfl _ rfl ?_ ?_ ?_ ?_; rotate_left; (focus (repeat (first | (with_reducible assumption) | (with_reducible exact At.new _ _) | (with_reducible refine At.row ?_) | (with_reducible refine At.app ?_) | (with_reducible refine At.tick ?_) | (with_reducible refine At.gx ?_) | ((with_reducible refine At.new' ?_); focus (simp; done)) | (with_reducible refine At.alloc ?_) | (with_reducible refine At.drew ?_) | (with_reducible exact Is.new _ _ _) | (with_reducible refine Is.row ?_) | (with_reducible refine Is.gx ?_) | ((with_reducible refine Is.new' ?_); focus (simp; done)) | (with_reducible refine Is.alloc ?_) | (with_reducible refine Is.drew ?_)))); (focus (with_reducible (first | exact hl | exact hl1 | exact hl2 | exact hl3 | exact hl4 | exact zeroF_len)))) | (go_at_call 84; refine (isWide_any F hF _).mono ?_; rintro e w' ⟨rfl, z, rfl⟩))
  go_ret2
  exact ⟨rfl, (by repeat (first | (with_reducible exact Gx.refl _) | (with_reducible assumption) | (with_reducible refine Gx.gx ?_) | (with_reducible refine Gx.alloc ?_) | (with_reducible refine Gx.drew ?_) | (with_reducible refine Gx.drewN ?_) | (with_reducible refine Gx.setRow ?_ (by simp)) | (with_reducible refine Gx.setCell ?_ (by simp))))⟩

set_option maxHeartbeats 600000 in
set_option maxRecDepth 100000 in
theorem ToBytes_good (F : List Int) (hF : Fr F) (hw : wideB F = false) (w : World) :
    Calls Tryd.prog 44 #[.agg (fc F)] w fun e w' => ∃ g x, e = .returned (.tuple #[.slice (some ⟨g, 0, none⟩) 96 96, .int .i64 0]) ∧ w' = gx w x ∧ At (gx w x) g (.cells (bc (packF F)) 5 (0, 0)) := by
  have hl := hF.len
  have hn := wideB_false.1 hw
  have hz := zerosI_len 96
  have hp : wrF (zerosI 96) 0 F = packF F := by unfold packF; rfl
  have key : ∀ W g, (∃ x, W = gx w x) → At W g (.cells (bc (packF F)) 5 (0, 0)) → ∃ g' x, Ending.returned (.tuple #[.slice (some ⟨g, 0, none⟩) 96 96, .int .i64 0]) = .returned (.tuple #[.slice (some ⟨g', 0, none⟩) 96 96, .int .i64 0]) ∧ W = gx w x ∧ At (gx w x) g' (.cells (bc (packF F)) 5 (0, 0)) := fun W g ⟨x, h⟩ hA => ⟨g, x, rfl, h, h ▸ hA⟩
  have Key := Lib.hid key
  clear key
  have hat : ∀ w b, (Instr.arrayAt 120 (.slice (some ⟨b, 0, none⟩) 96 96)).run Tryd.prog w = .ok (.pointer (some ⟨b, 0, none⟩)) w := fun w b => run_arrayAt _ _ _ _ _ _ _ Tryd.underlying120 (by omega)
  go_enter Tryd.func44, Tryd.ntmps44
  go_wp2_with (first | (refine load_fr rfl _ rfl _ rfl ?_ ?_ ?_ ?_; rotate_left; (focus (repeat (first | (with_reducible assumption) | (with_reducible exact At.new _ _) | (with_reducible refine At.row ?_) | (with_reducible refine At.app ?_) | (with_reducible refine At.tick ?_) | (with_reducible refine At.gx ?_) | ((with_reducible refine At.new' ?_); focus (simp; done)) | (with_reducible refine At.alloc ?_) | (with_reducible refine At.drew ?_) | (with_reducible exact Is.new _ _ _) | (with_reducible refine Is.row ?_) | (with_reducible refine Is.gx ?_) | ((with_reducible refine Is.new' ?_); focus (simp; done)) | (with_reducible refine Is.alloc ?_) | (with_reducible refine Is.drew ?_)))); (focus (with_reducible (first | exact hl | exact hl1 | exact hl2 | exact hl3 | exact hl4 | exact zeroF_len)))) | (go_at_call 84; refine (isWide_any F hF _).mono ?_; rintro e w' ⟨rfl, z, rfl⟩))
  first | (with_reducible refine region_gx_tail 3 (by kernel_rfl) (by kernel_rfl) ?_) | (with_reducible refine region_w_tail 3 (by kernel_rfl) (by kernel_rfl) ?_)
  simp only [List.take_succ_cons, List.take_zero, List.drop_succ_cons, List.drop_zero]
  repeat (any_goals (first | (refine quiet_fr rfl _ rfl _ rfl ?_ ?_ ?_ ?_; rotate_left; (focus (rintro _ ⟨x, rfl⟩; (focus (repeat (first | (with_reducible assumption) | (with_reducible exact At.new _ _) | (with_reducible refine At.row ?_) | (with_reducible refine At.app ?_) | (with_reducible refine At.tick ?_) | (with_reducible refine At.gx ?_) | ((with_reducible refine At.new' ?_); focus (simp; done)) | (with_reducible refine At.alloc ?_) | (with_reducible refine At.drew ?_) | (with_reducible exact Is.new _ _ _) | (with_reducible refine Is.row ?_) | (with_reducible refine Is.gx ?_) | ((with_reducible refine Is.new' ?_); focus (simp; done)) | (with_reducible refine Is.alloc ?_) | (with_reducible refine Is.drew ?_)))))); (focus (with_reducible (first | exact hl | exact hl1 | exact hl2 | exact hl3 | exact hl4 | exact zeroF_len)))) | go_big_quiet_step ((first | fail)) | quiet_step ((first | fail))))
  refine wpQuiet_nil ?_
  rintro _ ⟨x, rfl⟩
  go_wp2_with (go_at_call 103; refine (write_any (zerosI 96) (zeros_bs 96) 0 (by rw [zerosI_len]; decide) F hF hn _ _ ?_).mono ?_; (focus (repeat (first | (with_reducible assumption) | (with_reducible exact At.new _ _) | (with_reducible refine At.row ?_) | (with_reducible refine At.app ?_) | (with_reducible refine At.tick ?_) | (with_reducible refine At.gx ?_) | ((with_reducible refine At.new' ?_); focus (simp; done)) | (with_reducible refine At.alloc ?_) | (with_reducible refine At.drew ?_) | (with_reducible exact Is.new _ _ _) | (with_reducible refine Is.row ?_) | (with_reducible refine Is.gx ?_) | ((with_reducible refine Is.new' ?_); focus (simp; done)) | (with_reducible refine Is.alloc ?_) | (with_reducible refine Is.drew ?_)))); rintro e w' ⟨rfl, z, rfl⟩)
  go_wp2
  go_ret2
  exact Key.out _ _ (by repeat (first | (with_reducible exact Gx.refl _) | (with_reducible assumption) | (with_reducible refine Gx.gx ?_) | (with_reducible refine Gx.alloc ?_) | (with_reducible refine Gx.drew ?_) | (with_reducible refine Gx.drewN ?_) | (with_reducible refine Gx.setRow ?_ (by simp)) | (with_reducible refine Gx.setCell ?_ (by simp)))) (by (focus (repeat (first | (with_reducible assumption) | (with_reducible exact At.new _ _) | (with_reducible refine At.row ?_) | (with_reducible refine At.app ?_) | (with_reducible refine At.tick ?_) | (with_reducible refine At.gx ?_) | ((with_reducible refine At.new' ?_); focus (simp; done)) | (with_reducible refine At.alloc ?_) | (with_reducible refine At.drew ?_) | (with_reducible exact Is.new _ _ _) | (with_reducible refine Is.row ?_) | (with_reducible refine Is.gx ?_) | ((with_reducible refine Is.new' ?_); focus (simp; done)) | (with_reducible refine Is.alloc ?_) | (with_reducible refine Is.drew ?_)))))

set_option maxHeartbeats 600000 in
set_option maxRecDepth 100000 in
theorem Half_any (F : List Int) (hF : Fr F) (n : Nat) (hn : n < 192) (w : World) :
    Calls Tryd.prog 117 #[.agg (fc F), .int .i64 n] w fun e w' => e = .returned (.int .i64 (halfI F n)) ∧ ∃ x, w' = gx w x := by
  have hl := hF.len
  have h0 := (hF.bd (n / 3)).1
  have h1 := (hF.bd (n / 3)).2
  have h3 : n / 3 < 64 := by omega
  have c : n % 3 = 0 ∨ n % 3 = 1 ∨ n % 3 = 2 := by omega
  have hh : halfI F n = gw F (n / 3) / 2 ^ (8 - n % 3 * 4) % 16 := halfI_is F n
  rcases c with c | c | c
  · have c' : (n : Int) % 3 = 0 := by omega
    have e : (2 : Int) ^ (8 - 0 * 4) = 256 := rfl
    rw [c, e] at hh
    have hb : bits .and .i64 (gw F (n / 3) / 256) 15 = gw F (n / 3) / 256 % 16 := bits_mask .i64 63 (by decide) wraps_i64 4 (by decide) _ (by omega) (by omega)
    have Hh := Lib.hid hh
    clear hh
    go_enter Tryd.func117, Tryd.ntmps117
    go_wp2
    go_ret
    exact ⟨by rw [Hh.out]; rfl, (by repeat (first | (with_reducible exact Gx.refl _) | (with_reducible assumption) | (with_reducible refine Gx.gx ?_) | (with_reducible refine Gx.alloc ?_) | (with_reducible refine Gx.drew ?_) | (with_reducible refine Gx.drewN ?_) | (with_reducible refine Gx.setRow ?_ (by simp)) | (with_reducible refine Gx.setCell ?_ (by simp))))⟩
  · have c' : (n : Int) % 3 = 1 := by omega
    have e : (2 : Int) ^ (8 - 1 * 4) = 16 := rfl
    rw [c, e] at hh
    have hb : bits .and .i64 (gw F (n / 3) / 16) 15 = gw F (n / 3) / 16 % 16 := bits_mask .i64 63 (by decide) wraps_i64 4 (by decide) _ (by omega) (by omega)
    have Hh := Lib.hid hh
    clear hh
    go_enter Tryd.func117, Tryd.ntmps117
    go_wp2
    go_ret
    exact ⟨by rw [Hh.out]; rfl, (by repeat (first | (with_reducible exact Gx.refl _) | (with_reducible assumption) | (with_reducible refine Gx.gx ?_) | (with_reducible refine Gx.alloc ?_) | (with_reducible refine Gx.drew ?_) | (with_reducible refine Gx.drewN ?_) | (with_reducible refine Gx.setRow ?_ (by simp)) | (with_reducible refine Gx.setCell ?_ (by simp))))⟩
  · have c' : (n : Int) % 3 = 2 := by omega
    have e : (2 : Int) ^ (8 - 2 * 4) = 1 := rfl
    rw [c, e, Int.ediv_one] at hh
    have hb : bits .and .i64 (gw F (n / 3)) 15 = gw F (n / 3) % 16 := bits_mask .i64 63 (by decide) wraps_i64 4 (by decide) _ (by omega) (by omega)
    have Hh := Lib.hid hh
    clear hh
    go_enter Tryd.func117, Tryd.ntmps117
    go_wp2
    go_ret
    exact ⟨by rw [Hh.out]; rfl, (by repeat (first | (with_reducible exact Gx.refl _) | (with_reducible assumption) | (with_reducible refine Gx.gx ?_) | (with_reducible refine Gx.alloc ?_) | (with_reducible refine Gx.drew ?_) | (with_reducible refine Gx.drewN ?_) | (with_reducible refine Gx.setRow ?_ (by simp)) | (with_reducible refine Gx.setCell ?_ (by simp))))⟩

theorem HalfZ_any (F : List Int) (hF : Fr F) (m : Int) (n : Nat) (h : m = n) (hn : n < 192) (w : World) :
    Calls Tryd.prog 117 #[.agg (fc F), .int .i64 m] w fun e w' => e = .returned (.int .i64 (halfI F n)) ∧ ∃ x, w' = gx w x := by subst h; exact Half_any F hF n hn w
/-- The first k bytes. -/
def packTo (F : List Int) : Nat → List Int
  | 0 => zerosI 96
  | k + 1 => (packTo F k).set k (byI F k)
theorem packTo_len (F : List Int) : ∀ k, (packTo F k).length = 96
  | 0 => by unfold packTo; exact zerosI_len 96
  | k + 1 => by unfold packTo; rw [List.length_set, packTo_len F k]
theorem gw_packTo (F : List Int) : ∀ k, k ≤ 96 → ∀ j, j < k → gw (packTo F k) j = byI F j
  | k + 1, hk, j, hj => by
    unfold packTo
    rw [gw_set _ _ _ _ (by rw [packTo_len]; omega)]
    by_cases e : j = k
    · rw [if_pos e, e]
    · rw [if_neg e]; exact gw_packTo F k (by omega) j (by omega)
theorem packTo_end (F : List Int) : packTo F 96 = packF F := ext_gw (by rw [packTo_len, packF_len]) fun k hk => by
  rw [packTo_len] at hk
  rw [gw_packTo F 96 (by omega) k hk, gw_packF F k hk]
attribute [irreducible] packTo

set_option maxHeartbeats 1000000 in
set_option maxRecDepth 100000 in
theorem bytes_any (F : List Int) (hF : Fr F) (hn : Narrow F) (w : World) :
    Calls Tryd.prog 104 #[.agg (fc F)] w fun e w' => ∃ g x, e = .returned (.slice (some ⟨g, 0, none⟩) 96 96) ∧ w' = gx w x ∧ At (gx w x) g (.cells (bc (packF F)) 5 (0, 0)) := by
  have hl := hF.len
  have z1 : zerosI 96 = packTo F 0 := by rw [packTo]
  have key : ∀ W g, (∃ x, W = gx w x) → At W g (.cells (bc (packF F)) 5 (0, 0)) → ∃ g' x, Ending.returned (.slice (some ⟨g, 0, none⟩) 96 96) = .returned (.slice (some ⟨g', 0, none⟩) 96 96) ∧ W = gx w x ∧ At (gx w x) g' (.cells (bc (packF F)) 5 (0, 0)) := fun W g ⟨x, h⟩ hA => ⟨g, x, rfl, h, h ▸ hA⟩
  have Key := Lib.hid key
  clear key
  have he := Lib.hid (packTo_end F)
  go_enter Tryd.func104, Tryd.ntmps104
  go_wp2
  go_loopw [8] (fun i wr => ∃ (k : Nat) (x : Ext), k ≤ 96 ∧ i = .int .i64 k ∧ wr = gx ((w.alloc (.cells (fc F) 32)).alloc (.cells (bc (packTo F k)) 5)) x) (fun i _ => 96 - (intOf i).toNat)
  case atStart => exact ⟨0, _, Nat.zero_le _, rfl, (gx_none _).symm⟩
  case round =>
    obtain ⟨k, y, hk, rfl, rfl⟩ := hrel
    by_cases hlt : k < 96
    · have a0 := (halfI_bd F (2 * k)).1
      have a1 := (halfI_bd F (2 * k)).2
      have b0 := (halfI_bd F (2 * k + 1)).1
      have b1 := (halfI_bd F (2 * k + 1)).2
      have hb : 16 * halfI F (2 * k) + halfI F (2 * k + 1) = byI F k := by rw [Int.mul_comm]; exact half_by hF hn k hlt
      have c0 := (byI_bd hF hn k hlt).1
      have c1 := (byI_bd hF hn k hlt).2
      have lp := packTo_len F k
      have e : (packTo F k).set k (byI F k) = packTo F (k + 1) := by rw [packTo]
      go_wp2
      first | (with_reducible refine region_gx_tail 15 (by kernel_rfl) (by kernel_rfl) ?_) | (with_reducible refine region_w_tail 15 (by kernel_rfl) (by kernel_rfl) ?_)
      simp only [List.take_succ_cons, List.take_zero, List.drop_succ_cons, List.drop_zero]
      repeat (any_goals (first | (refine quiet_fr rfl _ rfl _ rfl ?_ ?_ ?_ ?_; rotate_left; (focus (rintro _ ⟨x, rfl⟩; (focus (repeat (first | (with_reducible assumption) | (with_reducible exact At.new _ _) | (with_reducible refine At.row ?_) | (with_reducible refine At.app ?_) | (with_reducible refine At.tick ?_) | (with_reducible refine At.gx ?_) | ((with_reducible refine At.new' ?_); focus (simp; done)) | (with_reducible refine At.alloc ?_) | (with_reducible refine At.drew ?_) | (with_reducible exact Is.new _ _ _) | (with_reducible refine Is.row ?_) | (with_reducible refine Is.gx ?_) | ((with_reducible refine Is.new' ?_); focus (simp; done)) | (with_reducible refine Is.alloc ?_) | (with_reducible refine Is.drew ?_)))))); (focus (with_reducible (first | exact hl | exact hl1 | exact hl2 | exact hl3 | exact hl4 | exact zeroF_len)))) | go_big_quiet_step ((first | (go_at_call 117; exact calls_gx (HalfZ_any F hF _ (2 * k) (by omega) (by omega) _)) | (go_at_call 117; exact calls_gx (HalfZ_any F hF _ (2 * k + 1) (by omega) (by omega) _)))) | quiet_step ((first | (go_at_call 117; exact calls_gx (HalfZ_any F hF _ (2 * k) (by omega) (by omega) _)) | (go_at_call 117; exact calls_gx (HalfZ_any F hF _ (2 * k + 1) (by omega) (by omega) _))))))
      refine wpQuiet_nil ?_
      rintro _ ⟨x, rfl⟩
      go_wp2
      go_roundw
      case rel => exact ⟨k + 1, _, by omega, by go_num, rfl⟩
      case measure => simp [intOf]; omega
    · obtain rfl : k = 96 := by omega
      rw [he.out]
      go_wp2
      go_ret
      exact Key.out _ _ (by repeat (first | (with_reducible exact Gx.refl _) | (with_reducible assumption) | (with_reducible refine Gx.gx ?_) | (with_reducible refine Gx.alloc ?_) | (with_reducible refine Gx.drew ?_) | (with_reducible refine Gx.drewN ?_) | (with_reducible refine Gx.setRow ?_ (by simp)) | (with_reducible refine Gx.setCell ?_ (by simp)))) (by (focus (repeat (first | (with_reducible assumption) | (with_reducible exact At.new _ _) | (with_reducible refine At.row ?_) | (with_reducible refine At.app ?_) | (with_reducible refine At.tick ?_) | (with_reducible refine At.gx ?_) | ((with_reducible refine At.new' ?_); focus (simp; done)) | (with_reducible refine At.alloc ?_) | (with_reducible refine At.drew ?_) | (with_reducible exact Is.new _ _ _) | (with_reducible refine Is.row ?_) | (with_reducible refine Is.gx ?_) | ((with_reducible refine Is.new' ?_); focus (simp; done)) | (with_reducible refine Is.alloc ?_) | (with_reducible refine Is.drew ?_)))))

set_option maxHeartbeats 600000 in
set_option maxRecDepth 100000 in
theorem RToBytes_wide (F : List Int) (hF : Fr F) (hw : wideB F = true) (w : World) :
    Calls Tryd.prog 45 #[.agg (fc F)] w fun e w' => e = .returned (.tuple #[.slice none 0 0, .int .i64 9]) ∧ ∃ x, w' = gx w x := by
  have hl := hF.len
  go_enter Tryd.func45, Tryd.ntmps45
  go_wp2_with (first | (refine load_fr rfl _ rfl _ rfl ?_ ?_ ?_ ?_; rotate_left; (focus (repeat (first | (with_reducible assumption) | (with_reducible exact At.new _ _) | (with_reducible refine At.row ?_) | (with_reducible refine At.app ?_) | (with_reducible refine At.tick ?_) | (with_reducible refine At.gx ?_) | ((with_reducible refine At.new' ?_); focus (simp; done)) | (with_reducible refine At.alloc ?_) | (with_reducible refine At.drew ?_) | (with_reducible exact Is.new _ _ _) | (with_reducible refine Is.row ?_) | (with_reducible refine Is.gx ?_) | ((with_reducible refine Is.new' ?_); focus (simp; done)) | (with_reducible refine Is.alloc ?_) | (with_reducible refine Is.drew ?_)))); (focus (with_reducible (first | exact hl | exact hl1 | exact hl2 | exact hl3 | exact hl4 | exact zeroF_len)))) | (go_at_call 96; refine (Wide_any F hF _).mono ?_; rintro e w' ⟨rfl, z, rfl⟩))
  go_ret2
  exact ⟨rfl, (by repeat (first | (with_reducible exact Gx.refl _) | (with_reducible assumption) | (with_reducible refine Gx.gx ?_) | (with_reducible refine Gx.alloc ?_) | (with_reducible refine Gx.drew ?_) | (with_reducible refine Gx.drewN ?_) | (with_reducible refine Gx.setRow ?_ (by simp)) | (with_reducible refine Gx.setCell ?_ (by simp))))⟩

set_option maxHeartbeats 600000 in
set_option maxRecDepth 100000 in
theorem RToBytes_good (F : List Int) (hF : Fr F) (hw : wideB F = false) (w : World) :
    Calls Tryd.prog 45 #[.agg (fc F)] w fun e w' => ∃ g x, e = .returned (.tuple #[.slice (some ⟨g, 0, none⟩) 96 96, .int .i64 0]) ∧ w' = gx w x ∧ At (gx w x) g (.cells (bc (packF F)) 5 (0, 0)) := by
  have hl := hF.len
  have hn := wideB_false.1 hw
  have key : ∀ W g, (∃ x, W = gx w x) → At W g (.cells (bc (packF F)) 5 (0, 0)) → ∃ g' x, Ending.returned (.tuple #[.slice (some ⟨g, 0, none⟩) 96 96, .int .i64 0]) = .returned (.tuple #[.slice (some ⟨g', 0, none⟩) 96 96, .int .i64 0]) ∧ W = gx w x ∧ At (gx w x) g' (.cells (bc (packF F)) 5 (0, 0)) := fun W g ⟨x, h⟩ hA => ⟨g, x, rfl, h, h ▸ hA⟩
  have Key := Lib.hid key
  clear key
  go_enter Tryd.func45, Tryd.ntmps45
  go_wp2_with (first | (refine load_fr rfl _ rfl _ rfl ?_ ?_ ?_ ?_; rotate_left; (focus (repeat (first | (with_reducible assumption) | (with_reducible exact At.new _ _) | (with_reducible refine At.row ?_) | (with_reducible refine At.app ?_) | (with_reducible refine At.tick ?_) | (with_reducible refine At.gx ?_) | ((with_reducible refine At.new' ?_); focus (simp; done)) | (with_reducible refine At.alloc ?_) | (with_reducible refine At.drew ?_) | (with_reducible exact Is.new _ _ _) | (with_reducible refine Is.row ?_) | (with_reducible refine Is.gx ?_) | ((with_reducible refine Is.new' ?_); focus (simp; done)) | (with_reducible refine Is.alloc ?_) | (with_reducible refine Is.drew ?_)))); (focus (with_reducible (first | exact hl | exact hl1 | exact hl2 | exact hl3 | exact hl4 | exact zeroF_len)))) | (go_at_call 96; refine (Wide_any F hF _).mono ?_; rintro e w' ⟨rfl, z, rfl⟩) | (go_at_call 104; refine (bytes_any F hF hn _).mono ?_; rintro e w' ⟨g, z, rfl, rfl, hA⟩; (try simp only [gx_gx] at hA)))
  go_ret2
  exact Key.out _ _ (by repeat (first | (with_reducible exact Gx.refl _) | (with_reducible assumption) | (with_reducible refine Gx.gx ?_) | (with_reducible refine Gx.alloc ?_) | (with_reducible refine Gx.drew ?_) | (with_reducible refine Gx.drewN ?_) | (with_reducible refine Gx.setRow ?_ (by simp)) | (with_reducible refine Gx.setCell ?_ (by simp)))) (by (focus (repeat (first | (with_reducible assumption) | (with_reducible exact At.new _ _) | (with_reducible refine At.row ?_) | (with_reducible refine At.app ?_) | (with_reducible refine At.tick ?_) | (with_reducible refine At.gx ?_) | ((with_reducible refine At.new' ?_); focus (simp; done)) | (with_reducible refine At.alloc ?_) | (with_reducible refine At.drew ?_) | (with_reducible exact Is.new _ _ _) | (with_reducible refine Is.row ?_) | (with_reducible refine Is.gx ?_) | ((with_reducible refine Is.new' ?_); focus (simp; done)) | (with_reducible refine Is.alloc ?_) | (with_reducible refine Is.drew ?_)))))

/-- The string of the first n of these bytes. -/
@[irreducible] def strB (B : List Int) (n : Nat) : ByteArray := ((List.range n).map (gw B)).foldl (fun r x => r.push (UInt8.ofNat x.toNat)) ByteArray.empty
/-- A slice holds these bytes, if it has any. -/
@[irreducible] def HeldB (B : List Int) (A : Option Addr) (n : Nat) (w : World) : Prop :=
  0 < n → ∃ b o, A = some ⟨b, o, none⟩ ∧ ∀ j, j < n → w.cell? ⟨b, o + j, none⟩ = some (.int .u8 (gw B j))
theorem HeldB.gx {B : List Int} {A : Option Addr} {n : Nat} {w : World} {x : Ext} (h : HeldB B A n w) : HeldB B A n (Go.Proofs.YtllahhmonoedmaaDoor.gx w x) := by
  unfold HeldB at *
  intro hD
  obtain ⟨b, o, h1, h2⟩ := h hD
  exact ⟨b, o, h1, fun j hj => cell_keep_gx (h2 j hj)⟩
theorem HeldB.alloc {B : List Int} {A : Option Addr} {n : Nat} {w : World} {o : Obj} (h : HeldB B A n w) : HeldB B A n (w.alloc o) := by
  unfold HeldB at *
  intro hD
  obtain ⟨b, o, h1, h2⟩ := h hD
  exact ⟨b, o, h1, fun j hj => cell_keep_alloc (h2 j hj)⟩
theorem HeldB.of_at {B : List Int} {g n : Nat} {w : World} (hA : At w g (.cells (bc B) 5 (0, 0))) (h : n ≤ B.length) : HeldB B (some ⟨g, 0, none⟩) n w := by
  unfold HeldB
  intro _
  refine ⟨g, 0, rfl, fun j hj => ?_⟩
  rw [Nat.zero_add, cell_of_row w g j _ _ _ hA, bc_get B j (by omega)]
theorem HeldB.none_zero {B : List Int} {w : World} {A : Option Addr} : HeldB B A 0 w := by unfold HeldB; intro h; omega
theorem conv_held (B : List Int) (A : Option Addr) (n c : Nat) (w : World) (h : HeldB B A n w) (hA : A = none → n = 0) :
    (convert 61 9 (.slice A n c)).run Tryd.prog w = .ok (.string (strB B n)) w := by
  rw [run_convert_bytes_string w _ _ 5 A n c Tryd.underlying61 Tryd.underlying5 Tryd.underlying9]
  cases A with
  | none =>
    obtain rfl := hA rfl
    unfold strB
    simp [Conv.bytesToString]
  | some a =>
    have hl : (loadCells a n).run Tryd.prog w = .ok (((List.range n).map (gw B)).map (Value.int .u8)).toArray w := by
      rw [List.map_map]
      refine run_loadCells w a n (fun j => Value.int .u8 (gw B j)) fun j hj => ?_
      unfold HeldB at h
      obtain ⟨b, o, e, hc⟩ := h (by omega)
      obtain rfl := Option.some.inj e
      rw [Addr.add_lit]
      exact hc j hj
    rw [run_bytesToString w a n c _ hl]
    unfold strB
    rfl

set_option maxHeartbeats 400000 in
set_option maxRecDepth 100000 in
theorem EqualB_same (B : List Int) (n : Nat) (A A' : Option Addr) (c c' : Nat) (w : World) (h : HeldB B A n w) (hA : A = none → n = 0) (h' : HeldB B A' n w) (hA' : A' = none → n = 0) :
    Calls Tryd.prog 46 #[.slice A n c, .slice A' n c'] w fun e w' => e = .returned (.bool true) ∧ w = w' := by
  have q1 := conv_held B A n c w h hA
  have q2 := conv_held B A' n c' w h' hA'
  clear h h' hA hA'
  go_enter Tryd.func46, Tryd.ntmps46
  go_wp2
  go_ret
  exact ⟨rfl, rfl⟩
end Go.Proofs.YtllahhmonoedmaaDoor
