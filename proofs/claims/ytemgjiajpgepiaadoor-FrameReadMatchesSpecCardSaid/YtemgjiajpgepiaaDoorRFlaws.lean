/-
  What is wrong with a frame: the list of flaws, the reference's.
-/
import Derived.Test.YtemgjiajpgepiaaDoorFlaws2
namespace Go.Proofs.YtemgjiajpgepiaaDoor
open Go.RowKit
-- AT2

theorem bool_ways (a b : Bool) : (a = true ∧ b = true) ∨ (a = true ∧ b = false) ∨ (a = false ∧ b = true) ∨ (a = false ∧ b = false) := by cases a <;> cases b <;> simp
theorem chk_one (F : List Int) : (gw F 62 % 2048 * 2048 + gw F 63 % 2048 == chkI F) = chkOk F := by
  have b := chkI_bd F
  unfold chkOk hiOk loOk hiI loI
  rw [wordI_mod, wordI_mod, Bool.eq_iff_iff]
  simp only [Bool.and_eq_true, beq_iff_eq]
  omega

set_option maxHeartbeats 2000000 in
set_option maxRecDepth 100000 in
theorem RFlaws_1 (F : List Int) (hF : Fr F) (hw : wideB F = false) (h1 : syncOk F = true) (w : World) :
    Calls Tryd.prog 35 #[.agg (fc F)] w fun e w' => ∃ v x, e = .returned v ∧ w' = gx w x ∧ Own w.heap.size (gx w x) 49 2 v (flawsL F).length (flC (flawsL F)) := by
  have hl := hF.len
  have hn := wideB_false.1 hw
  have hle := evenL_len F 63
  have b0 := (numI_bd F).1
  have k00 : 0 ≤ gw F 0 := (hF.bd _).1
  have k00' : gw F 0 ≤ 65535 := (hF.bd _).2
  have k61 : 0 ≤ gw F 61 := (hF.bd _).1
  have k62 : 0 ≤ gw F 62 := (hF.bd _).1
  have k63 : 0 ≤ gw F 63 := (hF.bd _).1
  have k61' : gw F 61 ≤ 65535 := (hF.bd _).2
  have k62' : gw F 62 ≤ 65535 := (hF.bd _).2
  have k63' : gw F 63 ≤ 65535 := (hF.bd _).2
  have e1 : (gw F 0 != syncI (numI F)) = false := by rw [show (gw F 0 != syncI (numI F)) = !(syncOk F) from rfl, h1]; rfl
  have Hn := Lib.hid hn
  go_enter Tryd.func35, Tryd.ntmps35
  go_wp2_with (refine load_fr rfl _ rfl _ rfl ?_ ?_ ?_ ?_; rotate_left; (focus (repeat (first | (with_reducible assumption) | (with_reducible exact At.new _ _) | (with_reducible refine At.row ?_) | (with_reducible refine At.app ?_) | (with_reducible refine At.tick ?_) | (with_reducible refine At.gx ?_) | ((with_reducible refine At.new' ?_); focus (simp; done)) | (with_reducible refine At.alloc ?_) | (with_reducible refine At.drew ?_) | (with_reducible exact Is.new _ _ _) | (with_reducible refine Is.row ?_) | (with_reducible refine Is.gx ?_) | ((with_reducible refine Is.new' ?_); focus (simp; done)) | (with_reducible refine Is.alloc ?_) | (with_reducible refine Is.drew ?_)))); (focus (with_reducible (first | exact hl | exact hl1 | exact hl2 | exact hl3 | exact hl4 | exact zeroF_len))))
  go_loop [3, 8] (fun fl i => ∃ k : Nat, k ≤ 64 ∧ fl = .slice none 0 0 ∧ i = .int .i64 k) (fun _ i => 64 - (intOf i).toNat)
  case atStart => exact ⟨0, Nat.zero_le _, rfl, rfl⟩
  case round =>
    obtain ⟨k, hk, rfl, rfl⟩ := hrel
    by_cases hlt : k < 64
    · have k2 : gw F k ≤ 4095 := Hn.out k hlt
      go_wp2
      go_round
      case rel => exact ⟨k + 1, by omega, rfl, by go_num⟩
      case measure => simp [intOf]; omega
    · obtain rfl : k = 64 := by omega
      go_wp2
      refine region_gx (by kernel_rfl) (by kernel_rfl) ?_
      repeat (any_goals (first | (refine quiet_fr rfl _ rfl _ rfl ?_ ?_ ?_ ?_; rotate_left; (focus (rintro _ ⟨x, rfl⟩; (focus (repeat (first | (with_reducible assumption) | (with_reducible exact At.new _ _) | (with_reducible refine At.row ?_) | (with_reducible refine At.app ?_) | (with_reducible refine At.tick ?_) | (with_reducible refine At.gx ?_) | ((with_reducible refine At.new' ?_); focus (simp; done)) | (with_reducible refine At.alloc ?_) | (with_reducible refine At.drew ?_) | (with_reducible exact Is.new _ _ _) | (with_reducible refine Is.row ?_) | (with_reducible refine Is.gx ?_) | ((with_reducible refine Is.new' ?_); focus (simp; done)) | (with_reducible refine Is.alloc ?_) | (with_reducible refine Is.drew ?_)))))); (focus (with_reducible (first | exact hl | exact hl1 | exact hl2 | exact hl3 | exact hl4 | exact zeroF_len)))) | go_big_quiet_step ((first | (go_at_call 93; exact calls_gx (RnumberOf_any F hF _)) | (go_at_call 79; exact calls_gx_same (syncOf_any _ b0 _)))) | quiet_step ((first | (go_at_call 93; exact calls_gx (RnumberOf_any F hF _)) | (go_at_call 79; exact calls_gx_same (syncOf_any _ b0 _))))))
      refine wpQuiet_nil ?_
      rintro _ ⟨x, rfl⟩
      go_wp2
      go_loopw [3, 6] (fun fl i wr => ∃ (k : Nat) (x : Ext), k ≤ 63 ∧ i = .int .i64 (k + 1 : Nat) ∧ wr = gx (w.alloc (.cells (fc F) 32)) x ∧ Own (w.heap.size + 1) wr 49 2 fl (0 + (evenL F k).length) ([] ++ flC (evenL F k))) (fun _ i _ => 65 - (intOf i).toNat)
      case atStart => exact ⟨0, _, Nat.zero_le _, rfl, rfl, by rw [evenL, flC_nil]; exact Own.nil _ _ _ _⟩
      case round =>
        obtain ⟨k, y, hk, rfl, rfl, hO⟩ := hrel
        by_cases hlt : k < 63
        · have hle := evenL_len F k
          have hlt' : k + 1 < 64 := by omega
          have k1 : 0 ≤ gw F (k + 1) := (hF.bd _).1
          have k2 : gw F (k + 1) ≤ 65535 := (hF.bd _).2
          clear h1 hw
          cases ho : oddI (gw F (k + 1))
          · have hs : ∀ v W, Own (w.heap.size + 1) W 49 2 v (0 + (evenL F k).length + 1) ([] ++ flC (evenL F k) ++ [.int .i64 ((k : Int) + 1), .int .i64 2]) → Own (w.heap.size + 1) W 49 2 v (0 + (evenL F (k + 1)).length) ([] ++ flC (evenL F (k + 1))) := fun v W h => by
              have e : evenL F (k + 1) = evenL F k ++ [(((k + 1 : Nat) : Int), 2)] := by rw [evenL, ho]; rfl
              rw [e, flC_app, flC_one, List.length_append, ← List.append_assoc]; exact h
            have Hs := Lib.hid hs
            clear hs
            go_wp2_with (first | (go_at_call 77; refine (odd_any _ k1 k2 _).mono ?_; rintro e w' ⟨rfl, rfl⟩) | (at_builtin; (with_reducible apply append_new (o := ⟨some 49, _, _, _, _, _⟩) el_flaw (w.alloc (.cells (fc F) 32)) (w.heap.size + 1) (v := u3) (n := 0 + (evenL F k).length) (xs := [] ++ flC (evenL F k)) (m := 1) (news := [.int .i64 ((k : Int) + 1), .int .i64 2])); go_loud ((exact rfl; exact rfl; exact rfl; exact rfl; (focus (simp; done)); (focus (repeat (first | (with_reducible assumption) | (with_reducible exact Own.nil _ _ _ _) | (with_reducible refine Own.app ?_) | (with_reducible refine Own.tick ?_) | (with_reducible refine Own.gx ?_) | (with_reducible refine Own.alloc ?_) | (with_reducible refine Own.drew ?_)))); exact (by repeat (first | (with_reducible exact Gx.refl _) | (with_reducible assumption) | (with_reducible refine Gx.gx ?_) | (with_reducible refine Gx.alloc ?_) | (with_reducible refine Gx.drew ?_) | (with_reducible refine Gx.drewN ?_) | (with_reducible refine Gx.setRow ?_ (by simp)) | (with_reducible refine Gx.setCell ?_ (by simp)))); (focus (simp <;> omega)); exact rfl; (focus (repeat (first | (with_reducible assumption) | ((with_reducible apply Shows.whole); focus ((focus (repeat (first | (with_reducible assumption) | (with_reducible exact At.new _ _) | (with_reducible refine At.row ?_) | (with_reducible refine At.app ?_) | (with_reducible refine At.tick ?_) | (with_reducible refine At.gx ?_) | ((with_reducible refine At.new' ?_); focus (simp; done)) | (with_reducible refine At.alloc ?_) | (with_reducible refine At.drew ?_) | (with_reducible exact Is.new _ _ _) | (with_reducible refine Is.row ?_) | (with_reducible refine Is.gx ?_) | ((with_reducible refine Is.new' ?_); focus (simp; done)) | (with_reducible refine Is.alloc ?_) | (with_reducible refine Is.drew ?_)))); done)) | (with_reducible refine Shows.app ?_) | (with_reducible refine Shows.tick ?_) | (with_reducible refine Shows.gx ?_) | (with_reducible refine Shows.alloc ?_) | (with_reducible refine Shows.drew ?_)))); (focus (simp [Value.oneCell']; done)); (focus (simp only [maxLen]; omega)); (focus omega); (rintro v' _ ⟨y', rfl⟩ hO' _); have hO2 := Hs.out _ _ hO'; clear hO'))))
            go_roundw
            case rel => exact ⟨k + 1, _, by omega, by go_num, rfl, hO2⟩
            case measure => simp [intOf]; omega
          · have e : evenL F (k + 1) = evenL F k := by rw [evenL, ho]; rfl
            rw [← e] at hO
            clear e
            go_wp2_with (go_at_call 77; refine (odd_any _ k1 k2 _).mono ?_; rintro e w' ⟨rfl, rfl⟩)
            go_roundw
            case rel => exact ⟨k + 1, _, by omega, by go_num, rfl, by (focus (repeat (first | (with_reducible assumption) | (with_reducible exact Own.nil _ _ _ _) | (with_reducible refine Own.app ?_) | (with_reducible refine Own.tick ?_) | (with_reducible refine Own.gx ?_) | (with_reducible refine Own.alloc ?_) | (with_reducible refine Own.drew ?_))))⟩
            case measure => simp [intOf]; omega
        · obtain rfl : k = 63 := by omega
          clear hk
          obtain ⟨W1, hW1⟩ : ∃ W1, W1 = gx (w.alloc (.cells (fc F) 32)) y := ⟨_, rfl⟩
          have hAf : At W1 w.heap.size (.cells (fc F) 32 (0, 0)) := by rw [hW1]; (focus (repeat (first | (with_reducible assumption) | (with_reducible exact At.new _ _) | (with_reducible refine At.row ?_) | (with_reducible refine At.app ?_) | (with_reducible refine At.tick ?_) | (with_reducible refine At.gx ?_) | ((with_reducible refine At.new' ?_); focus (simp; done)) | (with_reducible refine At.alloc ?_) | (with_reducible refine At.drew ?_) | (with_reducible exact Is.new _ _ _) | (with_reducible refine Is.row ?_) | (with_reducible refine Is.gx ?_) | ((with_reducible refine Is.new' ?_); focus (simp; done)) | (with_reducible refine Is.alloc ?_) | (with_reducible refine Is.drew ?_))))
          have hGf : ∃ x, W1 = gx (w.alloc (.cells (fc F) 32)) x := ⟨_, hW1⟩
          have hSf : w.heap.size + 1 ≤ W1.heap.size := by rw [hW1]; simp
          have hLf : w.heap.size < W1.heap.size := hSf
          have c61 : W1.cell? ⟨w.heap.size, 61, none⟩ = some (.int .u16 (gw F 61)) := by rw [cell_of_row W1 _ _ _ _ _ hAf, fc_get F 61 (by omega)]
          have c62 : W1.cell? ⟨w.heap.size, 62, none⟩ = some (.int .u16 (gw F 62)) := by rw [cell_of_row W1 _ _ _ _ _ hAf, fc_get F 62 (by omega)]
          have c63 : W1.cell? ⟨w.heap.size, 63, none⟩ = some (.int .u16 (gw F 63)) := by rw [cell_of_row W1 _ _ _ _ _ hAf, fc_get F 63 (by omega)]
          rw [← hW1] at hO ⊢
          clear hW1
          rcases bool_ways (sumOk F) (chkOk F) with ⟨h3, h4⟩ | ⟨h3, h4⟩ | ⟨h3, h4⟩ | ⟨h3, h4⟩
          · -- 11
            have hs : ∀ v W b, Own b W 49 2 v (0 + (evenL F 63).length) ([] ++ flC (evenL F 63)) → Own b W 49 2 v (flawsL F).length (flC (flawsL F)) := fun v W b h => by
              have e : flawsL F = ((([] ++ evenL F 63) ++ []) ++ []) := by unfold flawsL; rw [hw, h1, h3, h4]; rfl
              have a : flC (((([] ++ evenL F 63) ++ []) ++ [])) = [] ++ flC (evenL F 63) := by rw [flC_app, flC_app, flC_app]; simp [flC_nil]
              have c : (((([] ++ evenL F 63) ++ []) ++ [])).length = 0 + (evenL F 63).length := by simp only [List.length_append, List.length_nil, List.length_cons] <;> omega
              rw [e, a, c]
              exact h
            have Hs := Lib.hid hs
            clear hs
            have e3 : (gw F 61 % 2048 != sumI F) = false := by rw [show (gw F 61 % 2048 != sumI F) = !(sumOk F) from rfl, h3]; rfl
            have e4 : (gw F 62 % 2048 * 2048 + gw F 63 % 2048 != chkI F) = false := by rw [show (gw F 62 % 2048 * 2048 + gw F 63 % 2048 != chkI F) = !(gw F 62 % 2048 * 2048 + gw F 63 % 2048 == chkI F) from rfl, chk_one, h4]; rfl
            clear h1 h3 h4 hw
            go_wp2
            refine region_gx (by kernel_rfl) (by kernel_rfl) ?_
            repeat (any_goals (first | (refine quiet_fr rfl _ rfl _ rfl ?_ ?_ ?_ ?_; rotate_left; (focus (rintro _ ⟨x, rfl⟩; (focus (repeat (first | (with_reducible assumption) | (with_reducible exact At.new _ _) | (with_reducible refine At.row ?_) | (with_reducible refine At.app ?_) | (with_reducible refine At.tick ?_) | (with_reducible refine At.gx ?_) | ((with_reducible refine At.new' ?_); focus (simp; done)) | (with_reducible refine At.alloc ?_) | (with_reducible refine At.drew ?_) | (with_reducible exact Is.new _ _ _) | (with_reducible refine Is.row ?_) | (with_reducible refine Is.gx ?_) | ((with_reducible refine Is.new' ?_); focus (simp; done)) | (with_reducible refine Is.alloc ?_) | (with_reducible refine Is.drew ?_)))))); (focus (with_reducible (first | exact hl | exact hl1 | exact hl2 | exact hl3 | exact hl4 | exact zeroF_len)))) | go_big_quiet_step ((first | (go_at_call 94; exact calls_gx (Rsum_any F hF _)))) | quiet_step ((first | (go_at_call 94; exact calls_gx (Rsum_any F hF _))))))
            refine wpQuiet_nil ?_
            rintro _ ⟨x, rfl⟩
            go_wp2
            first | (with_reducible refine region_gxx (by kernel_rfl) (by kernel_rfl) ?_) | (with_reducible refine region_gx (by kernel_rfl) (by kernel_rfl) ?_)
            repeat (any_goals (first | (refine quiet_fr rfl _ rfl _ rfl ?_ ?_ ?_ ?_; rotate_left; (focus (rintro _ ⟨x, rfl⟩; (focus (repeat (first | (with_reducible assumption) | (with_reducible exact At.new _ _) | (with_reducible refine At.row ?_) | (with_reducible refine At.app ?_) | (with_reducible refine At.tick ?_) | (with_reducible refine At.gx ?_) | ((with_reducible refine At.new' ?_); focus (simp; done)) | (with_reducible refine At.alloc ?_) | (with_reducible refine At.drew ?_) | (with_reducible exact Is.new _ _ _) | (with_reducible refine Is.row ?_) | (with_reducible refine Is.gx ?_) | ((with_reducible refine Is.new' ?_); focus (simp; done)) | (with_reducible refine Is.alloc ?_) | (with_reducible refine Is.drew ?_)))))); (focus (with_reducible (first | exact hl | exact hl1 | exact hl2 | exact hl3 | exact hl4 | exact zeroF_len)))) | go_big_quiet_step ((first | (go_at_call 95; exact calls_gx (check_any F hF hn _)))) | quiet_step ((first | (go_at_call 95; exact calls_gx (check_any F hF hn _))))))
            refine wpQuiet_nil ?_
            rintro _ ⟨x, rfl⟩
            go_wp2
            go_ret
            refine own_ret (v := u3) (b := w.heap.size + 1) (Gx.trans (by repeat (first | (with_reducible exact Gx.refl _) | (with_reducible assumption) | (with_reducible refine Gx.gx ?_) | (with_reducible refine Gx.alloc ?_) | (with_reducible refine Gx.drew ?_) | (with_reducible refine Gx.drewN ?_) | (with_reducible refine Gx.setRow ?_ (by simp)) | (with_reducible refine Gx.setCell ?_ (by simp)))) Gx.one) (by simp) (Hs.out _ _ _ ?_); (focus (repeat (first | (with_reducible assumption) | (with_reducible exact Own.nil _ _ _ _) | (with_reducible refine Own.app ?_) | (with_reducible refine Own.tick ?_) | (with_reducible refine Own.gx ?_) | (with_reducible refine Own.alloc ?_) | (with_reducible refine Own.drew ?_))))
          · -- 10
            have hs : ∀ v W b, Own b W 49 2 v (0 + (evenL F 63).length + 1) ([] ++ flC (evenL F 63) ++ [.int .i64 62, .int .i64 4]) → Own b W 49 2 v (flawsL F).length (flC (flawsL F)) := fun v W b h => by
              have e : flawsL F = ((([] ++ evenL F 63) ++ []) ++ [(62, 4)]) := by unfold flawsL; rw [hw, h1, h3, h4]; rfl
              have a : flC (((([] ++ evenL F 63) ++ []) ++ [(62, 4)])) = [] ++ flC (evenL F 63) ++ [.int .i64 62, .int .i64 4] := by rw [flC_app, flC_app, flC_app]; simp [flC_one, flC_nil]
              have c : (((([] ++ evenL F 63) ++ []) ++ [(62, 4)])).length = 0 + (evenL F 63).length + 1 := by simp only [List.length_append, List.length_nil, List.length_cons] <;> omega
              rw [e, a, c]
              exact h
            have Hs := Lib.hid hs
            clear hs
            have e3 : (gw F 61 % 2048 != sumI F) = false := by rw [show (gw F 61 % 2048 != sumI F) = !(sumOk F) from rfl, h3]; rfl
            have e4 : (gw F 62 % 2048 * 2048 + gw F 63 % 2048 != chkI F) = true := by rw [show (gw F 62 % 2048 * 2048 + gw F 63 % 2048 != chkI F) = !(gw F 62 % 2048 * 2048 + gw F 63 % 2048 == chkI F) from rfl, chk_one, h4]; rfl
            clear h1 h3 h4 hw
            go_wp2
            refine region_gx (by kernel_rfl) (by kernel_rfl) ?_
            repeat (any_goals (first | (refine quiet_fr rfl _ rfl _ rfl ?_ ?_ ?_ ?_; rotate_left; (focus (rintro _ ⟨x, rfl⟩; (focus (repeat (first | (with_reducible assumption) | (with_reducible exact At.new _ _) | (with_reducible refine At.row ?_) | (with_reducible refine At.app ?_) | (with_reducible refine At.tick ?_) | (with_reducible refine At.gx ?_) | ((with_reducible refine At.new' ?_); focus (simp; done)) | (with_reducible refine At.alloc ?_) | (with_reducible refine At.drew ?_) | (with_reducible exact Is.new _ _ _) | (with_reducible refine Is.row ?_) | (with_reducible refine Is.gx ?_) | ((with_reducible refine Is.new' ?_); focus (simp; done)) | (with_reducible refine Is.alloc ?_) | (with_reducible refine Is.drew ?_)))))); (focus (with_reducible (first | exact hl | exact hl1 | exact hl2 | exact hl3 | exact hl4 | exact zeroF_len)))) | go_big_quiet_step ((first | (go_at_call 94; exact calls_gx (Rsum_any F hF _)))) | quiet_step ((first | (go_at_call 94; exact calls_gx (Rsum_any F hF _))))))
            refine wpQuiet_nil ?_
            rintro _ ⟨x, rfl⟩
            go_wp2
            first | (with_reducible refine region_gxx (by kernel_rfl) (by kernel_rfl) ?_) | (with_reducible refine region_gx (by kernel_rfl) (by kernel_rfl) ?_)
            repeat (any_goals (first | (refine quiet_fr rfl _ rfl _ rfl ?_ ?_ ?_ ?_; rotate_left; (focus (rintro _ ⟨x, rfl⟩; (focus (repeat (first | (with_reducible assumption) | (with_reducible exact At.new _ _) | (with_reducible refine At.row ?_) | (with_reducible refine At.app ?_) | (with_reducible refine At.tick ?_) | (with_reducible refine At.gx ?_) | ((with_reducible refine At.new' ?_); focus (simp; done)) | (with_reducible refine At.alloc ?_) | (with_reducible refine At.drew ?_) | (with_reducible exact Is.new _ _ _) | (with_reducible refine Is.row ?_) | (with_reducible refine Is.gx ?_) | ((with_reducible refine Is.new' ?_); focus (simp; done)) | (with_reducible refine Is.alloc ?_) | (with_reducible refine Is.drew ?_)))))); (focus (with_reducible (first | exact hl | exact hl1 | exact hl2 | exact hl3 | exact hl4 | exact zeroF_len)))) | go_big_quiet_step ((first | (go_at_call 95; exact calls_gx (check_any F hF hn _)))) | quiet_step ((first | (go_at_call 95; exact calls_gx (check_any F hF hn _))))))
            refine wpQuiet_nil ?_
            rintro _ ⟨x, rfl⟩
            go_wp2_with ((at_builtin; (with_reducible apply append_new (o := ⟨some 77, _, _, _, _, _⟩) el_flaw (w.alloc (.cells (fc F) 32)) (w.heap.size + 1) (v := u3) (n := 0 + (evenL F 63).length) (xs := [] ++ flC (evenL F 63)) (m := 1) (news := [.int .i64 62, .int .i64 4])); go_loud ((exact rfl; exact rfl; exact rfl; exact rfl; (focus (simp; done)); (focus (repeat (first | (with_reducible assumption) | (with_reducible exact Own.nil _ _ _ _) | (with_reducible refine Own.app ?_) | (with_reducible refine Own.tick ?_) | (with_reducible refine Own.gx ?_) | (with_reducible refine Own.alloc ?_) | (with_reducible refine Own.drew ?_)))); exact (by repeat (first | (with_reducible exact Gx.refl _) | (with_reducible assumption) | (with_reducible refine Gx.gx ?_) | (with_reducible refine Gx.alloc ?_) | (with_reducible refine Gx.drew ?_) | (with_reducible refine Gx.drewN ?_) | (with_reducible refine Gx.setRow ?_ (by simp)) | (with_reducible refine Gx.setCell ?_ (by simp)))); (focus (simp <;> omega)); exact rfl; (focus (repeat (first | (with_reducible assumption) | ((with_reducible apply Shows.whole); focus ((focus (repeat (first | (with_reducible assumption) | (with_reducible exact At.new _ _) | (with_reducible refine At.row ?_) | (with_reducible refine At.app ?_) | (with_reducible refine At.tick ?_) | (with_reducible refine At.gx ?_) | ((with_reducible refine At.new' ?_); focus (simp; done)) | (with_reducible refine At.alloc ?_) | (with_reducible refine At.drew ?_) | (with_reducible exact Is.new _ _ _) | (with_reducible refine Is.row ?_) | (with_reducible refine Is.gx ?_) | ((with_reducible refine Is.new' ?_); focus (simp; done)) | (with_reducible refine Is.alloc ?_) | (with_reducible refine Is.drew ?_)))); done)) | (with_reducible refine Shows.app ?_) | (with_reducible refine Shows.tick ?_) | (with_reducible refine Shows.gx ?_) | (with_reducible refine Shows.alloc ?_) | (with_reducible refine Shows.drew ?_)))); (focus (simp [Value.oneCell']; done)); (focus (simp only [maxLen]; omega)); (focus omega); (rintro v4 _ ⟨y4, rfl⟩ hO4 _); skip))))
            go_ret
            refine own_ret (v := v4) (b := w.heap.size + 1) (Gx.trans (by repeat (first | (with_reducible exact Gx.refl _) | (with_reducible assumption) | (with_reducible refine Gx.gx ?_) | (with_reducible refine Gx.alloc ?_) | (with_reducible refine Gx.drew ?_) | (with_reducible refine Gx.drewN ?_) | (with_reducible refine Gx.setRow ?_ (by simp)) | (with_reducible refine Gx.setCell ?_ (by simp)))) Gx.one) (by simp) (Hs.out _ _ _ ?_); (focus (repeat (first | (with_reducible assumption) | (with_reducible exact Own.nil _ _ _ _) | (with_reducible refine Own.app ?_) | (with_reducible refine Own.tick ?_) | (with_reducible refine Own.gx ?_) | (with_reducible refine Own.alloc ?_) | (with_reducible refine Own.drew ?_))))
          · -- 01
            have hs : ∀ v W b, Own b W 49 2 v (0 + (evenL F 63).length + 1) ([] ++ flC (evenL F 63) ++ [.int .i64 61, .int .i64 3]) → Own b W 49 2 v (flawsL F).length (flC (flawsL F)) := fun v W b h => by
              have e : flawsL F = ((([] ++ evenL F 63) ++ [(61, 3)]) ++ []) := by unfold flawsL; rw [hw, h1, h3, h4]; rfl
              have a : flC (((([] ++ evenL F 63) ++ [(61, 3)]) ++ [])) = [] ++ flC (evenL F 63) ++ [.int .i64 61, .int .i64 3] := by rw [flC_app, flC_app, flC_app]; simp [flC_one, flC_nil]
              have c : (((([] ++ evenL F 63) ++ [(61, 3)]) ++ [])).length = 0 + (evenL F 63).length + 1 := by simp only [List.length_append, List.length_nil, List.length_cons] <;> omega
              rw [e, a, c]
              exact h
            have Hs := Lib.hid hs
            clear hs
            have e3 : (gw F 61 % 2048 != sumI F) = true := by rw [show (gw F 61 % 2048 != sumI F) = !(sumOk F) from rfl, h3]; rfl
            have e4 : (gw F 62 % 2048 * 2048 + gw F 63 % 2048 != chkI F) = false := by rw [show (gw F 62 % 2048 * 2048 + gw F 63 % 2048 != chkI F) = !(gw F 62 % 2048 * 2048 + gw F 63 % 2048 == chkI F) from rfl, chk_one, h4]; rfl
            clear h1 h3 h4 hw
            go_wp2
            refine region_gx (by kernel_rfl) (by kernel_rfl) ?_
            repeat (any_goals (first | (refine quiet_fr rfl _ rfl _ rfl ?_ ?_ ?_ ?_; rotate_left; (focus (rintro _ ⟨x, rfl⟩; (focus (repeat (first | (with_reducible assumption) | (with_reducible exact At.new _ _) | (with_reducible refine At.row ?_) | (with_reducible refine At.app ?_) | (with_reducible refine At.tick ?_) | (with_reducible refine At.gx ?_) | ((with_reducible refine At.new' ?_); focus (simp; done)) | (with_reducible refine At.alloc ?_) | (with_reducible refine At.drew ?_) | (with_reducible exact Is.new _ _ _) | (with_reducible refine Is.row ?_) | (with_reducible refine Is.gx ?_) | ((with_reducible refine Is.new' ?_); focus (simp; done)) | (with_reducible refine Is.alloc ?_) | (with_reducible refine Is.drew ?_)))))); (focus (with_reducible (first | exact hl | exact hl1 | exact hl2 | exact hl3 | exact hl4 | exact zeroF_len)))) | go_big_quiet_step ((first | (go_at_call 94; exact calls_gx (Rsum_any F hF _)))) | quiet_step ((first | (go_at_call 94; exact calls_gx (Rsum_any F hF _))))))
            refine wpQuiet_nil ?_
            rintro _ ⟨x, rfl⟩
            go_wp2_with ((at_builtin; (with_reducible apply append_new (o := ⟨some 60, _, _, _, _, _⟩) el_flaw (w.alloc (.cells (fc F) 32)) (w.heap.size + 1) (v := u3) (n := 0 + (evenL F 63).length) (xs := [] ++ flC (evenL F 63)) (m := 1) (news := [.int .i64 61, .int .i64 3])); go_loud ((exact rfl; exact rfl; exact rfl; exact rfl; (focus (simp; done)); (focus (repeat (first | (with_reducible assumption) | (with_reducible exact Own.nil _ _ _ _) | (with_reducible refine Own.app ?_) | (with_reducible refine Own.tick ?_) | (with_reducible refine Own.gx ?_) | (with_reducible refine Own.alloc ?_) | (with_reducible refine Own.drew ?_)))); exact (by repeat (first | (with_reducible exact Gx.refl _) | (with_reducible assumption) | (with_reducible refine Gx.gx ?_) | (with_reducible refine Gx.alloc ?_) | (with_reducible refine Gx.drew ?_) | (with_reducible refine Gx.drewN ?_) | (with_reducible refine Gx.setRow ?_ (by simp)) | (with_reducible refine Gx.setCell ?_ (by simp)))); (focus (simp <;> omega)); exact rfl; (focus (repeat (first | (with_reducible assumption) | ((with_reducible apply Shows.whole); focus ((focus (repeat (first | (with_reducible assumption) | (with_reducible exact At.new _ _) | (with_reducible refine At.row ?_) | (with_reducible refine At.app ?_) | (with_reducible refine At.tick ?_) | (with_reducible refine At.gx ?_) | ((with_reducible refine At.new' ?_); focus (simp; done)) | (with_reducible refine At.alloc ?_) | (with_reducible refine At.drew ?_) | (with_reducible exact Is.new _ _ _) | (with_reducible refine Is.row ?_) | (with_reducible refine Is.gx ?_) | ((with_reducible refine Is.new' ?_); focus (simp; done)) | (with_reducible refine Is.alloc ?_) | (with_reducible refine Is.drew ?_)))); done)) | (with_reducible refine Shows.app ?_) | (with_reducible refine Shows.tick ?_) | (with_reducible refine Shows.gx ?_) | (with_reducible refine Shows.alloc ?_) | (with_reducible refine Shows.drew ?_)))); (focus (simp [Value.oneCell']; done)); (focus (simp only [maxLen]; omega)); (focus omega); (rintro v3 _ ⟨y3, rfl⟩ hO3 _); skip))))
            obtain ⟨W2, hW2⟩ : ∃ W2, W2 = gx (w.alloc (.cells (fc F) 32)) y3 := ⟨_, rfl⟩
            have hAf2 : At W2 w.heap.size (.cells (fc F) 32 (0, 0)) := by rw [hW2]; (focus (repeat (first | (with_reducible assumption) | (with_reducible exact At.new _ _) | (with_reducible refine At.row ?_) | (with_reducible refine At.app ?_) | (with_reducible refine At.tick ?_) | (with_reducible refine At.gx ?_) | ((with_reducible refine At.new' ?_); focus (simp; done)) | (with_reducible refine At.alloc ?_) | (with_reducible refine At.drew ?_) | (with_reducible exact Is.new _ _ _) | (with_reducible refine Is.row ?_) | (with_reducible refine Is.gx ?_) | ((with_reducible refine Is.new' ?_); focus (simp; done)) | (with_reducible refine Is.alloc ?_) | (with_reducible refine Is.drew ?_))))
            have hGf2 : ∃ x, W2 = gx (w.alloc (.cells (fc F) 32)) x := ⟨_, hW2⟩
            have hSf2 : w.heap.size + 1 ≤ W2.heap.size := by rw [hW2]; simp
            have hLf2 : w.heap.size < W2.heap.size := hSf2
            have d62 : W2.cell? ⟨w.heap.size, 62, none⟩ = some (.int .u16 (gw F 62)) := by rw [cell_of_row W2 _ _ _ _ _ hAf2, fc_get F 62 (by omega)]
            have d63 : W2.cell? ⟨w.heap.size, 63, none⟩ = some (.int .u16 (gw F 63)) := by rw [cell_of_row W2 _ _ _ _ _ hAf2, fc_get F 63 (by omega)]
            rw [← hW2] at hO3 ⊢
            clear hW2
            refine region_gx (by kernel_rfl) (by kernel_rfl) ?_
            repeat (any_goals (first | (refine quiet_fr rfl _ rfl _ rfl ?_ ?_ ?_ ?_; rotate_left; (focus (rintro _ ⟨x, rfl⟩; (focus (repeat (first | (with_reducible assumption) | (with_reducible exact At.new _ _) | (with_reducible refine At.row ?_) | (with_reducible refine At.app ?_) | (with_reducible refine At.tick ?_) | (with_reducible refine At.gx ?_) | ((with_reducible refine At.new' ?_); focus (simp; done)) | (with_reducible refine At.alloc ?_) | (with_reducible refine At.drew ?_) | (with_reducible exact Is.new _ _ _) | (with_reducible refine Is.row ?_) | (with_reducible refine Is.gx ?_) | ((with_reducible refine Is.new' ?_); focus (simp; done)) | (with_reducible refine Is.alloc ?_) | (with_reducible refine Is.drew ?_)))))); (focus (with_reducible (first | exact hl | exact hl1 | exact hl2 | exact hl3 | exact hl4 | exact zeroF_len)))) | go_big_quiet_step ((first | (go_at_call 95; exact calls_gx (check_any F hF hn _)))) | quiet_step ((first | (go_at_call 95; exact calls_gx (check_any F hF hn _))))))
            refine wpQuiet_nil ?_
            rintro _ ⟨x, rfl⟩
            go_wp2
            go_ret
            refine own_ret (v := v3) (b := w.heap.size + 1) (Gx.trans (by repeat (first | (with_reducible exact Gx.refl _) | (with_reducible assumption) | (with_reducible refine Gx.gx ?_) | (with_reducible refine Gx.alloc ?_) | (with_reducible refine Gx.drew ?_) | (with_reducible refine Gx.drewN ?_) | (with_reducible refine Gx.setRow ?_ (by simp)) | (with_reducible refine Gx.setCell ?_ (by simp)))) Gx.one) (by simp) (Hs.out _ _ _ ?_); (focus (repeat (first | (with_reducible assumption) | (with_reducible exact Own.nil _ _ _ _) | (with_reducible refine Own.app ?_) | (with_reducible refine Own.tick ?_) | (with_reducible refine Own.gx ?_) | (with_reducible refine Own.alloc ?_) | (with_reducible refine Own.drew ?_))))
          · -- 00
            have hs : ∀ v W b, Own b W 49 2 v (0 + (evenL F 63).length + 1 + 1) ([] ++ flC (evenL F 63) ++ [.int .i64 61, .int .i64 3] ++ [.int .i64 62, .int .i64 4]) → Own b W 49 2 v (flawsL F).length (flC (flawsL F)) := fun v W b h => by
              have e : flawsL F = ((([] ++ evenL F 63) ++ [(61, 3)]) ++ [(62, 4)]) := by unfold flawsL; rw [hw, h1, h3, h4]; rfl
              have a : flC (((([] ++ evenL F 63) ++ [(61, 3)]) ++ [(62, 4)])) = [] ++ flC (evenL F 63) ++ [.int .i64 61, .int .i64 3] ++ [.int .i64 62, .int .i64 4] := by rw [flC_app, flC_app, flC_app]; simp [flC_one, flC_nil]
              have c : (((([] ++ evenL F 63) ++ [(61, 3)]) ++ [(62, 4)])).length = 0 + (evenL F 63).length + 1 + 1 := by simp only [List.length_append, List.length_nil, List.length_cons] <;> omega
              rw [e, a, c]
              exact h
            have Hs := Lib.hid hs
            clear hs
            have e3 : (gw F 61 % 2048 != sumI F) = true := by rw [show (gw F 61 % 2048 != sumI F) = !(sumOk F) from rfl, h3]; rfl
            have e4 : (gw F 62 % 2048 * 2048 + gw F 63 % 2048 != chkI F) = true := by rw [show (gw F 62 % 2048 * 2048 + gw F 63 % 2048 != chkI F) = !(gw F 62 % 2048 * 2048 + gw F 63 % 2048 == chkI F) from rfl, chk_one, h4]; rfl
            clear h1 h3 h4 hw
            go_wp2
            refine region_gx (by kernel_rfl) (by kernel_rfl) ?_
            repeat (any_goals (first | (refine quiet_fr rfl _ rfl _ rfl ?_ ?_ ?_ ?_; rotate_left; (focus (rintro _ ⟨x, rfl⟩; (focus (repeat (first | (with_reducible assumption) | (with_reducible exact At.new _ _) | (with_reducible refine At.row ?_) | (with_reducible refine At.app ?_) | (with_reducible refine At.tick ?_) | (with_reducible refine At.gx ?_) | ((with_reducible refine At.new' ?_); focus (simp; done)) | (with_reducible refine At.alloc ?_) | (with_reducible refine At.drew ?_) | (with_reducible exact Is.new _ _ _) | (with_reducible refine Is.row ?_) | (with_reducible refine Is.gx ?_) | ((with_reducible refine Is.new' ?_); focus (simp; done)) | (with_reducible refine Is.alloc ?_) | (with_reducible refine Is.drew ?_)))))); (focus (with_reducible (first | exact hl | exact hl1 | exact hl2 | exact hl3 | exact hl4 | exact zeroF_len)))) | go_big_quiet_step ((first | (go_at_call 94; exact calls_gx (Rsum_any F hF _)))) | quiet_step ((first | (go_at_call 94; exact calls_gx (Rsum_any F hF _))))))
            refine wpQuiet_nil ?_
            rintro _ ⟨x, rfl⟩
            go_wp2_with ((at_builtin; (with_reducible apply append_new (o := ⟨some 60, _, _, _, _, _⟩) el_flaw (w.alloc (.cells (fc F) 32)) (w.heap.size + 1) (v := u3) (n := 0 + (evenL F 63).length) (xs := [] ++ flC (evenL F 63)) (m := 1) (news := [.int .i64 61, .int .i64 3])); go_loud ((exact rfl; exact rfl; exact rfl; exact rfl; (focus (simp; done)); (focus (repeat (first | (with_reducible assumption) | (with_reducible exact Own.nil _ _ _ _) | (with_reducible refine Own.app ?_) | (with_reducible refine Own.tick ?_) | (with_reducible refine Own.gx ?_) | (with_reducible refine Own.alloc ?_) | (with_reducible refine Own.drew ?_)))); exact (by repeat (first | (with_reducible exact Gx.refl _) | (with_reducible assumption) | (with_reducible refine Gx.gx ?_) | (with_reducible refine Gx.alloc ?_) | (with_reducible refine Gx.drew ?_) | (with_reducible refine Gx.drewN ?_) | (with_reducible refine Gx.setRow ?_ (by simp)) | (with_reducible refine Gx.setCell ?_ (by simp)))); (focus (simp <;> omega)); exact rfl; (focus (repeat (first | (with_reducible assumption) | ((with_reducible apply Shows.whole); focus ((focus (repeat (first | (with_reducible assumption) | (with_reducible exact At.new _ _) | (with_reducible refine At.row ?_) | (with_reducible refine At.app ?_) | (with_reducible refine At.tick ?_) | (with_reducible refine At.gx ?_) | ((with_reducible refine At.new' ?_); focus (simp; done)) | (with_reducible refine At.alloc ?_) | (with_reducible refine At.drew ?_) | (with_reducible exact Is.new _ _ _) | (with_reducible refine Is.row ?_) | (with_reducible refine Is.gx ?_) | ((with_reducible refine Is.new' ?_); focus (simp; done)) | (with_reducible refine Is.alloc ?_) | (with_reducible refine Is.drew ?_)))); done)) | (with_reducible refine Shows.app ?_) | (with_reducible refine Shows.tick ?_) | (with_reducible refine Shows.gx ?_) | (with_reducible refine Shows.alloc ?_) | (with_reducible refine Shows.drew ?_)))); (focus (simp [Value.oneCell']; done)); (focus (simp only [maxLen]; omega)); (focus omega); (rintro v3 _ ⟨y3, rfl⟩ hO3 _); skip))))
            obtain ⟨W2, hW2⟩ : ∃ W2, W2 = gx (w.alloc (.cells (fc F) 32)) y3 := ⟨_, rfl⟩
            have hAf2 : At W2 w.heap.size (.cells (fc F) 32 (0, 0)) := by rw [hW2]; (focus (repeat (first | (with_reducible assumption) | (with_reducible exact At.new _ _) | (with_reducible refine At.row ?_) | (with_reducible refine At.app ?_) | (with_reducible refine At.tick ?_) | (with_reducible refine At.gx ?_) | ((with_reducible refine At.new' ?_); focus (simp; done)) | (with_reducible refine At.alloc ?_) | (with_reducible refine At.drew ?_) | (with_reducible exact Is.new _ _ _) | (with_reducible refine Is.row ?_) | (with_reducible refine Is.gx ?_) | ((with_reducible refine Is.new' ?_); focus (simp; done)) | (with_reducible refine Is.alloc ?_) | (with_reducible refine Is.drew ?_))))
            have hGf2 : ∃ x, W2 = gx (w.alloc (.cells (fc F) 32)) x := ⟨_, hW2⟩
            have hSf2 : w.heap.size + 1 ≤ W2.heap.size := by rw [hW2]; simp
            have hLf2 : w.heap.size < W2.heap.size := hSf2
            have d62 : W2.cell? ⟨w.heap.size, 62, none⟩ = some (.int .u16 (gw F 62)) := by rw [cell_of_row W2 _ _ _ _ _ hAf2, fc_get F 62 (by omega)]
            have d63 : W2.cell? ⟨w.heap.size, 63, none⟩ = some (.int .u16 (gw F 63)) := by rw [cell_of_row W2 _ _ _ _ _ hAf2, fc_get F 63 (by omega)]
            rw [← hW2] at hO3 ⊢
            clear hW2
            refine region_gx (by kernel_rfl) (by kernel_rfl) ?_
            repeat (any_goals (first | (refine quiet_fr rfl _ rfl _ rfl ?_ ?_ ?_ ?_; rotate_left; (focus (rintro _ ⟨x, rfl⟩; (focus (repeat (first | (with_reducible assumption) | (with_reducible exact At.new _ _) | (with_reducible refine At.row ?_) | (with_reducible refine At.app ?_) | (with_reducible refine At.tick ?_) | (with_reducible refine At.gx ?_) | ((with_reducible refine At.new' ?_); focus (simp; done)) | (with_reducible refine At.alloc ?_) | (with_reducible refine At.drew ?_) | (with_reducible exact Is.new _ _ _) | (with_reducible refine Is.row ?_) | (with_reducible refine Is.gx ?_) | ((with_reducible refine Is.new' ?_); focus (simp; done)) | (with_reducible refine Is.alloc ?_) | (with_reducible refine Is.drew ?_)))))); (focus (with_reducible (first | exact hl | exact hl1 | exact hl2 | exact hl3 | exact hl4 | exact zeroF_len)))) | go_big_quiet_step ((first | (go_at_call 95; exact calls_gx (check_any F hF hn _)))) | quiet_step ((first | (go_at_call 95; exact calls_gx (check_any F hF hn _))))))
            refine wpQuiet_nil ?_
            rintro _ ⟨x, rfl⟩
            go_wp2_with ((at_builtin; (with_reducible apply append_new (o := ⟨some 77, _, _, _, _, _⟩) el_flaw (w.alloc (.cells (fc F) 32)) (w.heap.size + 1) (v := v3) (n := 0 + (evenL F 63).length + 1) (xs := [] ++ flC (evenL F 63) ++ [.int .i64 61, .int .i64 3]) (m := 1) (news := [.int .i64 62, .int .i64 4])); go_loud ((exact rfl; exact rfl; exact rfl; exact rfl; (focus (simp; done)); (focus (repeat (first | (with_reducible assumption) | (with_reducible exact Own.nil _ _ _ _) | (with_reducible refine Own.app ?_) | (with_reducible refine Own.tick ?_) | (with_reducible refine Own.gx ?_) | (with_reducible refine Own.alloc ?_) | (with_reducible refine Own.drew ?_)))); exact (by repeat (first | (with_reducible exact Gx.refl _) | (with_reducible assumption) | (with_reducible refine Gx.gx ?_) | (with_reducible refine Gx.alloc ?_) | (with_reducible refine Gx.drew ?_) | (with_reducible refine Gx.drewN ?_) | (with_reducible refine Gx.setRow ?_ (by simp)) | (with_reducible refine Gx.setCell ?_ (by simp)))); (focus (simp <;> omega)); exact rfl; (focus (repeat (first | (with_reducible assumption) | ((with_reducible apply Shows.whole); focus ((focus (repeat (first | (with_reducible assumption) | (with_reducible exact At.new _ _) | (with_reducible refine At.row ?_) | (with_reducible refine At.app ?_) | (with_reducible refine At.tick ?_) | (with_reducible refine At.gx ?_) | ((with_reducible refine At.new' ?_); focus (simp; done)) | (with_reducible refine At.alloc ?_) | (with_reducible refine At.drew ?_) | (with_reducible exact Is.new _ _ _) | (with_reducible refine Is.row ?_) | (with_reducible refine Is.gx ?_) | ((with_reducible refine Is.new' ?_); focus (simp; done)) | (with_reducible refine Is.alloc ?_) | (with_reducible refine Is.drew ?_)))); done)) | (with_reducible refine Shows.app ?_) | (with_reducible refine Shows.tick ?_) | (with_reducible refine Shows.gx ?_) | (with_reducible refine Shows.alloc ?_) | (with_reducible refine Shows.drew ?_)))); (focus (simp [Value.oneCell']; done)); (focus (simp only [maxLen]; omega)); (focus omega); (rintro v4 _ ⟨y4, rfl⟩ hO4 _); skip))))
            go_ret
            refine own_ret (v := v4) (b := w.heap.size + 1) (Gx.trans (by repeat (first | (with_reducible exact Gx.refl _) | (with_reducible assumption) | (with_reducible refine Gx.gx ?_) | (with_reducible refine Gx.alloc ?_) | (with_reducible refine Gx.drew ?_) | (with_reducible refine Gx.drewN ?_) | (with_reducible refine Gx.setRow ?_ (by simp)) | (with_reducible refine Gx.setCell ?_ (by simp)))) Gx.one) (by simp) (Hs.out _ _ _ ?_); (focus (repeat (first | (with_reducible assumption) | (with_reducible exact Own.nil _ _ _ _) | (with_reducible refine Own.app ?_) | (with_reducible refine Own.tick ?_) | (with_reducible refine Own.gx ?_) | (with_reducible refine Own.alloc ?_) | (with_reducible refine Own.drew ?_))))

set_option maxHeartbeats 2000000 in
set_option maxRecDepth 100000 in
theorem RFlaws_0 (F : List Int) (hF : Fr F) (hw : wideB F = false) (h1 : syncOk F = false) (w : World) :
    Calls Tryd.prog 35 #[.agg (fc F)] w fun e w' => ∃ v x, e = .returned v ∧ w' = gx w x ∧ Own w.heap.size (gx w x) 49 2 v (flawsL F).length (flC (flawsL F)) := by
  have hl := hF.len
  have hn := wideB_false.1 hw
  have hle := evenL_len F 63
  have b0 := (numI_bd F).1
  have k00 : 0 ≤ gw F 0 := (hF.bd _).1
  have k00' : gw F 0 ≤ 65535 := (hF.bd _).2
  have k61 : 0 ≤ gw F 61 := (hF.bd _).1
  have k62 : 0 ≤ gw F 62 := (hF.bd _).1
  have k63 : 0 ≤ gw F 63 := (hF.bd _).1
  have k61' : gw F 61 ≤ 65535 := (hF.bd _).2
  have k62' : gw F 62 ≤ 65535 := (hF.bd _).2
  have k63' : gw F 63 ≤ 65535 := (hF.bd _).2
  have e1 : (gw F 0 != syncI (numI F)) = true := by rw [show (gw F 0 != syncI (numI F)) = !(syncOk F) from rfl, h1]; rfl
  have Hn := Lib.hid hn
  go_enter Tryd.func35, Tryd.ntmps35
  go_wp2_with (refine load_fr rfl _ rfl _ rfl ?_ ?_ ?_ ?_; rotate_left; (focus (repeat (first | (with_reducible assumption) | (with_reducible exact At.new _ _) | (with_reducible refine At.row ?_) | (with_reducible refine At.app ?_) | (with_reducible refine At.tick ?_) | (with_reducible refine At.gx ?_) | ((with_reducible refine At.new' ?_); focus (simp; done)) | (with_reducible refine At.alloc ?_) | (with_reducible refine At.drew ?_) | (with_reducible exact Is.new _ _ _) | (with_reducible refine Is.row ?_) | (with_reducible refine Is.gx ?_) | ((with_reducible refine Is.new' ?_); focus (simp; done)) | (with_reducible refine Is.alloc ?_) | (with_reducible refine Is.drew ?_)))); (focus (with_reducible (first | exact hl | exact hl1 | exact hl2 | exact hl3 | exact hl4 | exact zeroF_len))))
  go_loop [3, 8] (fun fl i => ∃ k : Nat, k ≤ 64 ∧ fl = .slice none 0 0 ∧ i = .int .i64 k) (fun _ i => 64 - (intOf i).toNat)
  case atStart => exact ⟨0, Nat.zero_le _, rfl, rfl⟩
  case round =>
    obtain ⟨k, hk, rfl, rfl⟩ := hrel
    by_cases hlt : k < 64
    · have k2 : gw F k ≤ 4095 := Hn.out k hlt
      go_wp2
      go_round
      case rel => exact ⟨k + 1, by omega, rfl, by go_num⟩
      case measure => simp [intOf]; omega
    · obtain rfl : k = 64 := by omega
      go_wp2
      refine region_gx (by kernel_rfl) (by kernel_rfl) ?_
      repeat (any_goals (first | (refine quiet_fr rfl _ rfl _ rfl ?_ ?_ ?_ ?_; rotate_left; (focus (rintro _ ⟨x, rfl⟩; (focus (repeat (first | (with_reducible assumption) | (with_reducible exact At.new _ _) | (with_reducible refine At.row ?_) | (with_reducible refine At.app ?_) | (with_reducible refine At.tick ?_) | (with_reducible refine At.gx ?_) | ((with_reducible refine At.new' ?_); focus (simp; done)) | (with_reducible refine At.alloc ?_) | (with_reducible refine At.drew ?_) | (with_reducible exact Is.new _ _ _) | (with_reducible refine Is.row ?_) | (with_reducible refine Is.gx ?_) | ((with_reducible refine Is.new' ?_); focus (simp; done)) | (with_reducible refine Is.alloc ?_) | (with_reducible refine Is.drew ?_)))))); (focus (with_reducible (first | exact hl | exact hl1 | exact hl2 | exact hl3 | exact hl4 | exact zeroF_len)))) | go_big_quiet_step ((first | (go_at_call 93; exact calls_gx (RnumberOf_any F hF _)) | (go_at_call 79; exact calls_gx_same (syncOf_any _ b0 _)))) | quiet_step ((first | (go_at_call 93; exact calls_gx (RnumberOf_any F hF _)) | (go_at_call 79; exact calls_gx_same (syncOf_any _ b0 _))))))
      refine wpQuiet_nil ?_
      rintro _ ⟨x, rfl⟩
      go_wp2_with ((at_builtin; (with_reducible apply append_new (o := ⟨some 34, _, _, _, _, _⟩) el_flaw (w.alloc (.cells (fc F) 32)) (w.heap.size + 1) (v := (.slice none 0 0)) (n := 0) (xs := []) (m := 1) (news := [.int .i64 0, .int .i64 1])); go_loud ((exact rfl; exact rfl; exact rfl; exact rfl; (focus (simp; done)); (focus (repeat (first | (with_reducible assumption) | (with_reducible exact Own.nil _ _ _ _) | (with_reducible refine Own.app ?_) | (with_reducible refine Own.tick ?_) | (with_reducible refine Own.gx ?_) | (with_reducible refine Own.alloc ?_) | (with_reducible refine Own.drew ?_)))); exact (by repeat (first | (with_reducible exact Gx.refl _) | (with_reducible assumption) | (with_reducible refine Gx.gx ?_) | (with_reducible refine Gx.alloc ?_) | (with_reducible refine Gx.drew ?_) | (with_reducible refine Gx.drewN ?_) | (with_reducible refine Gx.setRow ?_ (by simp)) | (with_reducible refine Gx.setCell ?_ (by simp)))); (focus (simp <;> omega)); exact rfl; (focus (repeat (first | (with_reducible assumption) | ((with_reducible apply Shows.whole); focus ((focus (repeat (first | (with_reducible assumption) | (with_reducible exact At.new _ _) | (with_reducible refine At.row ?_) | (with_reducible refine At.app ?_) | (with_reducible refine At.tick ?_) | (with_reducible refine At.gx ?_) | ((with_reducible refine At.new' ?_); focus (simp; done)) | (with_reducible refine At.alloc ?_) | (with_reducible refine At.drew ?_) | (with_reducible exact Is.new _ _ _) | (with_reducible refine Is.row ?_) | (with_reducible refine Is.gx ?_) | ((with_reducible refine Is.new' ?_); focus (simp; done)) | (with_reducible refine Is.alloc ?_) | (with_reducible refine Is.drew ?_)))); done)) | (with_reducible refine Shows.app ?_) | (with_reducible refine Shows.tick ?_) | (with_reducible refine Shows.gx ?_) | (with_reducible refine Shows.alloc ?_) | (with_reducible refine Shows.drew ?_)))); (focus (simp [Value.oneCell']; done)); (focus (simp only [maxLen]; omega)); (focus omega); (rintro v1 _ ⟨y1, rfl⟩ hO1 _); skip))))
      go_loopw [3, 6] (fun fl i wr => ∃ (k : Nat) (x : Ext), k ≤ 63 ∧ i = .int .i64 (k + 1 : Nat) ∧ wr = gx (w.alloc (.cells (fc F) 32)) x ∧ Own (w.heap.size + 1) wr 49 2 fl (0 + 1 + (evenL F k).length) ([] ++ [.int .i64 0, .int .i64 1] ++ flC (evenL F k))) (fun _ i _ => 65 - (intOf i).toNat)
      case atStart => exact ⟨0, _, Nat.zero_le _, rfl, rfl, by rw [evenL, flC_nil]; exact hO1⟩
      case round =>
        obtain ⟨k, y, hk, rfl, rfl, hO⟩ := hrel
        by_cases hlt : k < 63
        · have hle := evenL_len F k
          have hlt' : k + 1 < 64 := by omega
          have k1 : 0 ≤ gw F (k + 1) := (hF.bd _).1
          have k2 : gw F (k + 1) ≤ 65535 := (hF.bd _).2
          clear h1 hw
          cases ho : oddI (gw F (k + 1))
          · have hs : ∀ v W, Own (w.heap.size + 1) W 49 2 v (0 + 1 + (evenL F k).length + 1) ([] ++ [.int .i64 0, .int .i64 1] ++ flC (evenL F k) ++ [.int .i64 ((k : Int) + 1), .int .i64 2]) → Own (w.heap.size + 1) W 49 2 v (0 + 1 + (evenL F (k + 1)).length) ([] ++ [.int .i64 0, .int .i64 1] ++ flC (evenL F (k + 1))) := fun v W h => by
              have e : evenL F (k + 1) = evenL F k ++ [(((k + 1 : Nat) : Int), 2)] := by rw [evenL, ho]; rfl
              rw [e, flC_app, flC_one, List.length_append, ← List.append_assoc]; exact h
            have Hs := Lib.hid hs
            clear hs
            go_wp2_with (first | (go_at_call 77; refine (odd_any _ k1 k2 _).mono ?_; rintro e w' ⟨rfl, rfl⟩) | (at_builtin; (with_reducible apply append_new (o := ⟨some 49, _, _, _, _, _⟩) el_flaw (w.alloc (.cells (fc F) 32)) (w.heap.size + 1) (v := u3) (n := 0 + 1 + (evenL F k).length) (xs := [] ++ [.int .i64 0, .int .i64 1] ++ flC (evenL F k)) (m := 1) (news := [.int .i64 ((k : Int) + 1), .int .i64 2])); go_loud ((exact rfl; exact rfl; exact rfl; exact rfl; (focus (simp; done)); (focus (repeat (first | (with_reducible assumption) | (with_reducible exact Own.nil _ _ _ _) | (with_reducible refine Own.app ?_) | (with_reducible refine Own.tick ?_) | (with_reducible refine Own.gx ?_) | (with_reducible refine Own.alloc ?_) | (with_reducible refine Own.drew ?_)))); exact (by repeat (first | (with_reducible exact Gx.refl _) | (with_reducible assumption) | (with_reducible refine Gx.gx ?_) | (with_reducible refine Gx.alloc ?_) | (with_reducible refine Gx.drew ?_) | (with_reducible refine Gx.drewN ?_) | (with_reducible refine Gx.setRow ?_ (by simp)) | (with_reducible refine Gx.setCell ?_ (by simp)))); (focus (simp <;> omega)); exact rfl; (focus (repeat (first | (with_reducible assumption) | ((with_reducible apply Shows.whole); focus ((focus (repeat (first | (with_reducible assumption) | (with_reducible exact At.new _ _) | (with_reducible refine At.row ?_) | (with_reducible refine At.app ?_) | (with_reducible refine At.tick ?_) | (with_reducible refine At.gx ?_) | ((with_reducible refine At.new' ?_); focus (simp; done)) | (with_reducible refine At.alloc ?_) | (with_reducible refine At.drew ?_) | (with_reducible exact Is.new _ _ _) | (with_reducible refine Is.row ?_) | (with_reducible refine Is.gx ?_) | ((with_reducible refine Is.new' ?_); focus (simp; done)) | (with_reducible refine Is.alloc ?_) | (with_reducible refine Is.drew ?_)))); done)) | (with_reducible refine Shows.app ?_) | (with_reducible refine Shows.tick ?_) | (with_reducible refine Shows.gx ?_) | (with_reducible refine Shows.alloc ?_) | (with_reducible refine Shows.drew ?_)))); (focus (simp [Value.oneCell']; done)); (focus (simp only [maxLen]; omega)); (focus omega); (rintro v' _ ⟨y', rfl⟩ hO' _); have hO2 := Hs.out _ _ hO'; clear hO'))))
            go_roundw
            case rel => exact ⟨k + 1, _, by omega, by go_num, rfl, hO2⟩
            case measure => simp [intOf]; omega
          · have e : evenL F (k + 1) = evenL F k := by rw [evenL, ho]; rfl
            rw [← e] at hO
            clear e
            go_wp2_with (go_at_call 77; refine (odd_any _ k1 k2 _).mono ?_; rintro e w' ⟨rfl, rfl⟩)
            go_roundw
            case rel => exact ⟨k + 1, _, by omega, by go_num, rfl, by (focus (repeat (first | (with_reducible assumption) | (with_reducible exact Own.nil _ _ _ _) | (with_reducible refine Own.app ?_) | (with_reducible refine Own.tick ?_) | (with_reducible refine Own.gx ?_) | (with_reducible refine Own.alloc ?_) | (with_reducible refine Own.drew ?_))))⟩
            case measure => simp [intOf]; omega
        · obtain rfl : k = 63 := by omega
          clear hk
          obtain ⟨W1, hW1⟩ : ∃ W1, W1 = gx (w.alloc (.cells (fc F) 32)) y := ⟨_, rfl⟩
          have hAf : At W1 w.heap.size (.cells (fc F) 32 (0, 0)) := by rw [hW1]; (focus (repeat (first | (with_reducible assumption) | (with_reducible exact At.new _ _) | (with_reducible refine At.row ?_) | (with_reducible refine At.app ?_) | (with_reducible refine At.tick ?_) | (with_reducible refine At.gx ?_) | ((with_reducible refine At.new' ?_); focus (simp; done)) | (with_reducible refine At.alloc ?_) | (with_reducible refine At.drew ?_) | (with_reducible exact Is.new _ _ _) | (with_reducible refine Is.row ?_) | (with_reducible refine Is.gx ?_) | ((with_reducible refine Is.new' ?_); focus (simp; done)) | (with_reducible refine Is.alloc ?_) | (with_reducible refine Is.drew ?_))))
          have hGf : ∃ x, W1 = gx (w.alloc (.cells (fc F) 32)) x := ⟨_, hW1⟩
          have hSf : w.heap.size + 1 ≤ W1.heap.size := by rw [hW1]; simp
          have hLf : w.heap.size < W1.heap.size := hSf
          have c61 : W1.cell? ⟨w.heap.size, 61, none⟩ = some (.int .u16 (gw F 61)) := by rw [cell_of_row W1 _ _ _ _ _ hAf, fc_get F 61 (by omega)]
          have c62 : W1.cell? ⟨w.heap.size, 62, none⟩ = some (.int .u16 (gw F 62)) := by rw [cell_of_row W1 _ _ _ _ _ hAf, fc_get F 62 (by omega)]
          have c63 : W1.cell? ⟨w.heap.size, 63, none⟩ = some (.int .u16 (gw F 63)) := by rw [cell_of_row W1 _ _ _ _ _ hAf, fc_get F 63 (by omega)]
          rw [← hW1] at hO ⊢
          clear hW1
          rcases bool_ways (sumOk F) (chkOk F) with ⟨h3, h4⟩ | ⟨h3, h4⟩ | ⟨h3, h4⟩ | ⟨h3, h4⟩
          · -- 11
            have hs : ∀ v W b, Own b W 49 2 v (0 + 1 + (evenL F 63).length) ([] ++ [.int .i64 0, .int .i64 1] ++ flC (evenL F 63)) → Own b W 49 2 v (flawsL F).length (flC (flawsL F)) := fun v W b h => by
              have e : flawsL F = ((([(0, 1)] ++ evenL F 63) ++ []) ++ []) := by unfold flawsL; rw [hw, h1, h3, h4]; rfl
              have a : flC (((([(0, 1)] ++ evenL F 63) ++ []) ++ [])) = [] ++ [.int .i64 0, .int .i64 1] ++ flC (evenL F 63) := by rw [flC_app, flC_app, flC_app]; simp [flC_one, flC_nil]
              have c : (((([(0, 1)] ++ evenL F 63) ++ []) ++ [])).length = 0 + 1 + (evenL F 63).length := by simp only [List.length_append, List.length_nil, List.length_cons] <;> omega
              rw [e, a, c]
              exact h
            have Hs := Lib.hid hs
            clear hs
            have e3 : (gw F 61 % 2048 != sumI F) = false := by rw [show (gw F 61 % 2048 != sumI F) = !(sumOk F) from rfl, h3]; rfl
            have e4 : (gw F 62 % 2048 * 2048 + gw F 63 % 2048 != chkI F) = false := by rw [show (gw F 62 % 2048 * 2048 + gw F 63 % 2048 != chkI F) = !(gw F 62 % 2048 * 2048 + gw F 63 % 2048 == chkI F) from rfl, chk_one, h4]; rfl
            clear h1 h3 h4 hw
            go_wp2
            refine region_gx (by kernel_rfl) (by kernel_rfl) ?_
            repeat (any_goals (first | (refine quiet_fr rfl _ rfl _ rfl ?_ ?_ ?_ ?_; rotate_left; (focus (rintro _ ⟨x, rfl⟩; (focus (repeat (first | (with_reducible assumption) | (with_reducible exact At.new _ _) | (with_reducible refine At.row ?_) | (with_reducible refine At.app ?_) | (with_reducible refine At.tick ?_) | (with_reducible refine At.gx ?_) | ((with_reducible refine At.new' ?_); focus (simp; done)) | (with_reducible refine At.alloc ?_) | (with_reducible refine At.drew ?_) | (with_reducible exact Is.new _ _ _) | (with_reducible refine Is.row ?_) | (with_reducible refine Is.gx ?_) | ((with_reducible refine Is.new' ?_); focus (simp; done)) | (with_reducible refine Is.alloc ?_) | (with_reducible refine Is.drew ?_)))))); (focus (with_reducible (first | exact hl | exact hl1 | exact hl2 | exact hl3 | exact hl4 | exact zeroF_len)))) | go_big_quiet_step ((first | (go_at_call 94; exact calls_gx (Rsum_any F hF _)))) | quiet_step ((first | (go_at_call 94; exact calls_gx (Rsum_any F hF _))))))
            refine wpQuiet_nil ?_
            rintro _ ⟨x, rfl⟩
            go_wp2
            first | (with_reducible refine region_gxx (by kernel_rfl) (by kernel_rfl) ?_) | (with_reducible refine region_gx (by kernel_rfl) (by kernel_rfl) ?_)
            repeat (any_goals (first | (refine quiet_fr rfl _ rfl _ rfl ?_ ?_ ?_ ?_; rotate_left; (focus (rintro _ ⟨x, rfl⟩; (focus (repeat (first | (with_reducible assumption) | (with_reducible exact At.new _ _) | (with_reducible refine At.row ?_) | (with_reducible refine At.app ?_) | (with_reducible refine At.tick ?_) | (with_reducible refine At.gx ?_) | ((with_reducible refine At.new' ?_); focus (simp; done)) | (with_reducible refine At.alloc ?_) | (with_reducible refine At.drew ?_) | (with_reducible exact Is.new _ _ _) | (with_reducible refine Is.row ?_) | (with_reducible refine Is.gx ?_) | ((with_reducible refine Is.new' ?_); focus (simp; done)) | (with_reducible refine Is.alloc ?_) | (with_reducible refine Is.drew ?_)))))); (focus (with_reducible (first | exact hl | exact hl1 | exact hl2 | exact hl3 | exact hl4 | exact zeroF_len)))) | go_big_quiet_step ((first | (go_at_call 95; exact calls_gx (check_any F hF hn _)))) | quiet_step ((first | (go_at_call 95; exact calls_gx (check_any F hF hn _))))))
            refine wpQuiet_nil ?_
            rintro _ ⟨x, rfl⟩
            go_wp2
            go_ret
            refine own_ret (v := u3) (b := w.heap.size + 1) (Gx.trans (by repeat (first | (with_reducible exact Gx.refl _) | (with_reducible assumption) | (with_reducible refine Gx.gx ?_) | (with_reducible refine Gx.alloc ?_) | (with_reducible refine Gx.drew ?_) | (with_reducible refine Gx.drewN ?_) | (with_reducible refine Gx.setRow ?_ (by simp)) | (with_reducible refine Gx.setCell ?_ (by simp)))) Gx.one) (by simp) (Hs.out _ _ _ ?_); (focus (repeat (first | (with_reducible assumption) | (with_reducible exact Own.nil _ _ _ _) | (with_reducible refine Own.app ?_) | (with_reducible refine Own.tick ?_) | (with_reducible refine Own.gx ?_) | (with_reducible refine Own.alloc ?_) | (with_reducible refine Own.drew ?_))))
          · -- 10
            have hs : ∀ v W b, Own b W 49 2 v (0 + 1 + (evenL F 63).length + 1) ([] ++ [.int .i64 0, .int .i64 1] ++ flC (evenL F 63) ++ [.int .i64 62, .int .i64 4]) → Own b W 49 2 v (flawsL F).length (flC (flawsL F)) := fun v W b h => by
              have e : flawsL F = ((([(0, 1)] ++ evenL F 63) ++ []) ++ [(62, 4)]) := by unfold flawsL; rw [hw, h1, h3, h4]; rfl
              have a : flC (((([(0, 1)] ++ evenL F 63) ++ []) ++ [(62, 4)])) = [] ++ [.int .i64 0, .int .i64 1] ++ flC (evenL F 63) ++ [.int .i64 62, .int .i64 4] := by rw [flC_app, flC_app, flC_app]; simp [flC_one, flC_nil]
              have c : (((([(0, 1)] ++ evenL F 63) ++ []) ++ [(62, 4)])).length = 0 + 1 + (evenL F 63).length + 1 := by simp only [List.length_append, List.length_nil, List.length_cons] <;> omega
              rw [e, a, c]
              exact h
            have Hs := Lib.hid hs
            clear hs
            have e3 : (gw F 61 % 2048 != sumI F) = false := by rw [show (gw F 61 % 2048 != sumI F) = !(sumOk F) from rfl, h3]; rfl
            have e4 : (gw F 62 % 2048 * 2048 + gw F 63 % 2048 != chkI F) = true := by rw [show (gw F 62 % 2048 * 2048 + gw F 63 % 2048 != chkI F) = !(gw F 62 % 2048 * 2048 + gw F 63 % 2048 == chkI F) from rfl, chk_one, h4]; rfl
            clear h1 h3 h4 hw
            go_wp2
            refine region_gx (by kernel_rfl) (by kernel_rfl) ?_
            repeat (any_goals (first | (refine quiet_fr rfl _ rfl _ rfl ?_ ?_ ?_ ?_; rotate_left; (focus (rintro _ ⟨x, rfl⟩; (focus (repeat (first | (with_reducible assumption) | (with_reducible exact At.new _ _) | (with_reducible refine At.row ?_) | (with_reducible refine At.app ?_) | (with_reducible refine At.tick ?_) | (with_reducible refine At.gx ?_) | ((with_reducible refine At.new' ?_); focus (simp; done)) | (with_reducible refine At.alloc ?_) | (with_reducible refine At.drew ?_) | (with_reducible exact Is.new _ _ _) | (with_reducible refine Is.row ?_) | (with_reducible refine Is.gx ?_) | ((with_reducible refine Is.new' ?_); focus (simp; done)) | (with_reducible refine Is.alloc ?_) | (with_reducible refine Is.drew ?_)))))); (focus (with_reducible (first | exact hl | exact hl1 | exact hl2 | exact hl3 | exact hl4 | exact zeroF_len)))) | go_big_quiet_step ((first | (go_at_call 94; exact calls_gx (Rsum_any F hF _)))) | quiet_step ((first | (go_at_call 94; exact calls_gx (Rsum_any F hF _))))))
            refine wpQuiet_nil ?_
            rintro _ ⟨x, rfl⟩
            go_wp2
            first | (with_reducible refine region_gxx (by kernel_rfl) (by kernel_rfl) ?_) | (with_reducible refine region_gx (by kernel_rfl) (by kernel_rfl) ?_)
            repeat (any_goals (first | (refine quiet_fr rfl _ rfl _ rfl ?_ ?_ ?_ ?_; rotate_left; (focus (rintro _ ⟨x, rfl⟩; (focus (repeat (first | (with_reducible assumption) | (with_reducible exact At.new _ _) | (with_reducible refine At.row ?_) | (with_reducible refine At.app ?_) | (with_reducible refine At.tick ?_) | (with_reducible refine At.gx ?_) | ((with_reducible refine At.new' ?_); focus (simp; done)) | (with_reducible refine At.alloc ?_) | (with_reducible refine At.drew ?_) | (with_reducible exact Is.new _ _ _) | (with_reducible refine Is.row ?_) | (with_reducible refine Is.gx ?_) | ((with_reducible refine Is.new' ?_); focus (simp; done)) | (with_reducible refine Is.alloc ?_) | (with_reducible refine Is.drew ?_)))))); (focus (with_reducible (first | exact hl | exact hl1 | exact hl2 | exact hl3 | exact hl4 | exact zeroF_len)))) | go_big_quiet_step ((first | (go_at_call 95; exact calls_gx (check_any F hF hn _)))) | quiet_step ((first | (go_at_call 95; exact calls_gx (check_any F hF hn _))))))
            refine wpQuiet_nil ?_
            rintro _ ⟨x, rfl⟩
            go_wp2_with ((at_builtin; (with_reducible apply append_new (o := ⟨some 77, _, _, _, _, _⟩) el_flaw (w.alloc (.cells (fc F) 32)) (w.heap.size + 1) (v := u3) (n := 0 + 1 + (evenL F 63).length) (xs := [] ++ [.int .i64 0, .int .i64 1] ++ flC (evenL F 63)) (m := 1) (news := [.int .i64 62, .int .i64 4])); go_loud ((exact rfl; exact rfl; exact rfl; exact rfl; (focus (simp; done)); (focus (repeat (first | (with_reducible assumption) | (with_reducible exact Own.nil _ _ _ _) | (with_reducible refine Own.app ?_) | (with_reducible refine Own.tick ?_) | (with_reducible refine Own.gx ?_) | (with_reducible refine Own.alloc ?_) | (with_reducible refine Own.drew ?_)))); exact (by repeat (first | (with_reducible exact Gx.refl _) | (with_reducible assumption) | (with_reducible refine Gx.gx ?_) | (with_reducible refine Gx.alloc ?_) | (with_reducible refine Gx.drew ?_) | (with_reducible refine Gx.drewN ?_) | (with_reducible refine Gx.setRow ?_ (by simp)) | (with_reducible refine Gx.setCell ?_ (by simp)))); (focus (simp <;> omega)); exact rfl; (focus (repeat (first | (with_reducible assumption) | ((with_reducible apply Shows.whole); focus ((focus (repeat (first | (with_reducible assumption) | (with_reducible exact At.new _ _) | (with_reducible refine At.row ?_) | (with_reducible refine At.app ?_) | (with_reducible refine At.tick ?_) | (with_reducible refine At.gx ?_) | ((with_reducible refine At.new' ?_); focus (simp; done)) | (with_reducible refine At.alloc ?_) | (with_reducible refine At.drew ?_) | (with_reducible exact Is.new _ _ _) | (with_reducible refine Is.row ?_) | (with_reducible refine Is.gx ?_) | ((with_reducible refine Is.new' ?_); focus (simp; done)) | (with_reducible refine Is.alloc ?_) | (with_reducible refine Is.drew ?_)))); done)) | (with_reducible refine Shows.app ?_) | (with_reducible refine Shows.tick ?_) | (with_reducible refine Shows.gx ?_) | (with_reducible refine Shows.alloc ?_) | (with_reducible refine Shows.drew ?_)))); (focus (simp [Value.oneCell']; done)); (focus (simp only [maxLen]; omega)); (focus omega); (rintro v4 _ ⟨y4, rfl⟩ hO4 _); skip))))
            go_ret
            refine own_ret (v := v4) (b := w.heap.size + 1) (Gx.trans (by repeat (first | (with_reducible exact Gx.refl _) | (with_reducible assumption) | (with_reducible refine Gx.gx ?_) | (with_reducible refine Gx.alloc ?_) | (with_reducible refine Gx.drew ?_) | (with_reducible refine Gx.drewN ?_) | (with_reducible refine Gx.setRow ?_ (by simp)) | (with_reducible refine Gx.setCell ?_ (by simp)))) Gx.one) (by simp) (Hs.out _ _ _ ?_); (focus (repeat (first | (with_reducible assumption) | (with_reducible exact Own.nil _ _ _ _) | (with_reducible refine Own.app ?_) | (with_reducible refine Own.tick ?_) | (with_reducible refine Own.gx ?_) | (with_reducible refine Own.alloc ?_) | (with_reducible refine Own.drew ?_))))
          · -- 01
            have hs : ∀ v W b, Own b W 49 2 v (0 + 1 + (evenL F 63).length + 1) ([] ++ [.int .i64 0, .int .i64 1] ++ flC (evenL F 63) ++ [.int .i64 61, .int .i64 3]) → Own b W 49 2 v (flawsL F).length (flC (flawsL F)) := fun v W b h => by
              have e : flawsL F = ((([(0, 1)] ++ evenL F 63) ++ [(61, 3)]) ++ []) := by unfold flawsL; rw [hw, h1, h3, h4]; rfl
              have a : flC (((([(0, 1)] ++ evenL F 63) ++ [(61, 3)]) ++ [])) = [] ++ [.int .i64 0, .int .i64 1] ++ flC (evenL F 63) ++ [.int .i64 61, .int .i64 3] := by rw [flC_app, flC_app, flC_app]; simp [flC_one, flC_nil]
              have c : (((([(0, 1)] ++ evenL F 63) ++ [(61, 3)]) ++ [])).length = 0 + 1 + (evenL F 63).length + 1 := by simp only [List.length_append, List.length_nil, List.length_cons] <;> omega
              rw [e, a, c]
              exact h
            have Hs := Lib.hid hs
            clear hs
            have e3 : (gw F 61 % 2048 != sumI F) = true := by rw [show (gw F 61 % 2048 != sumI F) = !(sumOk F) from rfl, h3]; rfl
            have e4 : (gw F 62 % 2048 * 2048 + gw F 63 % 2048 != chkI F) = false := by rw [show (gw F 62 % 2048 * 2048 + gw F 63 % 2048 != chkI F) = !(gw F 62 % 2048 * 2048 + gw F 63 % 2048 == chkI F) from rfl, chk_one, h4]; rfl
            clear h1 h3 h4 hw
            go_wp2
            refine region_gx (by kernel_rfl) (by kernel_rfl) ?_
            repeat (any_goals (first | (refine quiet_fr rfl _ rfl _ rfl ?_ ?_ ?_ ?_; rotate_left; (focus (rintro _ ⟨x, rfl⟩; (focus (repeat (first | (with_reducible assumption) | (with_reducible exact At.new _ _) | (with_reducible refine At.row ?_) | (with_reducible refine At.app ?_) | (with_reducible refine At.tick ?_) | (with_reducible refine At.gx ?_) | ((with_reducible refine At.new' ?_); focus (simp; done)) | (with_reducible refine At.alloc ?_) | (with_reducible refine At.drew ?_) | (with_reducible exact Is.new _ _ _) | (with_reducible refine Is.row ?_) | (with_reducible refine Is.gx ?_) | ((with_reducible refine Is.new' ?_); focus (simp; done)) | (with_reducible refine Is.alloc ?_) | (with_reducible refine Is.drew ?_)))))); (focus (with_reducible (first | exact hl | exact hl1 | exact hl2 | exact hl3 | exact hl4 | exact zeroF_len)))) | go_big_quiet_step ((first | (go_at_call 94; exact calls_gx (Rsum_any F hF _)))) | quiet_step ((first | (go_at_call 94; exact calls_gx (Rsum_any F hF _))))))
            refine wpQuiet_nil ?_
            rintro _ ⟨x, rfl⟩
            go_wp2_with ((at_builtin; (with_reducible apply append_new (o := ⟨some 60, _, _, _, _, _⟩) el_flaw (w.alloc (.cells (fc F) 32)) (w.heap.size + 1) (v := u3) (n := 0 + 1 + (evenL F 63).length) (xs := [] ++ [.int .i64 0, .int .i64 1] ++ flC (evenL F 63)) (m := 1) (news := [.int .i64 61, .int .i64 3])); go_loud ((exact rfl; exact rfl; exact rfl; exact rfl; (focus (simp; done)); (focus (repeat (first | (with_reducible assumption) | (with_reducible exact Own.nil _ _ _ _) | (with_reducible refine Own.app ?_) | (with_reducible refine Own.tick ?_) | (with_reducible refine Own.gx ?_) | (with_reducible refine Own.alloc ?_) | (with_reducible refine Own.drew ?_)))); exact (by repeat (first | (with_reducible exact Gx.refl _) | (with_reducible assumption) | (with_reducible refine Gx.gx ?_) | (with_reducible refine Gx.alloc ?_) | (with_reducible refine Gx.drew ?_) | (with_reducible refine Gx.drewN ?_) | (with_reducible refine Gx.setRow ?_ (by simp)) | (with_reducible refine Gx.setCell ?_ (by simp)))); (focus (simp <;> omega)); exact rfl; (focus (repeat (first | (with_reducible assumption) | ((with_reducible apply Shows.whole); focus ((focus (repeat (first | (with_reducible assumption) | (with_reducible exact At.new _ _) | (with_reducible refine At.row ?_) | (with_reducible refine At.app ?_) | (with_reducible refine At.tick ?_) | (with_reducible refine At.gx ?_) | ((with_reducible refine At.new' ?_); focus (simp; done)) | (with_reducible refine At.alloc ?_) | (with_reducible refine At.drew ?_) | (with_reducible exact Is.new _ _ _) | (with_reducible refine Is.row ?_) | (with_reducible refine Is.gx ?_) | ((with_reducible refine Is.new' ?_); focus (simp; done)) | (with_reducible refine Is.alloc ?_) | (with_reducible refine Is.drew ?_)))); done)) | (with_reducible refine Shows.app ?_) | (with_reducible refine Shows.tick ?_) | (with_reducible refine Shows.gx ?_) | (with_reducible refine Shows.alloc ?_) | (with_reducible refine Shows.drew ?_)))); (focus (simp [Value.oneCell']; done)); (focus (simp only [maxLen]; omega)); (focus omega); (rintro v3 _ ⟨y3, rfl⟩ hO3 _); skip))))
            obtain ⟨W2, hW2⟩ : ∃ W2, W2 = gx (w.alloc (.cells (fc F) 32)) y3 := ⟨_, rfl⟩
            have hAf2 : At W2 w.heap.size (.cells (fc F) 32 (0, 0)) := by rw [hW2]; (focus (repeat (first | (with_reducible assumption) | (with_reducible exact At.new _ _) | (with_reducible refine At.row ?_) | (with_reducible refine At.app ?_) | (with_reducible refine At.tick ?_) | (with_reducible refine At.gx ?_) | ((with_reducible refine At.new' ?_); focus (simp; done)) | (with_reducible refine At.alloc ?_) | (with_reducible refine At.drew ?_) | (with_reducible exact Is.new _ _ _) | (with_reducible refine Is.row ?_) | (with_reducible refine Is.gx ?_) | ((with_reducible refine Is.new' ?_); focus (simp; done)) | (with_reducible refine Is.alloc ?_) | (with_reducible refine Is.drew ?_))))
            have hGf2 : ∃ x, W2 = gx (w.alloc (.cells (fc F) 32)) x := ⟨_, hW2⟩
            have hSf2 : w.heap.size + 1 ≤ W2.heap.size := by rw [hW2]; simp
            have hLf2 : w.heap.size < W2.heap.size := hSf2
            have d62 : W2.cell? ⟨w.heap.size, 62, none⟩ = some (.int .u16 (gw F 62)) := by rw [cell_of_row W2 _ _ _ _ _ hAf2, fc_get F 62 (by omega)]
            have d63 : W2.cell? ⟨w.heap.size, 63, none⟩ = some (.int .u16 (gw F 63)) := by rw [cell_of_row W2 _ _ _ _ _ hAf2, fc_get F 63 (by omega)]
            rw [← hW2] at hO3 ⊢
            clear hW2
            refine region_gx (by kernel_rfl) (by kernel_rfl) ?_
            repeat (any_goals (first | (refine quiet_fr rfl _ rfl _ rfl ?_ ?_ ?_ ?_; rotate_left; (focus (rintro _ ⟨x, rfl⟩; (focus (repeat (first | (with_reducible assumption) | (with_reducible exact At.new _ _) | (with_reducible refine At.row ?_) | (with_reducible refine At.app ?_) | (with_reducible refine At.tick ?_) | (with_reducible refine At.gx ?_) | ((with_reducible refine At.new' ?_); focus (simp; done)) | (with_reducible refine At.alloc ?_) | (with_reducible refine At.drew ?_) | (with_reducible exact Is.new _ _ _) | (with_reducible refine Is.row ?_) | (with_reducible refine Is.gx ?_) | ((with_reducible refine Is.new' ?_); focus (simp; done)) | (with_reducible refine Is.alloc ?_) | (with_reducible refine Is.drew ?_)))))); (focus (with_reducible (first | exact hl | exact hl1 | exact hl2 | exact hl3 | exact hl4 | exact zeroF_len)))) | go_big_quiet_step ((first | (go_at_call 95; exact calls_gx (check_any F hF hn _)))) | quiet_step ((first | (go_at_call 95; exact calls_gx (check_any F hF hn _))))))
            refine wpQuiet_nil ?_
            rintro _ ⟨x, rfl⟩
            go_wp2
            go_ret
            refine own_ret (v := v3) (b := w.heap.size + 1) (Gx.trans (by repeat (first | (with_reducible exact Gx.refl _) | (with_reducible assumption) | (with_reducible refine Gx.gx ?_) | (with_reducible refine Gx.alloc ?_) | (with_reducible refine Gx.drew ?_) | (with_reducible refine Gx.drewN ?_) | (with_reducible refine Gx.setRow ?_ (by simp)) | (with_reducible refine Gx.setCell ?_ (by simp)))) Gx.one) (by simp) (Hs.out _ _ _ ?_); (focus (repeat (first | (with_reducible assumption) | (with_reducible exact Own.nil _ _ _ _) | (with_reducible refine Own.app ?_) | (with_reducible refine Own.tick ?_) | (with_reducible refine Own.gx ?_) | (with_reducible refine Own.alloc ?_) | (with_reducible refine Own.drew ?_))))
          · -- 00
            have hs : ∀ v W b, Own b W 49 2 v (0 + 1 + (evenL F 63).length + 1 + 1) ([] ++ [.int .i64 0, .int .i64 1] ++ flC (evenL F 63) ++ [.int .i64 61, .int .i64 3] ++ [.int .i64 62, .int .i64 4]) → Own b W 49 2 v (flawsL F).length (flC (flawsL F)) := fun v W b h => by
              have e : flawsL F = ((([(0, 1)] ++ evenL F 63) ++ [(61, 3)]) ++ [(62, 4)]) := by unfold flawsL; rw [hw, h1, h3, h4]; rfl
              have a : flC (((([(0, 1)] ++ evenL F 63) ++ [(61, 3)]) ++ [(62, 4)])) = [] ++ [.int .i64 0, .int .i64 1] ++ flC (evenL F 63) ++ [.int .i64 61, .int .i64 3] ++ [.int .i64 62, .int .i64 4] := by rw [flC_app, flC_app, flC_app]; simp [flC_one]
              have c : (((([(0, 1)] ++ evenL F 63) ++ [(61, 3)]) ++ [(62, 4)])).length = 0 + 1 + (evenL F 63).length + 1 + 1 := by simp only [List.length_append, List.length_nil, List.length_cons] <;> omega
              rw [e, a, c]
              exact h
            have Hs := Lib.hid hs
            clear hs
            have e3 : (gw F 61 % 2048 != sumI F) = true := by rw [show (gw F 61 % 2048 != sumI F) = !(sumOk F) from rfl, h3]; rfl
            have e4 : (gw F 62 % 2048 * 2048 + gw F 63 % 2048 != chkI F) = true := by rw [show (gw F 62 % 2048 * 2048 + gw F 63 % 2048 != chkI F) = !(gw F 62 % 2048 * 2048 + gw F 63 % 2048 == chkI F) from rfl, chk_one, h4]; rfl
            clear h1 h3 h4 hw
            go_wp2
            refine region_gx (by kernel_rfl) (by kernel_rfl) ?_
            repeat (any_goals (first | (refine quiet_fr rfl _ rfl _ rfl ?_ ?_ ?_ ?_; rotate_left; (focus (rintro _ ⟨x, rfl⟩; (focus (repeat (first | (with_reducible assumption) | (with_reducible exact At.new _ _) | (with_reducible refine At.row ?_) | (with_reducible refine At.app ?_) | (with_reducible refine At.tick ?_) | (with_reducible refine At.gx ?_) | ((with_reducible refine At.new' ?_); focus (simp; done)) | (with_reducible refine At.alloc ?_) | (with_reducible refine At.drew ?_) | (with_reducible exact Is.new _ _ _) | (with_reducible refine Is.row ?_) | (with_reducible refine Is.gx ?_) | ((with_reducible refine Is.new' ?_); focus (simp; done)) | (with_reducible refine Is.alloc ?_) | (with_reducible refine Is.drew ?_)))))); (focus (with_reducible (first | exact hl | exact hl1 | exact hl2 | exact hl3 | exact hl4 | exact zeroF_len)))) | go_big_quiet_step ((first | (go_at_call 94; exact calls_gx (Rsum_any F hF _)))) | quiet_step ((first | (go_at_call 94; exact calls_gx (Rsum_any F hF _))))))
            refine wpQuiet_nil ?_
            rintro _ ⟨x, rfl⟩
            go_wp2_with ((at_builtin; (with_reducible apply append_new (o := ⟨some 60, _, _, _, _, _⟩) el_flaw (w.alloc (.cells (fc F) 32)) (w.heap.size + 1) (v := u3) (n := 0 + 1 + (evenL F 63).length) (xs := [] ++ [.int .i64 0, .int .i64 1] ++ flC (evenL F 63)) (m := 1) (news := [.int .i64 61, .int .i64 3])); go_loud ((exact rfl; exact rfl; exact rfl; exact rfl; (focus (simp; done)); (focus (repeat (first | (with_reducible assumption) | (with_reducible exact Own.nil _ _ _ _) | (with_reducible refine Own.app ?_) | (with_reducible refine Own.tick ?_) | (with_reducible refine Own.gx ?_) | (with_reducible refine Own.alloc ?_) | (with_reducible refine Own.drew ?_)))); exact (by repeat (first | (with_reducible exact Gx.refl _) | (with_reducible assumption) | (with_reducible refine Gx.gx ?_) | (with_reducible refine Gx.alloc ?_) | (with_reducible refine Gx.drew ?_) | (with_reducible refine Gx.drewN ?_) | (with_reducible refine Gx.setRow ?_ (by simp)) | (with_reducible refine Gx.setCell ?_ (by simp)))); (focus (simp <;> omega)); exact rfl; (focus (repeat (first | (with_reducible assumption) | ((with_reducible apply Shows.whole); focus ((focus (repeat (first | (with_reducible assumption) | (with_reducible exact At.new _ _) | (with_reducible refine At.row ?_) | (with_reducible refine At.app ?_) | (with_reducible refine At.tick ?_) | (with_reducible refine At.gx ?_) | ((with_reducible refine At.new' ?_); focus (simp; done)) | (with_reducible refine At.alloc ?_) | (with_reducible refine At.drew ?_) | (with_reducible exact Is.new _ _ _) | (with_reducible refine Is.row ?_) | (with_reducible refine Is.gx ?_) | ((with_reducible refine Is.new' ?_); focus (simp; done)) | (with_reducible refine Is.alloc ?_) | (with_reducible refine Is.drew ?_)))); done)) | (with_reducible refine Shows.app ?_) | (with_reducible refine Shows.tick ?_) | (with_reducible refine Shows.gx ?_) | (with_reducible refine Shows.alloc ?_) | (with_reducible refine Shows.drew ?_)))); (focus (simp [Value.oneCell']; done)); (focus (simp only [maxLen]; omega)); (focus omega); (rintro v3 _ ⟨y3, rfl⟩ hO3 _); skip))))
            obtain ⟨W2, hW2⟩ : ∃ W2, W2 = gx (w.alloc (.cells (fc F) 32)) y3 := ⟨_, rfl⟩
            have hAf2 : At W2 w.heap.size (.cells (fc F) 32 (0, 0)) := by rw [hW2]; (focus (repeat (first | (with_reducible assumption) | (with_reducible exact At.new _ _) | (with_reducible refine At.row ?_) | (with_reducible refine At.app ?_) | (with_reducible refine At.tick ?_) | (with_reducible refine At.gx ?_) | ((with_reducible refine At.new' ?_); focus (simp; done)) | (with_reducible refine At.alloc ?_) | (with_reducible refine At.drew ?_) | (with_reducible exact Is.new _ _ _) | (with_reducible refine Is.row ?_) | (with_reducible refine Is.gx ?_) | ((with_reducible refine Is.new' ?_); focus (simp; done)) | (with_reducible refine Is.alloc ?_) | (with_reducible refine Is.drew ?_))))
            have hGf2 : ∃ x, W2 = gx (w.alloc (.cells (fc F) 32)) x := ⟨_, hW2⟩
            have hSf2 : w.heap.size + 1 ≤ W2.heap.size := by rw [hW2]; simp
            have hLf2 : w.heap.size < W2.heap.size := hSf2
            have d62 : W2.cell? ⟨w.heap.size, 62, none⟩ = some (.int .u16 (gw F 62)) := by rw [cell_of_row W2 _ _ _ _ _ hAf2, fc_get F 62 (by omega)]
            have d63 : W2.cell? ⟨w.heap.size, 63, none⟩ = some (.int .u16 (gw F 63)) := by rw [cell_of_row W2 _ _ _ _ _ hAf2, fc_get F 63 (by omega)]
            rw [← hW2] at hO3 ⊢
            clear hW2
            refine region_gx (by kernel_rfl) (by kernel_rfl) ?_
            repeat (any_goals (first | (refine quiet_fr rfl _ rfl _ rfl ?_ ?_ ?_ ?_; rotate_left; (focus (rintro _ ⟨x, rfl⟩; (focus (repeat (first | (with_reducible assumption) | (with_reducible exact At.new _ _) | (with_reducible refine At.row ?_) | (with_reducible refine At.app ?_) | (with_reducible refine At.tick ?_) | (with_reducible refine At.gx ?_) | ((with_reducible refine At.new' ?_); focus (simp; done)) | (with_reducible refine At.alloc ?_) | (with_reducible refine At.drew ?_) | (with_reducible exact Is.new _ _ _) | (with_reducible refine Is.row ?_) | (with_reducible refine Is.gx ?_) | ((with_reducible refine Is.new' ?_); focus (simp; done)) | (with_reducible refine Is.alloc ?_) | (with_reducible refine Is.drew ?_)))))); (focus (with_reducible (first | exact hl | exact hl1 | exact hl2 | exact hl3 | exact hl4 | exact zeroF_len)))) | go_big_quiet_step ((first | (go_at_call 95; exact calls_gx (check_any F hF hn _)))) | quiet_step ((first | (go_at_call 95; exact calls_gx (check_any F hF hn _))))))
            refine wpQuiet_nil ?_
            rintro _ ⟨x, rfl⟩
            go_wp2_with ((at_builtin; (with_reducible apply append_new (o := ⟨some 77, _, _, _, _, _⟩) el_flaw (w.alloc (.cells (fc F) 32)) (w.heap.size + 1) (v := v3) (n := 0 + 1 + (evenL F 63).length + 1) (xs := [] ++ [.int .i64 0, .int .i64 1] ++ flC (evenL F 63) ++ [.int .i64 61, .int .i64 3]) (m := 1) (news := [.int .i64 62, .int .i64 4])); go_loud ((exact rfl; exact rfl; exact rfl; exact rfl; (focus (simp; done)); (focus (repeat (first | (with_reducible assumption) | (with_reducible exact Own.nil _ _ _ _) | (with_reducible refine Own.app ?_) | (with_reducible refine Own.tick ?_) | (with_reducible refine Own.gx ?_) | (with_reducible refine Own.alloc ?_) | (with_reducible refine Own.drew ?_)))); exact (by repeat (first | (with_reducible exact Gx.refl _) | (with_reducible assumption) | (with_reducible refine Gx.gx ?_) | (with_reducible refine Gx.alloc ?_) | (with_reducible refine Gx.drew ?_) | (with_reducible refine Gx.drewN ?_) | (with_reducible refine Gx.setRow ?_ (by simp)) | (with_reducible refine Gx.setCell ?_ (by simp)))); (focus (simp <;> omega)); exact rfl; (focus (repeat (first | (with_reducible assumption) | ((with_reducible apply Shows.whole); focus ((focus (repeat (first | (with_reducible assumption) | (with_reducible exact At.new _ _) | (with_reducible refine At.row ?_) | (with_reducible refine At.app ?_) | (with_reducible refine At.tick ?_) | (with_reducible refine At.gx ?_) | ((with_reducible refine At.new' ?_); focus (simp; done)) | (with_reducible refine At.alloc ?_) | (with_reducible refine At.drew ?_) | (with_reducible exact Is.new _ _ _) | (with_reducible refine Is.row ?_) | (with_reducible refine Is.gx ?_) | ((with_reducible refine Is.new' ?_); focus (simp; done)) | (with_reducible refine Is.alloc ?_) | (with_reducible refine Is.drew ?_)))); done)) | (with_reducible refine Shows.app ?_) | (with_reducible refine Shows.tick ?_) | (with_reducible refine Shows.gx ?_) | (with_reducible refine Shows.alloc ?_) | (with_reducible refine Shows.drew ?_)))); (focus (simp [Value.oneCell']; done)); (focus (simp only [maxLen]; omega)); (focus omega); (rintro v4 _ ⟨y4, rfl⟩ hO4 _); skip))))
            go_ret
            refine own_ret (v := v4) (b := w.heap.size + 1) (Gx.trans (by repeat (first | (with_reducible exact Gx.refl _) | (with_reducible assumption) | (with_reducible refine Gx.gx ?_) | (with_reducible refine Gx.alloc ?_) | (with_reducible refine Gx.drew ?_) | (with_reducible refine Gx.drewN ?_) | (with_reducible refine Gx.setRow ?_ (by simp)) | (with_reducible refine Gx.setCell ?_ (by simp)))) Gx.one) (by simp) (Hs.out _ _ _ ?_); (focus (repeat (first | (with_reducible assumption) | (with_reducible exact Own.nil _ _ _ _) | (with_reducible refine Own.app ?_) | (with_reducible refine Own.tick ?_) | (with_reducible refine Own.gx ?_) | (with_reducible refine Own.alloc ?_) | (with_reducible refine Own.drew ?_))))
end Go.Proofs.YtemgjiajpgepiaaDoor
