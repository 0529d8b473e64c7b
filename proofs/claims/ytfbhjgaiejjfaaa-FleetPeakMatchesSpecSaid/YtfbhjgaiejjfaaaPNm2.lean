/-
  Names of tracks: the program's IsName at every text (second part).
-/
import Derived.Test.YtfbhjgaiejjfaaaPNm
namespace Go.Proofs.Ytfbhjgaiejjfaaa
open Go.RowKit
-- AT2
-- AT3

theorem ext_all (s : ByteArray) : s.extract 0 s.size = s := by
  apply ByteArray.ext
  simp
theorem ext_beq (s : ByteArray) (r : Nat) (hr : r ≤ s.size) (ok : okTo s r = true) (h : r = s.size ∨ chB (bt s r) = false) : ((s.extract 0 r).toList == s.toList) = okTo s s.size := by
  by_cases e : r = s.size
  · subst e
    rw [ok, ext_all, beq_iff_eq]
  · have h2 : chB (bt s r) = false := h.resolve_left e
    rw [okTo_mono s (r + 1) s.size (by omega) (by unfold okTo; rw [h2]; simp), beq_eq_false_iff_ne]
    intro h3
    have h4 : (s.extract 0 r) = s := by
      apply ByteArray.ext
      have := h3
      rw [ByteArray.toList_eq, ByteArray.toList_eq] at this
      exact Array.toList_inj.1 this
    have h5 : (s.extract 0 r).size = s.size := by rw [h4]
    rw [ByteArray.size_extract] at h5
    omega
set_option maxHeartbeats 1000000 in
set_option maxRecDepth 100000 in
theorem runOfE_any (s : ByteArray) (hs : s.size ≤ 9223372036854775807) (w : World) : Calls Try.prog 19 #[.string s] w fun e w' => ∃ X, e = .returned (.string X) ∧ Hid ((X.toList == s.toList) = okTo s s.size) ∧ w = w' := by
  go_enter Try.func19, Try.ntmps19
  go_wp2_with (first | go_skip | (go_at_call 18; refine (isLetterE_any _ _).mono ?_; rintro e w' ⟨rfl, rfl⟩))
  go_loop [3] (fun i => ∃ k : Nat, k ≤ s.size ∧ i = .int .i64 k ∧ Hid (okTo s k = true)) (fun i => s.size - (intOf i).toNat)
  case atStart => exact ⟨0, Nat.zero_le _, rfl, Lib.hid rfl⟩
  case round =>
    obtain ⟨k, hk, rfl, HO⟩ := hrel
    by_cases hlt : k < s.size
    · have gk := bt_get s k hlt
      have hlt' : (k : Int) < (s.size : Int) := by omega
      have hkz : (k : Int) ≤ (s.size : Int) := by omega
      have hk0 : (0 : Int) ≤ (k : Int) := by omega
      have HS : Hid (okTo s (k + 1) = chB (bt s k)) := Lib.hid (by rw [okTo, HO.out]; rfl)
      have HE := Lib.hid (fun h => ext_beq s k hk HO.out (.inr h))
      have hc : chB (bt s k) = (letB (bt s k) || digB (bt s k) || bt s k == 45) := rfl
      have HC := Lib.hid hc
      clear hc
      rcases bool3 (letB (bt s k)) (digB (bt s k)) (bt s k == 45) with e1 | ⟨e1, e2⟩ | ⟨e1, e2, e3⟩ | ⟨e1, e2, e3⟩
      · have HN : Hid (okTo s (k + 1) = true) := by show _ = _; rw [HS.out, HC.out, e1]; rfl
        go_wp2_with (first | go_skip | (go_at_call 18; refine (isLetterE_any _ _).mono ?_; rintro e w' ⟨rfl, rfl⟩) | (go_at_call 36; refine (isDigitE_any _ _).mono ?_; rintro e w' ⟨rfl, rfl⟩))
        go_round
        case rel => exact ⟨k + 1, by omega, by go_num, HN⟩
        case measure => simp [intOf]; omega
      · have HN : Hid (okTo s (k + 1) = true) := by show _ = _; rw [HS.out, HC.out, e1, e2]; rfl
        go_wp2_with (first | go_skip | (go_at_call 18; refine (isLetterE_any _ _).mono ?_; rintro e w' ⟨rfl, rfl⟩) | (go_at_call 36; refine (isDigitE_any _ _).mono ?_; rintro e w' ⟨rfl, rfl⟩))
        go_round
        case rel => exact ⟨k + 1, by omega, by go_num, HN⟩
        case measure => simp [intOf]; omega
      · have HN : Hid (okTo s (k + 1) = true) := by show _ = _; rw [HS.out, HC.out, e1, e2, e3]; rfl
        go_wp2_with (first | go_skip | (go_at_call 18; refine (isLetterE_any _ _).mono ?_; rintro e w' ⟨rfl, rfl⟩) | (go_at_call 36; refine (isDigitE_any _ _).mono ?_; rintro e w' ⟨rfl, rfl⟩))
        go_round
        case rel => exact ⟨k + 1, by omega, by go_num, HN⟩
        case measure => simp [intOf]; omega
      · have HN : Hid (((s.extract 0 k).toList == s.toList) = okTo s s.size) := by show _ = _; exact HE.out (by rw [HC.out, e1, e2, e3]; rfl)
        go_wp2_with (first | go_skip | (go_at_call 18; refine (isLetterE_any _ _).mono ?_; rintro e w' ⟨rfl, rfl⟩) | (go_at_call 36; refine (isDigitE_any _ _).mono ?_; rintro e w' ⟨rfl, rfl⟩))
        go_ret
        exact ⟨_, rfl, HN, rfl⟩
    · obtain rfl : k = s.size := by omega
      have HN : Hid ((s.toList == s.toList) = okTo s s.size) := by
        show _ = _
        have h := ext_beq s s.size (Nat.le_refl _) HO.out (.inl rfl)
        rwa [ext_all] at h
      have hd : decide ((s.size : Int) < (s.size : Int)) = false := decide_eq_false (by omega)
      go_wp2_with (first | go_skip)
      go_ret
      exact ⟨_, rfl, HN, rfl⟩
/-- Is a text a track's name? -/
@[irreducible] def nameT (s : ByteArray) : Bool := decide (1 ≤ s.size) && decide (s.size ≤ 30) && letB (bt s 0) && okTo s s.size && !wordB s
set_option maxHeartbeats 1000000 in
set_option maxRecDepth 100000 in
theorem IsNameE_any (s : ByteArray) (hs : s.size ≤ 9223372036854775807) (w : World) : Calls Try.prog 9 #[.string s] w fun e w' => e = .returned (.bool (nameT s)) ∧ w = w' := by
  have HR := Lib.hid (fun W => runOfE_any s hs W)
  have HW := Lib.hid (fun W => isWordE_any s W)
  have HD : Hid (nameT s = (decide (1 ≤ s.size) && decide (s.size ≤ 30) && letB (bt s 0) && okTo s s.size && !wordB s)) := Lib.hid (by unfold nameT; rfl)
  generalize nameT s = T at *
  generalize wordB s = V at *
  by_cases h0 : s.size = 0
  · have HN : Hid (T = false) := Lib.hid (by rw [HD.out, decide_eq_false (show ¬ 1 ≤ s.size by omega)]; rfl)
    have hd : decide (1 ≤ (s.size : Int)) = false := decide_eq_false (by omega)
    go_enter Try.func9, Try.ntmps9
    go_wp2_with (first | go_skip)
    go_ret
    exact ⟨by rw [HN.out]; rfl, rfl⟩
  · have hd : decide (1 ≤ (s.size : Int)) = true := decide_eq_true (by omega)
    by_cases h1 : 30 < s.size
    · have HN : Hid (T = false) := Lib.hid (by rw [HD.out, decide_eq_true (show 1 ≤ s.size by omega), decide_eq_false (show ¬ s.size ≤ 30 by omega)]; rfl)
      have hd2 : decide ((s.size : Int) ≤ 30) = false := decide_eq_false (by omega)
      go_enter Try.func9, Try.ntmps9
      go_wp2_with (first | go_skip)
      go_ret
      exact ⟨by rw [HN.out]; rfl, rfl⟩
    · have hp : 0 < s.size := by omega
      have g0 := bt_get s 0 hp
      have hd2 : decide ((s.size : Int) ≤ 30) = true := decide_eq_true (by omega)
      have HN : Hid (T = (letB (bt s 0) && okTo s s.size && !V)) := Lib.hid (by rw [HD.out, decide_eq_true (show 1 ≤ s.size by omega), decide_eq_true (show s.size ≤ 30 by omega)]; rfl)
      clear HD
      cases e1 : letB (bt s 0) with
      | false =>
        go_enter Try.func9, Try.ntmps9
        go_wp2_with (first | go_skip | (go_at_call 18; refine (isLetterE_any _ _).mono ?_; rintro e w' ⟨rfl, rfl⟩))
        go_ret
        exact ⟨by rw [HN.out, e1]; rfl, rfl⟩
      | true =>
        cases e2 : okTo s s.size with
        | false =>
          go_enter Try.func9, Try.ntmps9
          go_wp2_with (first | go_skip | (go_at_call 18; refine (isLetterE_any _ _).mono ?_; rintro e w' ⟨rfl, rfl⟩) | (go_at_call 19; refine (HR.out _).mono ?_; rintro e w' ⟨X, rfl, hX, rfl⟩; have hX' := hX.out; rw [e2] at hX'))
          go_ret
          exact ⟨by rw [HN.out, e1, e2]; rfl, rfl⟩
        | true =>
          go_enter Try.func9, Try.ntmps9
          go_wp2_with (first | go_skip | (go_at_call 18; refine (isLetterE_any _ _).mono ?_; rintro e w' ⟨rfl, rfl⟩) | (go_at_call 19; refine (HR.out _).mono ?_; rintro e w' ⟨X, rfl, hX, rfl⟩; have hX' := hX.out; rw [e2] at hX') | (go_at_call 20; refine (HW.out _).mono ?_; rintro e w' ⟨rfl, rfl⟩))
          go_ret
          exact ⟨by rw [HN.out, e1, e2]; rfl, rfl⟩
end Go.Proofs.Ytfbhjgaiejjfaaa
