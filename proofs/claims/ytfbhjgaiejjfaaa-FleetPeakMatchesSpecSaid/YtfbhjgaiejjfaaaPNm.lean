/-
  Names of tracks: the program's IsName at every text.
-/
import Derived.Test.YtfbhjgaiejjfaaaKit
import Derived.LoopN
namespace Go.Proofs.Ytfbhjgaiejjfaaa
open Go.RowKit
-- AT2
-- AT3

def letB (c : Int) : Bool := decide (97 ≤ c) && decide (c ≤ 122)
def digB (c : Int) : Bool := decide (48 ≤ c) && decide (c ≤ 57)
theorem isLetterE_any (c : Int) (w : World) : Calls Try.prog 18 #[.int .u8 c] w fun e w' => e = .returned (.bool (letB c)) ∧ w = w' := by
  by_cases h : 97 ≤ c
  all_goals
    go_enter Try.func18, Try.ntmps18
    go_wp2
    go_ret
    exact ⟨by unfold letB; simp [h] <;> omega, rfl⟩
theorem isDigitE_any (c : Int) (w : World) : Calls Try.prog 36 #[.int .u8 c] w fun e w' => e = .returned (.bool (digB c)) ∧ w = w' := by
  by_cases h : 48 ≤ c
  all_goals
    go_enter Try.func36, Try.ntmps36
    go_wp2
    go_ret
    exact ⟨by unfold digB; simp [h] <;> omega, rfl⟩
/-- The byte k of a text. -/
@[irreducible] def bt (s : ByteArray) (k : Nat) : Int := ((s.data.toList.getD k 0).toNat : Int)
theorem bt_get (s : ByteArray) (k : Nat) (h : k < s.size) : (s[k].toNat : Int) = bt s k := by
  unfold bt
  have h' : k < s.data.size := h
  simp [List.getD, Array.getElem?_eq_getElem h']
  rfl
def chB (c : Int) : Bool := letB c || digB c || c == 45
def okTo (s : ByteArray) : Nat → Bool
  | 0 => true
  | k + 1 => okTo s k && chB (bt s k)
theorem okTo_mono (s : ByteArray) (k m : Nat) (h : k ≤ m) (hk : okTo s k = false) : okTo s m = false := by
  induction m with
  | zero =>
    obtain rfl : k = 0 := by omega
    exact hk
  | succ m ih =>
    by_cases e : k = m + 1
    · subst e; exact hk
    · unfold okTo; rw [ih (by omega)]; rfl
attribute [irreducible] letB digB
theorem bool3 (a b c : Bool) : (a = true) ∨ (a = false ∧ b = true) ∨ (a = false ∧ b = false ∧ c = true) ∨ (a = false ∧ b = false ∧ c = false) := by cases a <;> cases b <;> cases c <;> simp
/-- The words that can't be names. -/
def wds : List (List UInt8) := [[112, 104, 97, 115, 101], [109, 111, 118, 101], [114, 117, 108, 101], [105, 102], [111, 114], [97, 110, 100], [116, 114, 117, 101], [102, 97, 108, 115, 101], [115, 116, 101, 97, 100, 121], [110, 111, 116], [102, 111, 114], [119, 105, 116, 104, 105, 110], [99, 111, 117, 110, 116], [111, 102], [114, 105, 115, 101, 115], [115, 105, 110, 99, 101]]
@[irreducible] def wordB (s : ByteArray) : Bool := wds.any (fun w => s.toList == w)
theorem wordB_is (s : ByteArray) : wordB s = ((s.toList == [112, 104, 97, 115, 101]) || (s.toList == [109, 111, 118, 101]) || (s.toList == [114, 117, 108, 101]) || (s.toList == [105, 102]) || (s.toList == [111, 114]) || (s.toList == [97, 110, 100]) || (s.toList == [116, 114, 117, 101]) || (s.toList == [102, 97, 108, 115, 101]) || (s.toList == [115, 116, 101, 97, 100, 121]) || (s.toList == [110, 111, 116]) || (s.toList == [102, 111, 114]) || (s.toList == [119, 105, 116, 104, 105, 110]) || (s.toList == [99, 111, 117, 110, 116]) || (s.toList == [111, 102]) || (s.toList == [114, 105, 115, 101, 115]) || (s.toList == [115, 105, 110, 99, 101])) := by
  unfold wordB wds
  simp only [List.any_cons, List.any_nil, Bool.or_false, Bool.or_assoc]
set_option maxHeartbeats 4000000 in
set_option maxRecDepth 100000 in
theorem isWordE_any (s : ByteArray) (w : World) : Calls Try.prog 20 #[.string s] w fun e w' => e = .returned (.bool (wordB s)) ∧ w = w' := by
  have HB := Lib.hid (wordB_is s)
  generalize wordB s = B at *
  cases e0 : (s.toList == [112, 104, 97, 115, 101]) with
  | true =>
    have HC : Hid (B = true) := Lib.hid (by rw [HB.out, e0]; simp)
    go_enter Try.func20, Try.ntmps20
    go_wp2
    go_ret
    exact ⟨by rw [HC.out]; rfl, rfl⟩
  | false =>
    cases e1 : (s.toList == [109, 111, 118, 101]) with
    | true =>
      have HC : Hid (B = true) := Lib.hid (by rw [HB.out, e0, e1]; simp)
      go_enter Try.func20, Try.ntmps20
      go_wp2
      go_ret
      exact ⟨by rw [HC.out]; rfl, rfl⟩
    | false =>
      cases e2 : (s.toList == [114, 117, 108, 101]) with
      | true =>
        have HC : Hid (B = true) := Lib.hid (by rw [HB.out, e0, e1, e2]; simp)
        go_enter Try.func20, Try.ntmps20
        go_wp2
        go_ret
        exact ⟨by rw [HC.out]; rfl, rfl⟩
      | false =>
        cases e3 : (s.toList == [105, 102]) with
        | true =>
          have HC : Hid (B = true) := Lib.hid (by rw [HB.out, e0, e1, e2, e3]; simp)
          go_enter Try.func20, Try.ntmps20
          go_wp2
          go_ret
          exact ⟨by rw [HC.out]; rfl, rfl⟩
        | false =>
          cases e4 : (s.toList == [111, 114]) with
          | true =>
            have HC : Hid (B = true) := Lib.hid (by rw [HB.out, e0, e1, e2, e3, e4]; simp)
            go_enter Try.func20, Try.ntmps20
            go_wp2
            go_ret
            exact ⟨by rw [HC.out]; rfl, rfl⟩
          | false =>
            cases e5 : (s.toList == [97, 110, 100]) with
            | true =>
              have HC : Hid (B = true) := Lib.hid (by rw [HB.out, e0, e1, e2, e3, e4, e5]; simp)
              go_enter Try.func20, Try.ntmps20
              go_wp2
              go_ret
              exact ⟨by rw [HC.out]; rfl, rfl⟩
            | false =>
              cases e6 : (s.toList == [116, 114, 117, 101]) with
              | true =>
                have HC : Hid (B = true) := Lib.hid (by rw [HB.out, e0, e1, e2, e3, e4, e5, e6]; simp)
                go_enter Try.func20, Try.ntmps20
                go_wp2
                go_ret
                exact ⟨by rw [HC.out]; rfl, rfl⟩
              | false =>
                cases e7 : (s.toList == [102, 97, 108, 115, 101]) with
                | true =>
                  have HC : Hid (B = true) := Lib.hid (by rw [HB.out, e0, e1, e2, e3, e4, e5, e6, e7]; simp)
                  go_enter Try.func20, Try.ntmps20
                  go_wp2
                  go_ret
                  exact ⟨by rw [HC.out]; rfl, rfl⟩
                | false =>
                  cases e8 : (s.toList == [115, 116, 101, 97, 100, 121]) with
                  | true =>
                    have HC : Hid (B = true) := Lib.hid (by rw [HB.out, e0, e1, e2, e3, e4, e5, e6, e7, e8]; simp)
                    go_enter Try.func20, Try.ntmps20
                    go_wp2
                    go_ret
                    exact ⟨by rw [HC.out]; rfl, rfl⟩
                  | false =>
                    cases e9 : (s.toList == [110, 111, 116]) with
                    | true =>
                      have HC : Hid (B = true) := Lib.hid (by rw [HB.out, e0, e1, e2, e3, e4, e5, e6, e7, e8, e9]; simp)
                      go_enter Try.func20, Try.ntmps20
                      go_wp2
                      go_ret
                      exact ⟨by rw [HC.out]; rfl, rfl⟩
                    | false =>
                      cases e10 : (s.toList == [102, 111, 114]) with
                      | true =>
                        have HC : Hid (B = true) := Lib.hid (by rw [HB.out, e0, e1, e2, e3, e4, e5, e6, e7, e8, e9, e10]; simp)
                        go_enter Try.func20, Try.ntmps20
                        go_wp2
                        go_ret
                        exact ⟨by rw [HC.out]; rfl, rfl⟩
                      | false =>
                        cases e11 : (s.toList == [119, 105, 116, 104, 105, 110]) with
                        | true =>
                          have HC : Hid (B = true) := Lib.hid (by rw [HB.out, e0, e1, e2, e3, e4, e5, e6, e7, e8, e9, e10, e11]; simp)
                          go_enter Try.func20, Try.ntmps20
                          go_wp2
                          go_ret
                          exact ⟨by rw [HC.out]; rfl, rfl⟩
                        | false =>
                          cases e12 : (s.toList == [99, 111, 117, 110, 116]) with
                          | true =>
                            have HC : Hid (B = true) := Lib.hid (by rw [HB.out, e0, e1, e2, e3, e4, e5, e6, e7, e8, e9, e10, e11, e12]; simp)
                            go_enter Try.func20, Try.ntmps20
                            go_wp2
                            go_ret
                            exact ⟨by rw [HC.out]; rfl, rfl⟩
                          | false =>
                            cases e13 : (s.toList == [111, 102]) with
                            | true =>
                              have HC : Hid (B = true) := Lib.hid (by rw [HB.out, e0, e1, e2, e3, e4, e5, e6, e7, e8, e9, e10, e11, e12, e13]; simp)
                              go_enter Try.func20, Try.ntmps20
                              go_wp2
                              go_ret
                              exact ⟨by rw [HC.out]; rfl, rfl⟩
                            | false =>
                              cases e14 : (s.toList == [114, 105, 115, 101, 115]) with
                              | true =>
                                have HC : Hid (B = true) := Lib.hid (by rw [HB.out, e0, e1, e2, e3, e4, e5, e6, e7, e8, e9, e10, e11, e12, e13, e14]; simp)
                                go_enter Try.func20, Try.ntmps20
                                go_wp2
                                go_ret
                                exact ⟨by rw [HC.out]; rfl, rfl⟩
                              | false =>
                                cases e15 : (s.toList == [115, 105, 110, 99, 101]) with
                                | true =>
                                  have HC : Hid (B = true) := Lib.hid (by rw [HB.out, e0, e1, e2, e3, e4, e5, e6, e7, e8, e9, e10, e11, e12, e13, e14, e15]; simp)
                                  go_enter Try.func20, Try.ntmps20
                                  go_wp2
                                  go_ret
                                  exact ⟨by rw [HC.out]; rfl, rfl⟩
                                | false =>
                                  have HC : Hid (B = false) := Lib.hid (by rw [HB.out, e0, e1, e2, e3, e4, e5, e6, e7, e8, e9, e10, e11, e12, e13, e14, e15]; rfl)
                                  go_enter Try.func20, Try.ntmps20
                                  go_wp2
                                  go_ret
                                  exact ⟨by rw [HC.out]; rfl, rfl⟩
end Go.Proofs.Ytfbhjgaiejjfaaa
