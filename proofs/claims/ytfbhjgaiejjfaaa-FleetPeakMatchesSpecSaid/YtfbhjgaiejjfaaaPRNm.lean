/-
  Names of tracks: the reference's IsName at every text.
-/
import Derived.Test.YtfbhjgaiejjfaaaPNm2
namespace Go.Proofs.Ytfbhjgaiejjfaaa
open Go.RowKit
-- AT2
-- AT3

theorem words_any (w : World) : Calls Try.prog 44 #[] w fun e w' => e = .returned (.slice (some ⟨w.heap.size, 0, none⟩) 16 16) ∧ w' = w.alloc (.cells #[.string ⟨#[112, 104, 97, 115, 101]⟩, .string ⟨#[109, 111, 118, 101]⟩, .string ⟨#[114, 117, 108, 101]⟩, .string ⟨#[105, 102]⟩, .string ⟨#[111, 114]⟩, .string ⟨#[97, 110, 100]⟩, .string ⟨#[116, 114, 117, 101]⟩, .string ⟨#[102, 97, 108, 115, 101]⟩, .string ⟨#[115, 116, 101, 97, 100, 121]⟩, .string ⟨#[110, 111, 116]⟩, .string ⟨#[102, 111, 114]⟩, .string ⟨#[119, 105, 116, 104, 105, 110]⟩, .string ⟨#[99, 111, 117, 110, 116]⟩, .string ⟨#[111, 102]⟩, .string ⟨#[114, 105, 115, 101, 115]⟩, .string ⟨#[115, 105, 110, 99, 101]⟩] 9) := by
  go_enter Try.func44, Try.ntmps44
  go_wp2
  go_ret
  exact ⟨rfl, rfl⟩
theorem beq_sym (a b : List UInt8) : (a == b) = (b == a) := by
  by_cases h : a = b
  · subst h; rfl
  · rw [beq_eq_false_iff_ne.2 h, beq_eq_false_iff_ne.2 (fun e => h e.symm)]
set_option maxHeartbeats 8000000 in
set_option maxRecDepth 100000 in
theorem Reserved_any (s : ByteArray) (w : World) : Calls Try.prog 26 #[.string s] w fun e w' => e = .returned (.bool (wordB s)) ∧ ∃ x, w' = gx w x := by
  have HB := Lib.hid (wordB_is s)
  generalize wordB s = B at *
  cases e0 : (s.toList == [112, 104, 97, 115, 101]) with
  | true =>
    have HC : Hid (B = true) := Lib.hid (by rw [HB.out, e0]; simp)
    rw [beq_sym] at e0
    go_enter Try.func26, Try.ntmps26
    go_wp2_with (go_at_call 44; refine (words_any _).mono ?_; rintro e w' ⟨rfl, rfl⟩)
    refine wp_loop_rounds 17 ?_
    rw [rounds_succ]
    go_wp2
    go_ret
    exact ⟨by rw [HC.out]; rfl, (by repeat (first | (with_reducible exact Gx.refl _) | (with_reducible assumption) | (with_reducible refine Gx.gx ?_) | (with_reducible refine Gx.alloc ?_) | (with_reducible refine Gx.drew ?_) | (with_reducible refine Gx.drewN ?_) | (with_reducible refine Gx.setRow ?_ (by first | omega | (simp; done) | (simp <;> omega))) | (with_reducible refine Gx.setCell ?_ (by first | omega | (simp; done) | (simp <;> omega)))))⟩
  | false =>
    cases e1 : (s.toList == [109, 111, 118, 101]) with
    | true =>
      have HC : Hid (B = true) := Lib.hid (by rw [HB.out, e0, e1]; simp)
      rw [beq_sym] at e0
      rw [beq_sym] at e1
      go_enter Try.func26, Try.ntmps26
      go_wp2_with (go_at_call 44; refine (words_any _).mono ?_; rintro e w' ⟨rfl, rfl⟩)
      refine wp_loop_rounds 17 ?_
      rw [rounds_succ]
      go_wp2
      rw [rounds_succ]
      go_wp2
      go_ret
      exact ⟨by rw [HC.out]; rfl, (by repeat (first | (with_reducible exact Gx.refl _) | (with_reducible assumption) | (with_reducible refine Gx.gx ?_) | (with_reducible refine Gx.alloc ?_) | (with_reducible refine Gx.drew ?_) | (with_reducible refine Gx.drewN ?_) | (with_reducible refine Gx.setRow ?_ (by first | omega | (simp; done) | (simp <;> omega))) | (with_reducible refine Gx.setCell ?_ (by first | omega | (simp; done) | (simp <;> omega)))))⟩
    | false =>
      cases e2 : (s.toList == [114, 117, 108, 101]) with
      | true =>
        have HC : Hid (B = true) := Lib.hid (by rw [HB.out, e0, e1, e2]; simp)
        rw [beq_sym] at e0
        rw [beq_sym] at e1
        rw [beq_sym] at e2
        go_enter Try.func26, Try.ntmps26
        go_wp2_with (go_at_call 44; refine (words_any _).mono ?_; rintro e w' ⟨rfl, rfl⟩)
        refine wp_loop_rounds 17 ?_
        rw [rounds_succ]
        go_wp2
        rw [rounds_succ]
        go_wp2
        rw [rounds_succ]
        go_wp2
        go_ret
        exact ⟨by rw [HC.out]; rfl, (by repeat (first | (with_reducible exact Gx.refl _) | (with_reducible assumption) | (with_reducible refine Gx.gx ?_) | (with_reducible refine Gx.alloc ?_) | (with_reducible refine Gx.drew ?_) | (with_reducible refine Gx.drewN ?_) | (with_reducible refine Gx.setRow ?_ (by first | omega | (simp; done) | (simp <;> omega))) | (with_reducible refine Gx.setCell ?_ (by first | omega | (simp; done) | (simp <;> omega)))))⟩
      | false =>
        cases e3 : (s.toList == [105, 102]) with
        | true =>
          have HC : Hid (B = true) := Lib.hid (by rw [HB.out, e0, e1, e2, e3]; simp)
          rw [beq_sym] at e0
          rw [beq_sym] at e1
          rw [beq_sym] at e2
          rw [beq_sym] at e3
          go_enter Try.func26, Try.ntmps26
          go_wp2_with (go_at_call 44; refine (words_any _).mono ?_; rintro e w' ⟨rfl, rfl⟩)
          refine wp_loop_rounds 17 ?_
          rw [rounds_succ]
          go_wp2
          rw [rounds_succ]
          go_wp2
          rw [rounds_succ]
          go_wp2
          rw [rounds_succ]
          go_wp2
          go_ret
          exact ⟨by rw [HC.out]; rfl, (by repeat (first | (with_reducible exact Gx.refl _) | (with_reducible assumption) | (with_reducible refine Gx.gx ?_) | (with_reducible refine Gx.alloc ?_) | (with_reducible refine Gx.drew ?_) | (with_reducible refine Gx.drewN ?_) | (with_reducible refine Gx.setRow ?_ (by first | omega | (simp; done) | (simp <;> omega))) | (with_reducible refine Gx.setCell ?_ (by first | omega | (simp; done) | (simp <;> omega)))))⟩
        | false =>
          cases e4 : (s.toList == [111, 114]) with
          | true =>
            have HC : Hid (B = true) := Lib.hid (by rw [HB.out, e0, e1, e2, e3, e4]; simp)
            rw [beq_sym] at e0
            rw [beq_sym] at e1
            rw [beq_sym] at e2
            rw [beq_sym] at e3
            rw [beq_sym] at e4
            go_enter Try.func26, Try.ntmps26
            go_wp2_with (go_at_call 44; refine (words_any _).mono ?_; rintro e w' ⟨rfl, rfl⟩)
            refine wp_loop_rounds 17 ?_
            rw [rounds_succ]
            go_wp2
            rw [rounds_succ]
            go_wp2
            rw [rounds_succ]
            go_wp2
            rw [rounds_succ]
            go_wp2
            rw [rounds_succ]
            go_wp2
            go_ret
            exact ⟨by rw [HC.out]; rfl, (by repeat (first | (with_reducible exact Gx.refl _) | (with_reducible assumption) | (with_reducible refine Gx.gx ?_) | (with_reducible refine Gx.alloc ?_) | (with_reducible refine Gx.drew ?_) | (with_reducible refine Gx.drewN ?_) | (with_reducible refine Gx.setRow ?_ (by first | omega | (simp; done) | (simp <;> omega))) | (with_reducible refine Gx.setCell ?_ (by first | omega | (simp; done) | (simp <;> omega)))))⟩
          | false =>
            cases e5 : (s.toList == [97, 110, 100]) with
            | true =>
              have HC : Hid (B = true) := Lib.hid (by rw [HB.out, e0, e1, e2, e3, e4, e5]; simp)
              rw [beq_sym] at e0
              rw [beq_sym] at e1
              rw [beq_sym] at e2
              rw [beq_sym] at e3
              rw [beq_sym] at e4
              rw [beq_sym] at e5
              go_enter Try.func26, Try.ntmps26
              go_wp2_with (go_at_call 44; refine (words_any _).mono ?_; rintro e w' ⟨rfl, rfl⟩)
              refine wp_loop_rounds 17 ?_
              rw [rounds_succ]
              go_wp2
              rw [rounds_succ]
              go_wp2
              rw [rounds_succ]
              go_wp2
              rw [rounds_succ]
              go_wp2
              rw [rounds_succ]
              go_wp2
              rw [rounds_succ]
              go_wp2
              go_ret
              exact ⟨by rw [HC.out]; rfl, (by repeat (first | (with_reducible exact Gx.refl _) | (with_reducible assumption) | (with_reducible refine Gx.gx ?_) | (with_reducible refine Gx.alloc ?_) | (with_reducible refine Gx.drew ?_) | (with_reducible refine Gx.drewN ?_) | (with_reducible refine Gx.setRow ?_ (by first | omega | (simp; done) | (simp <;> omega))) | (with_reducible refine Gx.setCell ?_ (by first | omega | (simp; done) | (simp <;> omega)))))⟩
            | false =>
              cases e6 : (s.toList == [116, 114, 117, 101]) with
              | true =>
                have HC : Hid (B = true) := Lib.hid (by rw [HB.out, e0, e1, e2, e3, e4, e5, e6]; simp)
                rw [beq_sym] at e0
                rw [beq_sym] at e1
                rw [beq_sym] at e2
                rw [beq_sym] at e3
                rw [beq_sym] at e4
                rw [beq_sym] at e5
                rw [beq_sym] at e6
                go_enter Try.func26, Try.ntmps26
                go_wp2_with (go_at_call 44; refine (words_any _).mono ?_; rintro e w' ⟨rfl, rfl⟩)
                refine wp_loop_rounds 17 ?_
                rw [rounds_succ]
                go_wp2
                rw [rounds_succ]
                go_wp2
                rw [rounds_succ]
                go_wp2
                rw [rounds_succ]
                go_wp2
                rw [rounds_succ]
                go_wp2
                rw [rounds_succ]
                go_wp2
                rw [rounds_succ]
                go_wp2
                go_ret
                exact ⟨by rw [HC.out]; rfl, (by repeat (first | (with_reducible exact Gx.refl _) | (with_reducible assumption) | (with_reducible refine Gx.gx ?_) | (with_reducible refine Gx.alloc ?_) | (with_reducible refine Gx.drew ?_) | (with_reducible refine Gx.drewN ?_) | (with_reducible refine Gx.setRow ?_ (by first | omega | (simp; done) | (simp <;> omega))) | (with_reducible refine Gx.setCell ?_ (by first | omega | (simp; done) | (simp <;> omega)))))⟩
              | false =>
                cases e7 : (s.toList == [102, 97, 108, 115, 101]) with
                | true =>
                  have HC : Hid (B = true) := Lib.hid (by rw [HB.out, e0, e1, e2, e3, e4, e5, e6, e7]; simp)
                  rw [beq_sym] at e0
                  rw [beq_sym] at e1
                  rw [beq_sym] at e2
                  rw [beq_sym] at e3
                  rw [beq_sym] at e4
                  rw [beq_sym] at e5
                  rw [beq_sym] at e6
                  rw [beq_sym] at e7
                  go_enter Try.func26, Try.ntmps26
                  go_wp2_with (go_at_call 44; refine (words_any _).mono ?_; rintro e w' ⟨rfl, rfl⟩)
                  refine wp_loop_rounds 17 ?_
                  rw [rounds_succ]
                  go_wp2
                  rw [rounds_succ]
                  go_wp2
                  rw [rounds_succ]
                  go_wp2
                  rw [rounds_succ]
                  go_wp2
                  rw [rounds_succ]
                  go_wp2
                  rw [rounds_succ]
                  go_wp2
                  rw [rounds_succ]
                  go_wp2
                  rw [rounds_succ]
                  go_wp2
                  go_ret
                  exact ⟨by rw [HC.out]; rfl, (by repeat (first | (with_reducible exact Gx.refl _) | (with_reducible assumption) | (with_reducible refine Gx.gx ?_) | (with_reducible refine Gx.alloc ?_) | (with_reducible refine Gx.drew ?_) | (with_reducible refine Gx.drewN ?_) | (with_reducible refine Gx.setRow ?_ (by first | omega | (simp; done) | (simp <;> omega))) | (with_reducible refine Gx.setCell ?_ (by first | omega | (simp; done) | (simp <;> omega)))))⟩
                | false =>
                  cases e8 : (s.toList == [115, 116, 101, 97, 100, 121]) with
                  | true =>
                    have HC : Hid (B = true) := Lib.hid (by rw [HB.out, e0, e1, e2, e3, e4, e5, e6, e7, e8]; simp)
                    rw [beq_sym] at e0
                    rw [beq_sym] at e1
                    rw [beq_sym] at e2
                    rw [beq_sym] at e3
                    rw [beq_sym] at e4
                    rw [beq_sym] at e5
                    rw [beq_sym] at e6
                    rw [beq_sym] at e7
                    rw [beq_sym] at e8
                    go_enter Try.func26, Try.ntmps26
                    go_wp2_with (go_at_call 44; refine (words_any _).mono ?_; rintro e w' ⟨rfl, rfl⟩)
                    refine wp_loop_rounds 17 ?_
                    rw [rounds_succ]
                    go_wp2
                    rw [rounds_succ]
                    go_wp2
                    rw [rounds_succ]
                    go_wp2
                    rw [rounds_succ]
                    go_wp2
                    rw [rounds_succ]
                    go_wp2
                    rw [rounds_succ]
                    go_wp2
                    rw [rounds_succ]
                    go_wp2
                    rw [rounds_succ]
                    go_wp2
                    rw [rounds_succ]
                    go_wp2
                    go_ret
                    exact ⟨by rw [HC.out]; rfl, (by repeat (first | (with_reducible exact Gx.refl _) | (with_reducible assumption) | (with_reducible refine Gx.gx ?_) | (with_reducible refine Gx.alloc ?_) | (with_reducible refine Gx.drew ?_) | (with_reducible refine Gx.drewN ?_) | (with_reducible refine Gx.setRow ?_ (by first | omega | (simp; done) | (simp <;> omega))) | (with_reducible refine Gx.setCell ?_ (by first | omega | (simp; done) | (simp <;> omega)))))⟩
                  | false =>
                    cases e9 : (s.toList == [110, 111, 116]) with
                    | true =>
                      have HC : Hid (B = true) := Lib.hid (by rw [HB.out, e0, e1, e2, e3, e4, e5, e6, e7, e8, e9]; simp)
                      rw [beq_sym] at e0
                      rw [beq_sym] at e1
                      rw [beq_sym] at e2
                      rw [beq_sym] at e3
                      rw [beq_sym] at e4
                      rw [beq_sym] at e5
                      rw [beq_sym] at e6
                      rw [beq_sym] at e7
                      rw [beq_sym] at e8
                      rw [beq_sym] at e9
                      go_enter Try.func26, Try.ntmps26
                      go_wp2_with (go_at_call 44; refine (words_any _).mono ?_; rintro e w' ⟨rfl, rfl⟩)
                      refine wp_loop_rounds 17 ?_
                      rw [rounds_succ]
                      go_wp2
                      rw [rounds_succ]
                      go_wp2
                      rw [rounds_succ]
                      go_wp2
                      rw [rounds_succ]
                      go_wp2
                      rw [rounds_succ]
                      go_wp2
                      rw [rounds_succ]
                      go_wp2
                      rw [rounds_succ]
                      go_wp2
                      rw [rounds_succ]
                      go_wp2
                      rw [rounds_succ]
                      go_wp2
                      rw [rounds_succ]
                      go_wp2
                      go_ret
                      exact ⟨by rw [HC.out]; rfl, (by repeat (first | (with_reducible exact Gx.refl _) | (with_reducible assumption) | (with_reducible refine Gx.gx ?_) | (with_reducible refine Gx.alloc ?_) | (with_reducible refine Gx.drew ?_) | (with_reducible refine Gx.drewN ?_) | (with_reducible refine Gx.setRow ?_ (by first | omega | (simp; done) | (simp <;> omega))) | (with_reducible refine Gx.setCell ?_ (by first | omega | (simp; done) | (simp <;> omega)))))⟩
                    | false =>
                      cases e10 : (s.toList == [102, 111, 114]) with
                      | true =>
                        have HC : Hid (B = true) := Lib.hid (by rw [HB.out, e0, e1, e2, e3, e4, e5, e6, e7, e8, e9, e10]; simp)
                        rw [beq_sym] at e0
                        rw [beq_sym] at e1
                        rw [beq_sym] at e2
                        rw [beq_sym] at e3
                        rw [beq_sym] at e4
                        rw [beq_sym] at e5
                        rw [beq_sym] at e6
                        rw [beq_sym] at e7
                        rw [beq_sym] at e8
                        rw [beq_sym] at e9
                        rw [beq_sym] at e10
                        go_enter Try.func26, Try.ntmps26
                        go_wp2_with (go_at_call 44; refine (words_any _).mono ?_; rintro e w' ⟨rfl, rfl⟩)
                        refine wp_loop_rounds 17 ?_
                        rw [rounds_succ]
                        go_wp2
                        rw [rounds_succ]
                        go_wp2
                        rw [rounds_succ]
                        go_wp2
                        rw [rounds_succ]
                        go_wp2
                        rw [rounds_succ]
                        go_wp2
                        rw [rounds_succ]
                        go_wp2
                        rw [rounds_succ]
                        go_wp2
                        rw [rounds_succ]
                        go_wp2
                        rw [rounds_succ]
                        go_wp2
                        rw [rounds_succ]
                        go_wp2
                        rw [rounds_succ]
                        go_wp2
                        go_ret
                        exact ⟨by rw [HC.out]; rfl, (by repeat (first | (with_reducible exact Gx.refl _) | (with_reducible assumption) | (with_reducible refine Gx.gx ?_) | (with_reducible refine Gx.alloc ?_) | (with_reducible refine Gx.drew ?_) | (with_reducible refine Gx.drewN ?_) | (with_reducible refine Gx.setRow ?_ (by first | omega | (simp; done) | (simp <;> omega))) | (with_reducible refine Gx.setCell ?_ (by first | omega | (simp; done) | (simp <;> omega)))))⟩
                      | false =>
                        cases e11 : (s.toList == [119, 105, 116, 104, 105, 110]) with
                        | true =>
                          have HC : Hid (B = true) := Lib.hid (by rw [HB.out, e0, e1, e2, e3, e4, e5, e6, e7, e8, e9, e10, e11]; simp)
                          rw [beq_sym] at e0
                          rw [beq_sym] at e1
                          rw [beq_sym] at e2
                          rw [beq_sym] at e3
                          rw [beq_sym] at e4
                          rw [beq_sym] at e5
                          rw [beq_sym] at e6
                          rw [beq_sym] at e7
                          rw [beq_sym] at e8
                          rw [beq_sym] at e9
                          rw [beq_sym] at e10
                          rw [beq_sym] at e11
                          go_enter Try.func26, Try.ntmps26
                          go_wp2_with (go_at_call 44; refine (words_any _).mono ?_; rintro e w' ⟨rfl, rfl⟩)
                          refine wp_loop_rounds 17 ?_
                          rw [rounds_succ]
                          go_wp2
                          rw [rounds_succ]
                          go_wp2
                          rw [rounds_succ]
                          go_wp2
                          rw [rounds_succ]
                          go_wp2
                          rw [rounds_succ]
                          go_wp2
                          rw [rounds_succ]
                          go_wp2
                          rw [rounds_succ]
                          go_wp2
                          rw [rounds_succ]
                          go_wp2
                          rw [rounds_succ]
                          go_wp2
                          rw [rounds_succ]
                          go_wp2
                          rw [rounds_succ]
                          go_wp2
                          rw [rounds_succ]
                          go_wp2
                          go_ret
                          exact ⟨by rw [HC.out]; rfl, (by repeat (first | (with_reducible exact Gx.refl _) | (with_reducible assumption) | (with_reducible refine Gx.gx ?_) | (with_reducible refine Gx.alloc ?_) | (with_reducible refine Gx.drew ?_) | (with_reducible refine Gx.drewN ?_) | (with_reducible refine Gx.setRow ?_ (by first | omega | (simp; done) | (simp <;> omega))) | (with_reducible refine Gx.setCell ?_ (by first | omega | (simp; done) | (simp <;> omega)))))⟩
                        | false =>
                          cases e12 : (s.toList == [99, 111, 117, 110, 116]) with
                          | true =>
                            have HC : Hid (B = true) := Lib.hid (by rw [HB.out, e0, e1, e2, e3, e4, e5, e6, e7, e8, e9, e10, e11, e12]; simp)
                            rw [beq_sym] at e0
                            rw [beq_sym] at e1
                            rw [beq_sym] at e2
                            rw [beq_sym] at e3
                            rw [beq_sym] at e4
                            rw [beq_sym] at e5
                            rw [beq_sym] at e6
                            rw [beq_sym] at e7
                            rw [beq_sym] at e8
                            rw [beq_sym] at e9
                            rw [beq_sym] at e10
                            rw [beq_sym] at e11
                            rw [beq_sym] at e12
                            go_enter Try.func26, Try.ntmps26
                            go_wp2_with (go_at_call 44; refine (words_any _).mono ?_; rintro e w' ⟨rfl, rfl⟩)
                            refine wp_loop_rounds 17 ?_
                            rw [rounds_succ]
                            go_wp2
                            rw [rounds_succ]
                            go_wp2
                            rw [rounds_succ]
                            go_wp2
                            rw [rounds_succ]
                            go_wp2
                            rw [rounds_succ]
                            go_wp2
                            rw [rounds_succ]
                            go_wp2
                            rw [rounds_succ]
                            go_wp2
                            rw [rounds_succ]
                            go_wp2
                            rw [rounds_succ]
                            go_wp2
                            rw [rounds_succ]
                            go_wp2
                            rw [rounds_succ]
                            go_wp2
                            rw [rounds_succ]
                            go_wp2
                            rw [rounds_succ]
                            go_wp2
                            go_ret
                            exact ⟨by rw [HC.out]; rfl, (by repeat (first | (with_reducible exact Gx.refl _) | (with_reducible assumption) | (with_reducible refine Gx.gx ?_) | (with_reducible refine Gx.alloc ?_) | (with_reducible refine Gx.drew ?_) | (with_reducible refine Gx.drewN ?_) | (with_reducible refine Gx.setRow ?_ (by first | omega | (simp; done) | (simp <;> omega))) | (with_reducible refine Gx.setCell ?_ (by first | omega | (simp; done) | (simp <;> omega)))))⟩
                          | false =>
                            cases e13 : (s.toList == [111, 102]) with
                            | true =>
                              have HC : Hid (B = true) := Lib.hid (by rw [HB.out, e0, e1, e2, e3, e4, e5, e6, e7, e8, e9, e10, e11, e12, e13]; simp)
                              rw [beq_sym] at e0
                              rw [beq_sym] at e1
                              rw [beq_sym] at e2
                              rw [beq_sym] at e3
                              rw [beq_sym] at e4
                              rw [beq_sym] at e5
                              rw [beq_sym] at e6
                              rw [beq_sym] at e7
                              rw [beq_sym] at e8
                              rw [beq_sym] at e9
                              rw [beq_sym] at e10
                              rw [beq_sym] at e11
                              rw [beq_sym] at e12
                              rw [beq_sym] at e13
                              go_enter Try.func26, Try.ntmps26
                              go_wp2_with (go_at_call 44; refine (words_any _).mono ?_; rintro e w' ⟨rfl, rfl⟩)
                              refine wp_loop_rounds 17 ?_
                              rw [rounds_succ]
                              go_wp2
                              rw [rounds_succ]
                              go_wp2
                              rw [rounds_succ]
                              go_wp2
                              rw [rounds_succ]
                              go_wp2
                              rw [rounds_succ]
                              go_wp2
                              rw [rounds_succ]
                              go_wp2
                              rw [rounds_succ]
                              go_wp2
                              rw [rounds_succ]
                              go_wp2
                              rw [rounds_succ]
                              go_wp2
                              rw [rounds_succ]
                              go_wp2
                              rw [rounds_succ]
                              go_wp2
                              rw [rounds_succ]
                              go_wp2
                              rw [rounds_succ]
                              go_wp2
                              rw [rounds_succ]
                              go_wp2
                              go_ret
                              exact ⟨by rw [HC.out]; rfl, (by repeat (first | (with_reducible exact Gx.refl _) | (with_reducible assumption) | (with_reducible refine Gx.gx ?_) | (with_reducible refine Gx.alloc ?_) | (with_reducible refine Gx.drew ?_) | (with_reducible refine Gx.drewN ?_) | (with_reducible refine Gx.setRow ?_ (by first | omega | (simp; done) | (simp <;> omega))) | (with_reducible refine Gx.setCell ?_ (by first | omega | (simp; done) | (simp <;> omega)))))⟩
                            | false =>
                              cases e14 : (s.toList == [114, 105, 115, 101, 115]) with
                              | true =>
                                have HC : Hid (B = true) := Lib.hid (by rw [HB.out, e0, e1, e2, e3, e4, e5, e6, e7, e8, e9, e10, e11, e12, e13, e14]; simp)
                                rw [beq_sym] at e0
                                rw [beq_sym] at e1
                                rw [beq_sym] at e2
                                rw [beq_sym] at e3
                                rw [beq_sym] at e4
                                rw [beq_sym] at e5
                                rw [beq_sym] at e6
                                rw [beq_sym] at e7
                                rw [beq_sym] at e8
                                rw [beq_sym] at e9
                                rw [beq_sym] at e10
                                rw [beq_sym] at e11
                                rw [beq_sym] at e12
                                rw [beq_sym] at e13
                                rw [beq_sym] at e14
                                go_enter Try.func26, Try.ntmps26
                                go_wp2_with (go_at_call 44; refine (words_any _).mono ?_; rintro e w' ⟨rfl, rfl⟩)
                                refine wp_loop_rounds 17 ?_
                                rw [rounds_succ]
                                go_wp2
                                rw [rounds_succ]
                                go_wp2
                                rw [rounds_succ]
                                go_wp2
                                rw [rounds_succ]
                                go_wp2
                                rw [rounds_succ]
                                go_wp2
                                rw [rounds_succ]
                                go_wp2
                                rw [rounds_succ]
                                go_wp2
                                rw [rounds_succ]
                                go_wp2
                                rw [rounds_succ]
                                go_wp2
                                rw [rounds_succ]
                                go_wp2
                                rw [rounds_succ]
                                go_wp2
                                rw [rounds_succ]
                                go_wp2
                                rw [rounds_succ]
                                go_wp2
                                rw [rounds_succ]
                                go_wp2
                                rw [rounds_succ]
                                go_wp2
                                go_ret
                                exact ⟨by rw [HC.out]; rfl, (by repeat (first | (with_reducible exact Gx.refl _) | (with_reducible assumption) | (with_reducible refine Gx.gx ?_) | (with_reducible refine Gx.alloc ?_) | (with_reducible refine Gx.drew ?_) | (with_reducible refine Gx.drewN ?_) | (with_reducible refine Gx.setRow ?_ (by first | omega | (simp; done) | (simp <;> omega))) | (with_reducible refine Gx.setCell ?_ (by first | omega | (simp; done) | (simp <;> omega)))))⟩
                              | false =>
                                cases e15 : (s.toList == [115, 105, 110, 99, 101]) with
                                | true =>
                                  have HC : Hid (B = true) := Lib.hid (by rw [HB.out, e0, e1, e2, e3, e4, e5, e6, e7, e8, e9, e10, e11, e12, e13, e14, e15]; simp)
                                  rw [beq_sym] at e0
                                  rw [beq_sym] at e1
                                  rw [beq_sym] at e2
                                  rw [beq_sym] at e3
                                  rw [beq_sym] at e4
                                  rw [beq_sym] at e5
                                  rw [beq_sym] at e6
                                  rw [beq_sym] at e7
                                  rw [beq_sym] at e8
                                  rw [beq_sym] at e9
                                  rw [beq_sym] at e10
                                  rw [beq_sym] at e11
                                  rw [beq_sym] at e12
                                  rw [beq_sym] at e13
                                  rw [beq_sym] at e14
                                  rw [beq_sym] at e15
                                  go_enter Try.func26, Try.ntmps26
                                  go_wp2_with (go_at_call 44; refine (words_any _).mono ?_; rintro e w' ⟨rfl, rfl⟩)
                                  refine wp_loop_rounds 17 ?_
                                  rw [rounds_succ]
                                  go_wp2
                                  rw [rounds_succ]
                                  go_wp2
                                  rw [rounds_succ]
                                  go_wp2
                                  rw [rounds_succ]
                                  go_wp2
                                  rw [rounds_succ]
                                  go_wp2
                                  rw [rounds_succ]
                                  go_wp2
                                  rw [rounds_succ]
                                  go_wp2
                                  rw [rounds_succ]
                                  go_wp2
                                  rw [rounds_succ]
                                  go_wp2
                                  rw [rounds_succ]
                                  go_wp2
                                  rw [rounds_succ]
                                  go_wp2
                                  rw [rounds_succ]
                                  go_wp2
                                  rw [rounds_succ]
                                  go_wp2
                                  rw [rounds_succ]
                                  go_wp2
                                  rw [rounds_succ]
                                  go_wp2
                                  rw [rounds_succ]
                                  go_wp2
                                  go_ret
                                  exact ⟨by rw [HC.out]; rfl, (by repeat (first | (with_reducible exact Gx.refl _) | (with_reducible assumption) | (with_reducible refine Gx.gx ?_) | (with_reducible refine Gx.alloc ?_) | (with_reducible refine Gx.drew ?_) | (with_reducible refine Gx.drewN ?_) | (with_reducible refine Gx.setRow ?_ (by first | omega | (simp; done) | (simp <;> omega))) | (with_reducible refine Gx.setCell ?_ (by first | omega | (simp; done) | (simp <;> omega)))))⟩
                                | false =>
                                  have HC : Hid (B = false) := Lib.hid (by rw [HB.out, e0, e1, e2, e3, e4, e5, e6, e7, e8, e9, e10, e11, e12, e13, e14, e15]; rfl)
                                  rw [beq_sym] at e0
                                  rw [beq_sym] at e1
                                  rw [beq_sym] at e2
                                  rw [beq_sym] at e3
                                  rw [beq_sym] at e4
                                  rw [beq_sym] at e5
                                  rw [beq_sym] at e6
                                  rw [beq_sym] at e7
                                  rw [beq_sym] at e8
                                  rw [beq_sym] at e9
                                  rw [beq_sym] at e10
                                  rw [beq_sym] at e11
                                  rw [beq_sym] at e12
                                  rw [beq_sym] at e13
                                  rw [beq_sym] at e14
                                  rw [beq_sym] at e15
                                  go_enter Try.func26, Try.ntmps26
                                  go_wp2_with (go_at_call 44; refine (words_any _).mono ?_; rintro e w' ⟨rfl, rfl⟩)
                                  refine wp_loop_rounds 17 ?_
                                  rw [rounds_succ]
                                  go_wp2
                                  rw [rounds_succ]
                                  go_wp2
                                  rw [rounds_succ]
                                  go_wp2
                                  rw [rounds_succ]
                                  go_wp2
                                  rw [rounds_succ]
                                  go_wp2
                                  rw [rounds_succ]
                                  go_wp2
                                  rw [rounds_succ]
                                  go_wp2
                                  rw [rounds_succ]
                                  go_wp2
                                  rw [rounds_succ]
                                  go_wp2
                                  rw [rounds_succ]
                                  go_wp2
                                  rw [rounds_succ]
                                  go_wp2
                                  rw [rounds_succ]
                                  go_wp2
                                  rw [rounds_succ]
                                  go_wp2
                                  rw [rounds_succ]
                                  go_wp2
                                  rw [rounds_succ]
                                  go_wp2
                                  rw [rounds_succ]
                                  go_wp2
                                  rw [rounds_succ]
                                  go_wp2
                                  go_ret
                                  exact ⟨by rw [HC.out]; rfl, (by repeat (first | (with_reducible exact Gx.refl _) | (with_reducible assumption) | (with_reducible refine Gx.gx ?_) | (with_reducible refine Gx.alloc ?_) | (with_reducible refine Gx.drew ?_) | (with_reducible refine Gx.drewN ?_) | (with_reducible refine Gx.setRow ?_ (by first | omega | (simp; done) | (simp <;> omega))) | (with_reducible refine Gx.setCell ?_ (by first | omega | (simp; done) | (simp <;> omega)))))⟩
end Go.Proofs.Ytfbhjgaiejjfaaa
