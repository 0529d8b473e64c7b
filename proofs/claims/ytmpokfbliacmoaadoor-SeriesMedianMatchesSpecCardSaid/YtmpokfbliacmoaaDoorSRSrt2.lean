/-
  Sorted of the reference: the walk.
-/
import Derived.Test.YtmpokfbliacmoaaDoorSRSrt
namespace Go.Proofs.YtmpokfbliacmoaaDoor
open Go.RowKit
-- AT2
-- AT3

theorem own_int {b : Nat} {W : World} {A : Option Addr} {c : Nat} {zs : List Int} {n : Nat} (hn : n = zs.length) (h : Own b W 3 1 (.slice A n c) n (iC zs)) (h0 : 0 < n) : ∃ gM, A = some ⟨gM, 0, none⟩ ∧ b ≤ gM ∧ Is W gM 3 ∧ ∀ k, k < zs.length → W.cell? ⟨gM, k, none⟩ = some (.int .i64 (zs.getD k 0)) := by
  obtain ⟨A', c', e, _, _, _, hsh⟩ := h.is
  injection e with e1 e2 e3
  subst e1
  rcases h.out.2 with ⟨e, h1⟩ | ⟨g', cap, cur, e, hb, hg, _⟩
  · omega
  · simp only [Value.slice.injEq] at e
    obtain ⟨rfl, -, -⟩ := e
    unfold Shows at hsh
    obtain ⟨gS, o, eg, hc⟩ := hsh (by rw [iC_len]; omega)
    simp only [Option.some.injEq, Addr.mk.injEq] at eg
    obtain ⟨rfl, rfl, -⟩ := eg
    refine ⟨g', rfl, hb, ⟨_, hg⟩, fun k hk => ?_⟩
    have := hc k _ (iC_at hk)
    rwa [Nat.zero_add] at this
set_option maxHeartbeats 8000000 in
set_option maxRecDepth 100000 in
theorem RSorted_any (zs : List Int) (A : Option Addr) (c n : Nat) (hnz : n = zs.length) (w : World) (hsh : Shows (iC zs) A w) (hA : A = none → n = 0 ∧ c = 0) (hn : n ≤ 20000) :
    Calls Tryd.prog 19 #[.slice A n c] w fun e w' => ∃ A' c', e = .returned (.slice A' n c') ∧ (∃ x, w' = gx w x) ∧ (0 < n → ∃ gM, A' = some ⟨gM, 0, none⟩ ∧ IntSt w w' gM (srt zs)) := by
  have hlen : (iC zs).length = n * 1 := by rw [iC_len]; omega
  have HNz := Lib.hid hnz
  clear hnz
  go_enter Tryd.func19, Tryd.ntmps19
  go_wp2_with (at_builtin; (with_reducible apply append_all (o := ⟨some 7, _, _, _, _, _⟩) el_int w w.heap.size (v := .slice none 0 0) (n := 0) (xs := []) (A := A) (m := n) (c := c) (news := iC zs)); go_loud (exact rfl; exact rfl; exact rfl; exact rfl; exact hA; (focus omega); exact Own.nil _ _ _ _; exact (by repeat (first | (with_reducible exact Gx.refl _) | (with_reducible assumption) | (with_reducible refine Gx.gx ?_) | (with_reducible refine Gx.alloc ?_) | (with_reducible refine Gx.drew ?_) | (with_reducible refine Gx.drewN ?_) | (with_reducible refine Gx.setRow ?_ (by first | omega | (simp; done) | (simp <;> omega))) | (with_reducible refine Gx.setCell ?_ (by first | omega | (simp; done) | (simp <;> omega))))); (focus (simp <;> omega)); exact hlen; exact hsh; exact iC_one zs; (focus (simp only [maxLen]; omega)); (focus omega); rintro v' W3 hG3 hO3 hg3; obtain ⟨A3, c3, rfl, -⟩ := hO3.is; rw [Nat.zero_add, List.nil_append] at hO3))
  rcases Nat.eq_zero_or_pos n with h0 | h0
  · subst h0
    clear hO3 hg3
    go_loopw [4] (fun i wr => i = .int .i64 1 ∧ wr = W3) (fun _ _ => 0)
    case atStart => exact ⟨rfl, rfl⟩
    case round =>
      obtain ⟨rfl, rfl⟩ := hrel
      go_wp2
      go_ret
      first
        | exact ⟨⟨A3, c3, rfl⟩, hG3⟩
        | exact ⟨A3, c3, rfl, hG3, fun h => by omega⟩
  · obtain ⟨gM, rfl, hb, hI, hc⟩ := own_int HNz.out hO3 h0
    have HI := Lib.hid (show IntSt w W3 gM zs from ⟨hG3, hb, hI, hc⟩)
    clear hO3 hg3 hI hc hb hG3 hsh hA hlen
    go_loopw [4] (fun i wr => ∃ (i0 : Nat) (xs : List Int), 1 ≤ i0 ∧ i0 ≤ n ∧ i = .int .i64 i0 ∧ Hid (xs.Perm zs) ∧ Hid (∀ a b, a < b → b < i0 → xs.getD a 0 ≤ xs.getD b 0) ∧ IntSt w wr gM xs) (fun i _ => n - (intOf i).toNat)
    case atStart => exact ⟨1, zs, Nat.le_refl _, h0, rfl, List.Perm.refl _, fun a b h1 h2 => by omega, HI.out⟩
    case round =>
      obtain ⟨i0, xs, hi1, hin, rfl, hp, hso, hst⟩ := hrel
      have HS := Lib.hid hst
      by_cases hlt : i0 < n
      · have hiz : (i0 : Int) < (n : Int) := by omega
        have H0 := Lib.hid (InsAt.start hp.out hso.out)
        clear hst
        go_wp2
        go_loopw [5] (fun k wr => ∃ (k0 : Nat) (ys : List Int), k = .int .i64 k0 ∧ Hid (InsAt zs ys i0 k0) ∧ IntSt w wr gM ys) (fun k _ => (intOf k).toNat)
        case atStart => exact ⟨i0, xs, rfl, H0.out, HS.out⟩
        case round =>
          obtain ⟨k0, ys, rfl, hins, hst2⟩ := hrel
          have hyl : ys.length = n := by rw [HNz.out]; exact hins.out.perm.length_eq
          have hkl := hins.out.low
          cases k0 with
          | zero =>
            have HF := Lib.hid (hins.out.fin (.inl rfl))
            have HP := Lib.hid hins.out.perm
            have HS2 := Lib.hid hst2
            clear hst2 hins HS H0
            go_wp2
            go_quiet (fail)
            go_wp2
            go_roundw
            case rel => exact ⟨i0 + 1, ys, by omega, by omega, by go_num, HP.out, HF.out, by have h := HS2.out; first | exact h.drewN | exact h.drew | exact h⟩
            case measure => simp [intOf]; omega
          | succ k =>
            have c1 := hst2.cells (k + 1) (by omega)
            have c0 := hst2.cells k (by omega)
            have f0 : wr.frozen? ⟨gM, k, none⟩ = false := by obtain ⟨cs, h⟩ := hst2.is; exact h.frz
            have f1 : wr.frozen? ⟨gM, k + 1, none⟩ = false := by obtain ⟨cs, h⟩ := hst2.is; exact h.frz
            have lM : gM < wr.heap.size := World.block_lt_of_cell? wr _ c0
            have e1 : IntKind.i64.wrap ((k : Int) + 1 - 1) = (k : Int) := by rw [IntKind.wrap_i64]; omega
            have e0 : IntKind.i64.wrap (k : Int) = (k : Int) := by rw [IntKind.wrap_i64]; omega
            have z1 : (k : Int) + 1 < (n : Int) := by omega
            have z0 : (k : Int) < (n : Int) := by omega
            have z2 : (0 : Int) ≤ (k : Int) := by omega
            have z3 : (0 : Int) ≤ (k : Int) + 1 := by omega
            have z4 : (0 : Int) < (k : Int) + 1 := by omega
            have HS2 := Lib.hid hst2
            by_cases hc : ys.getD (k + 1) 0 < ys.getD k 0
            · have hd : decide (ys.getD (k + 1) 0 < ys.getD k 0) = true := decide_eq_true hc
              have HD := Lib.hid (hins.out.down (by omega) hc)
              have HSw := Lib.hid (hst2.swap (i := k + 1) (j := k) (a := ys.getD k 0) (b := ys.getD (k + 1) 0) (by omega) (by omega))
              clear hst2 hins HS H0 hc
              generalize ys.getD (k + 1) 0 = a1 at *
              generalize ys.getD k 0 = a0 at *
              go_wp2
              go_quiet (fail)
              go_wp2
              go_region
              all_goals go_wp2
              all_goals go_roundw
              all_goals first
                | exact ⟨k, _, by first | rfl | go_num, HD.out, by have h := HSw.out; first | exact h | exact h.drew | exact h.drewN | exact h.drewN.drew⟩
                | (simp [intOf] <;> omega)
            · have hd : decide (ys.getD (k + 1) 0 < ys.getD k 0) = false := decide_eq_false hc
              have HF := Lib.hid (hins.out.fin (.inr ⟨k, rfl, by omega⟩))
              have HP := Lib.hid hins.out.perm
              clear hst2 hins HS H0 hc
              generalize hg1 : ys.getD (k + 1) 0 = a1 at *
              generalize hg0 : ys.getD k 0 = a0 at *
              clear hg1 hg0
              go_wp2
              go_quiet (fail)
              go_wp2
              go_roundw
              case rel => exact ⟨i0 + 1, ys, by omega, by omega, by go_num, HP.out, HF.out, by have h := HS2.out; first | exact h.drewN | exact h.drew | exact h⟩
              case measure => simp [intOf]; omega
      · obtain rfl : i0 = n := by omega
        have hxl : xs.length = i0 := by rw [HNz.out]; exact hp.out.length_eq
        have HR := Lib.hid (sorted_of hp.out (fun a b h1 h2 => hso.out a b h1 (by omega)))
        clear hst hp hso
        go_wp2
        go_ret
        exact ⟨_, c3, rfl, HS.out.grew, fun _ => ⟨gM, rfl, by rw [← HR.out]; exact HS.out⟩⟩
end Go.Proofs.YtmpokfbliacmoaaDoor
