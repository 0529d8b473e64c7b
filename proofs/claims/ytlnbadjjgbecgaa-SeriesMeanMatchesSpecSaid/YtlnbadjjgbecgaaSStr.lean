/-
  stretches of the program: what is held between two times.
-/
import Derived.Test.YtlnbadjjgbecgaaSMnP
import Derived.Test.YtlnbadjjgbecgaaSLess
import Derived.Test.YtlnbadjjgbecgaaSRHeld
import Derived.BigRegion
namespace Go.Proofs.Ytlnbadjjgbecgaa
open Go.RowKit
-- AT2
-- AT3

/-- The cells of stretches. -/
def mnC (L : List (Int × Nat)) : List Value := L.flatMap fun x => [.int .i64 x.1, .int .i64 (x.2 : Int)]
theorem mnC_len : ∀ L : List (Int × Nat), (mnC L).length = L.length * 2
  | [] => rfl
  | x :: L => by
    have := mnC_len L
    unfold mnC at *
    rw [List.flatMap_cons, List.length_append, this]
    simp; omega
theorem mnC_app (L : List (Int × Nat)) (x : Int × Nat) : mnC (L ++ [x]) = mnC L ++ [.int .i64 x.1, .int .i64 (x.2 : Int)] := by
  unfold mnC
  rw [List.flatMap_append]
  simp
theorem mnC_at : ∀ (L : List (Int × Nat)) k (h : k < L.length), (mnC L)[k * 2]? = some (.int .i64 (L.get ⟨k, h⟩).1) ∧ (mnC L)[k * 2 + 1]? = some (.int .i64 ((L.get ⟨k, h⟩).2 : Int))
  | [], k, h => absurd h (by simp)
  | i :: L, 0, _ => ⟨rfl, rfl⟩
  | i :: L, k + 1, h => by
    obtain ⟨e1, e2⟩ := mnC_at L k (by simpa using h)
    have hc : mnC (i :: L) = [.int .i64 i.1, .int .i64 (i.2 : Int)] ++ mnC L := rfl
    rw [hc, List.getElem?_append_right (by simp; omega), List.getElem?_append_right (by simp; omega)]
    rw [show (k + 1) * 2 - _ = k * 2 from by simp; omega, show (k + 1) * 2 + 1 - _ = k * 2 + 1 from by simp; omega]
    exact ⟨e1, e2⟩
theorem el_str : Elem 55 58 2 16 := elem_of Try.underlying55 (by decide) (z := .agg #[.int .i64 0, .int .i64 0]) (by kernel_rfl) rfl
set_option maxHeartbeats 4000000 in
set_option maxRecDepth 100000 in
theorem stretches_any (g : Nat → Sm) (n c : Nat) (A : Option Addr) (fr to lg : Int) (w : World) (hL : SmAt w g n A) (hn : n ≤ 20000) (hG : GoodS g n) (hf : 0 ≤ fr ∧ fr ≤ 1099511627776) (ht : 0 ≤ to ∧ to ≤ 1099511627776) (hl : 0 ≤ lg ∧ lg ≤ 1099511627776) :
    Calls Try.prog 25 #[.slice A n c, .int .i64 fr, .int .i64 to, .int .i64 lg] w fun e w' => ∃ A' c' x, e = .returned (.slice A' (mnL g n fr to lg n).length c') ∧ w' = gx w x ∧ Own w.heap.size w' 58 2 (.slice A' (mnL g n fr to lg n).length c') (mnL g n fr to lg n).length (mnC (mnL g n fr to lg n)) := by
  go_enter Try.func25, Try.ntmps25
  go_wp2
  go_loopw [16, 9] (fun i s wr => ∃ (k : Nat) (A1 : Option Addr) (c1 : Nat), k ≤ n ∧ i = .int .i64 k ∧ s = .slice A1 (mnL g n fr to lg k).length c1 ∧ (∃ x, wr = gx w x) ∧ Own w.heap.size wr 58 2 (.slice A1 (mnL g n fr to lg k).length c1) (mnL g n fr to lg k).length (mnC (mnL g n fr to lg k))) (fun i _ _ => n - (intOf i).toNat)
  case atStart => exact ⟨0, none, 0, Nat.zero_le _, rfl, rfl, (by repeat (first | (with_reducible exact Gx.refl _) | (with_reducible assumption) | (with_reducible refine Gx.gx ?_) | (with_reducible refine Gx.alloc ?_) | (with_reducible refine Gx.drew ?_) | (with_reducible refine Gx.drewN ?_) | (with_reducible refine Gx.setRow ?_ (by first | omega | (simp; done) | (simp <;> omega))) | (with_reducible refine Gx.setCell ?_ (by first | omega | (simp; done) | (simp <;> omega))))), Own.nil _ _ _ _⟩
  case round =>
    obtain ⟨k, A1, c1, hk, rfl, rfl, hG', hO⟩ := hrel
    by_cases hlt : k < n
    · have hkz : (k : Int) < (n : Int) := by omega
      obtain ⟨b, o, rfl, hbw, HCs⟩ := hL.get (by omega)
      obtain ⟨s2, s3, s4⟩ := HCs.out k hlt
      obtain ⟨x, hx⟩ := id hG'
      have d1 : wr.cell? ⟨b, o + k * 3, none⟩ = some (.int .i64 (g k).t) := by rw [hx]; exact cell_keep_gx s2
      have d2 : wr.cell? ⟨b, o + k * 3 + 1, none⟩ = some (.int .i64 (g k).n) := by rw [hx]; exact cell_keep_gx s3
      have d3 : wr.cell? ⟨b, o + k * 3 + 2, none⟩ = some (.int .i64 (g k).m) := by rw [hx]; exact cell_keep_gx s4
      have hb0 : b < wr.heap.size := World.block_lt_of_cell? wr _ d1
      have hq := mnL_len g n fr to lg k
      have hwr : w.heap.size ≤ wr.heap.size := by rw [hx, size_gx]; omega
      have HO := Lib.hid hO
      have HG := Lib.hid hG'
      have hok := hG.ok k hlt
      unfold smOk at hok
      obtain ⟨o1, o2, o3, o4, o5, o6⟩ := hok
      by_cases h1 : k + 1 < n
      · skip
        have hkz1 : (k : Int) + 1 < (n : Int) := by omega
        have dn : wr.cell? ⟨b, o + (k + 1) * 3, none⟩ = some (.int .i64 (g (k + 1)).t) := by rw [hx]; exact cell_keep_gx (HCs.out (k + 1) h1).1
        have hok2 := hG.ok (k + 1) h1
        unfold smOk at hok2
        have eW : mnW g n fr to lg k = (min to (min ((g k).t + lg + 1) (g (k + 1)).t)) - max fr (g k).t := by unfold mnW; rw [if_pos h1]; omega
        by_cases h3 : 3 ≤ (g k).m
        · have p3 : decide (3 ≤ (g k).m) = true := decide_eq_true h3
          by_cases hw : max fr (g k).t < (min to (min ((g k).t + lg + 1) (g (k + 1)).t))
          · have pw : decide (max fr (g k).t < (min to (min ((g k).t + lg + 1) (g (k + 1)).t))) = true := decide_eq_true hw
            obtain ⟨K, hK⟩ : ∃ K : Nat, (min to (min ((g k).t + lg + 1) (g (k + 1)).t)) - max fr (g k).t = (K : Int) := ⟨((min to (min ((g k).t + lg + 1) (g (k + 1)).t)) - max fr (g k).t).toNat, by omega⟩
            have e9 : IntKind.i64.wrap ((min to (min ((g k).t + lg + 1) (g (k + 1)).t)) - max fr (g k).t) = (K : Int) := by rw [hK, IntKind.wrap_i64]; omega
            have hs := Lib.hid (mnL_yes (n := n) (fr := fr) (to := to) (lg := lg) h3 (by rw [eW]; omega))
            have ha := Lib.hid (mnC_app (mnL g n fr to lg k) ((g k).n, K))
            have eK : (mnW g n fr to lg k).toNat = K := by rw [eW, hK]; rfl
            rw [eK] at hs
            clear hx s2 s3 s4 hO hG' h3 hw eW eK hK h1 HCs hG hL hok2
            generalize mnL g n fr to lg k = L at *
            generalize mnC L = xs at *
            have f1 : IntKind.i64.wrap ((g k).t + lg) = (g k).t + lg := by rw [IntKind.wrap_i64]; omega
            have f2 : IntKind.i64.wrap ((g k).t + lg + 1) = (g k).t + lg + 1 := by rw [IntKind.wrap_i64]; omega
            generalize (g k).t = xt at *
            generalize (g k).n = xn at *
            generalize (g k).m = xm at *
            generalize (g (k + 1)).t = yt at *
            go_wp2_with first
              | (go_at_call 32; refine (isSolid_any _ _ _ _).mono ?_; rw [p3]; rintro e w' ⟨rfl, y, rfl⟩)
              | (at_builtin; (with_reducible apply append_new (o := ⟨some 60, _, _, _, _, _⟩) el_str w w.heap.size (v := .slice A1 L.length c1) (n := L.length) (xs := xs) (m := 1) (news := [.int .i64 xn, .int .i64 (K : Int)])); go_loud (exact rfl; exact rfl; exact rfl; exact rfl; (focus omega); (have ho := HO.out; (focus (repeat (first | (with_reducible assumption) | (with_reducible exact Own.nil _ _ _ _) | (with_reducible refine Own.app ?_) | (with_reducible refine Own.tick ?_) | (with_reducible refine Own.gx ?_) | (with_reducible refine Own.alloc ?_) | (with_reducible refine Own.drew ?_) | (with_reducible refine Own.row ?_ (by omega)))))); (have hx := HG.out; exact (by repeat (first | (with_reducible exact Gx.refl _) | (with_reducible assumption) | (with_reducible refine Gx.gx ?_) | (with_reducible refine Gx.alloc ?_) | (with_reducible refine Gx.drew ?_) | (with_reducible refine Gx.drewN ?_) | (with_reducible refine Gx.setRow ?_ (by first | omega | (simp; done) | (simp <;> omega))) | (with_reducible refine Gx.setCell ?_ (by first | omega | (simp; done) | (simp <;> omega)))))); (focus (simp <;> omega)); exact rfl; (focus (repeat (first | (with_reducible assumption) | ((with_reducible apply Shows.whole); focus ((focus (repeat (first | (with_reducible assumption) | (with_reducible exact At.new _ _) | (with_reducible refine At.row ?_) | ((with_reducible refine At.row_other ?_ ?_); rotate_left; (focus (simp <;> omega))) | (with_reducible refine At.app ?_) | (with_reducible refine At.tick ?_) | (with_reducible refine At.gx ?_) | ((with_reducible refine At.new' ?_); focus (simp; done)) | (with_reducible refine At.alloc ?_) | (with_reducible refine At.drew ?_) | (with_reducible exact Is.new _ _ _) | (with_reducible refine Is.row ?_) | ((with_reducible refine Is.row_other ?_ ?_); rotate_left; (focus (simp <;> omega))) | (with_reducible refine Is.gx ?_) | ((with_reducible refine Is.new' ?_); focus (simp; done)) | (with_reducible refine Is.alloc ?_) | (with_reducible refine Is.drew ?_)))); done)) | (with_reducible refine Shows.app ?_) | (with_reducible refine Shows.tick ?_) | (with_reducible refine Shows.gx ?_) | (with_reducible refine Shows.alloc ?_) | (with_reducible refine Shows.drew ?_)))); (focus (simp [Value.oneCell']; done)); (focus (simp only [maxLen]; omega)); (focus omega); rintro v2 W2 hW2 hO2 hg; obtain ⟨A2, c2, rfl, -⟩ := hO2.is; have HO2 := Lib.hid hO2; clear hg hO2))
            go_roundw
            case rel => exact ⟨k + 1, A2, c2, by omega, by go_num, by rw [hs.out, List.length_append]; rfl, hW2, by rw [hs.out, ha.out, List.length_append]; exact HO2.out⟩
            case measure => simp [intOf]; omega
          · have pw : decide (max fr (g k).t < (min to (min ((g k).t + lg + 1) (g (k + 1)).t))) = false := decide_eq_false hw
            have hs := Lib.hid (mnL_no (g := g) (n := n) (fr := fr) (to := to) (lg := lg) (k := k) (by rw [eW]; omega))
            clear hx s2 s3 s4 hO hG' h3 hw eW h1 HCs hG hL hok2
            have f1 : IntKind.i64.wrap ((g k).t + lg) = (g k).t + lg := by rw [IntKind.wrap_i64]; omega
            have f2 : IntKind.i64.wrap ((g k).t + lg + 1) = (g k).t + lg + 1 := by rw [IntKind.wrap_i64]; omega
            generalize (g k).t = xt at *
            generalize (g k).n = xn at *
            generalize (g k).m = xm at *
            generalize (g (k + 1)).t = yt at *
            go_wp2_with (go_at_call 32; refine (isSolid_any _ _ _ _).mono ?_; rw [p3]; rintro e w' ⟨rfl, y, rfl⟩)
            go_roundw
            case rel => exact ⟨k + 1, A1, c1, by omega, by go_num, by rw [hs.out], by have hx := HG.out; exact (by repeat (first | (with_reducible exact Gx.refl _) | (with_reducible assumption) | (with_reducible refine Gx.gx ?_) | (with_reducible refine Gx.alloc ?_) | (with_reducible refine Gx.drew ?_) | (with_reducible refine Gx.drewN ?_) | (with_reducible refine Gx.setRow ?_ (by first | omega | (simp; done) | (simp <;> omega))) | (with_reducible refine Gx.setCell ?_ (by first | omega | (simp; done) | (simp <;> omega))))), by rw [hs.out]; have ho := HO.out; (focus (repeat (first | (with_reducible assumption) | (with_reducible exact Own.nil _ _ _ _) | (with_reducible refine Own.app ?_) | (with_reducible refine Own.tick ?_) | (with_reducible refine Own.gx ?_) | (with_reducible refine Own.alloc ?_) | (with_reducible refine Own.drew ?_) | (with_reducible refine Own.row ?_ (by omega)))))⟩
            case measure => simp [intOf]; omega
        · have p3 : decide (3 ≤ (g k).m) = false := decide_eq_false h3
          have hs := Lib.hid (mnL_no (g := g) (n := n) (fr := fr) (to := to) (lg := lg) (k := k) (fun h => h3 h.1))
          clear hx s2 s3 s4 hO hG' h3 eW h1 HCs hG hL hok2
          have f1 : IntKind.i64.wrap ((g k).t + lg) = (g k).t + lg := by rw [IntKind.wrap_i64]; omega
          have f2 : IntKind.i64.wrap ((g k).t + lg + 1) = (g k).t + lg + 1 := by rw [IntKind.wrap_i64]; omega
          generalize (g k).t = xt at *
          generalize (g k).n = xn at *
          generalize (g k).m = xm at *
          generalize (g (k + 1)).t = yt at *
          go_wp2_with (go_at_call 32; refine (isSolid_any _ _ _ _).mono ?_; rw [p3]; rintro e w' ⟨rfl, y, rfl⟩)
          go_roundw
          case rel => exact ⟨k + 1, A1, c1, by omega, by go_num, by rw [hs.out], by have hx := HG.out; exact (by repeat (first | (with_reducible exact Gx.refl _) | (with_reducible assumption) | (with_reducible refine Gx.gx ?_) | (with_reducible refine Gx.alloc ?_) | (with_reducible refine Gx.drew ?_) | (with_reducible refine Gx.drewN ?_) | (with_reducible refine Gx.setRow ?_ (by first | omega | (simp; done) | (simp <;> omega))) | (with_reducible refine Gx.setCell ?_ (by first | omega | (simp; done) | (simp <;> omega))))), by rw [hs.out]; have ho := HO.out; (focus (repeat (first | (with_reducible assumption) | (with_reducible exact Own.nil _ _ _ _) | (with_reducible refine Own.app ?_) | (with_reducible refine Own.tick ?_) | (with_reducible refine Own.gx ?_) | (with_reducible refine Own.alloc ?_) | (with_reducible refine Own.drew ?_) | (with_reducible refine Own.row ?_ (by omega)))))⟩
          case measure => simp [intOf]; omega
      · skip
        have hkz1 : decide ((k : Int) + 1 < (n : Int)) = false := decide_eq_false (by omega)
        have eW : mnW g n fr to lg k = (min to ((g k).t + lg + 1)) - max fr (g k).t := by unfold mnW; rw [if_neg h1]
        by_cases h3 : 3 ≤ (g k).m
        · have p3 : decide (3 ≤ (g k).m) = true := decide_eq_true h3
          by_cases hw : max fr (g k).t < (min to ((g k).t + lg + 1))
          · have pw : decide (max fr (g k).t < (min to ((g k).t + lg + 1))) = true := decide_eq_true hw
            obtain ⟨K, hK⟩ : ∃ K : Nat, (min to ((g k).t + lg + 1)) - max fr (g k).t = (K : Int) := ⟨((min to ((g k).t + lg + 1)) - max fr (g k).t).toNat, by omega⟩
            have e9 : IntKind.i64.wrap ((min to ((g k).t + lg + 1)) - max fr (g k).t) = (K : Int) := by rw [hK, IntKind.wrap_i64]; omega
            have hs := Lib.hid (mnL_yes (n := n) (fr := fr) (to := to) (lg := lg) h3 (by rw [eW]; omega))
            have ha := Lib.hid (mnC_app (mnL g n fr to lg k) ((g k).n, K))
            have eK : (mnW g n fr to lg k).toNat = K := by rw [eW, hK]; rfl
            rw [eK] at hs
            clear hx s2 s3 s4 hO hG' h3 hw eW eK hK h1 HCs hG hL
            generalize mnL g n fr to lg k = L at *
            generalize mnC L = xs at *
            have f1 : IntKind.i64.wrap ((g k).t + lg) = (g k).t + lg := by rw [IntKind.wrap_i64]; omega
            have f2 : IntKind.i64.wrap ((g k).t + lg + 1) = (g k).t + lg + 1 := by rw [IntKind.wrap_i64]; omega
            generalize (g k).t = xt at *
            generalize (g k).n = xn at *
            generalize (g k).m = xm at *
            go_wp2_with first
              | (go_at_call 32; refine (isSolid_any _ _ _ _).mono ?_; rw [p3]; rintro e w' ⟨rfl, y, rfl⟩)
              | (at_builtin; (with_reducible apply append_new (o := ⟨some 60, _, _, _, _, _⟩) el_str w w.heap.size (v := .slice A1 L.length c1) (n := L.length) (xs := xs) (m := 1) (news := [.int .i64 xn, .int .i64 (K : Int)])); go_loud (exact rfl; exact rfl; exact rfl; exact rfl; (focus omega); (have ho := HO.out; (focus (repeat (first | (with_reducible assumption) | (with_reducible exact Own.nil _ _ _ _) | (with_reducible refine Own.app ?_) | (with_reducible refine Own.tick ?_) | (with_reducible refine Own.gx ?_) | (with_reducible refine Own.alloc ?_) | (with_reducible refine Own.drew ?_) | (with_reducible refine Own.row ?_ (by omega)))))); (have hx := HG.out; exact (by repeat (first | (with_reducible exact Gx.refl _) | (with_reducible assumption) | (with_reducible refine Gx.gx ?_) | (with_reducible refine Gx.alloc ?_) | (with_reducible refine Gx.drew ?_) | (with_reducible refine Gx.drewN ?_) | (with_reducible refine Gx.setRow ?_ (by first | omega | (simp; done) | (simp <;> omega))) | (with_reducible refine Gx.setCell ?_ (by first | omega | (simp; done) | (simp <;> omega)))))); (focus (simp <;> omega)); exact rfl; (focus (repeat (first | (with_reducible assumption) | ((with_reducible apply Shows.whole); focus ((focus (repeat (first | (with_reducible assumption) | (with_reducible exact At.new _ _) | (with_reducible refine At.row ?_) | ((with_reducible refine At.row_other ?_ ?_); rotate_left; (focus (simp <;> omega))) | (with_reducible refine At.app ?_) | (with_reducible refine At.tick ?_) | (with_reducible refine At.gx ?_) | ((with_reducible refine At.new' ?_); focus (simp; done)) | (with_reducible refine At.alloc ?_) | (with_reducible refine At.drew ?_) | (with_reducible exact Is.new _ _ _) | (with_reducible refine Is.row ?_) | ((with_reducible refine Is.row_other ?_ ?_); rotate_left; (focus (simp <;> omega))) | (with_reducible refine Is.gx ?_) | ((with_reducible refine Is.new' ?_); focus (simp; done)) | (with_reducible refine Is.alloc ?_) | (with_reducible refine Is.drew ?_)))); done)) | (with_reducible refine Shows.app ?_) | (with_reducible refine Shows.tick ?_) | (with_reducible refine Shows.gx ?_) | (with_reducible refine Shows.alloc ?_) | (with_reducible refine Shows.drew ?_)))); (focus (simp [Value.oneCell']; done)); (focus (simp only [maxLen]; omega)); (focus omega); rintro v2 W2 hW2 hO2 hg; obtain ⟨A2, c2, rfl, -⟩ := hO2.is; have HO2 := Lib.hid hO2; clear hg hO2))
            go_roundw
            case rel => exact ⟨k + 1, A2, c2, by omega, by go_num, by rw [hs.out, List.length_append]; rfl, hW2, by rw [hs.out, ha.out, List.length_append]; exact HO2.out⟩
            case measure => simp [intOf]; omega
          · have pw : decide (max fr (g k).t < (min to ((g k).t + lg + 1))) = false := decide_eq_false hw
            have hs := Lib.hid (mnL_no (g := g) (n := n) (fr := fr) (to := to) (lg := lg) (k := k) (by rw [eW]; omega))
            clear hx s2 s3 s4 hO hG' h3 hw eW h1 HCs hG hL
            have f1 : IntKind.i64.wrap ((g k).t + lg) = (g k).t + lg := by rw [IntKind.wrap_i64]; omega
            have f2 : IntKind.i64.wrap ((g k).t + lg + 1) = (g k).t + lg + 1 := by rw [IntKind.wrap_i64]; omega
            generalize (g k).t = xt at *
            generalize (g k).n = xn at *
            generalize (g k).m = xm at *
            go_wp2_with (go_at_call 32; refine (isSolid_any _ _ _ _).mono ?_; rw [p3]; rintro e w' ⟨rfl, y, rfl⟩)
            go_roundw
            case rel => exact ⟨k + 1, A1, c1, by omega, by go_num, by rw [hs.out], by have hx := HG.out; exact (by repeat (first | (with_reducible exact Gx.refl _) | (with_reducible assumption) | (with_reducible refine Gx.gx ?_) | (with_reducible refine Gx.alloc ?_) | (with_reducible refine Gx.drew ?_) | (with_reducible refine Gx.drewN ?_) | (with_reducible refine Gx.setRow ?_ (by first | omega | (simp; done) | (simp <;> omega))) | (with_reducible refine Gx.setCell ?_ (by first | omega | (simp; done) | (simp <;> omega))))), by rw [hs.out]; have ho := HO.out; (focus (repeat (first | (with_reducible assumption) | (with_reducible exact Own.nil _ _ _ _) | (with_reducible refine Own.app ?_) | (with_reducible refine Own.tick ?_) | (with_reducible refine Own.gx ?_) | (with_reducible refine Own.alloc ?_) | (with_reducible refine Own.drew ?_) | (with_reducible refine Own.row ?_ (by omega)))))⟩
            case measure => simp [intOf]; omega
        · have p3 : decide (3 ≤ (g k).m) = false := decide_eq_false h3
          have hs := Lib.hid (mnL_no (g := g) (n := n) (fr := fr) (to := to) (lg := lg) (k := k) (fun h => h3 h.1))
          clear hx s2 s3 s4 hO hG' h3 eW h1 HCs hG hL
          have f1 : IntKind.i64.wrap ((g k).t + lg) = (g k).t + lg := by rw [IntKind.wrap_i64]; omega
          have f2 : IntKind.i64.wrap ((g k).t + lg + 1) = (g k).t + lg + 1 := by rw [IntKind.wrap_i64]; omega
          generalize (g k).t = xt at *
          generalize (g k).n = xn at *
          generalize (g k).m = xm at *
          go_wp2_with (go_at_call 32; refine (isSolid_any _ _ _ _).mono ?_; rw [p3]; rintro e w' ⟨rfl, y, rfl⟩)
          go_roundw
          case rel => exact ⟨k + 1, A1, c1, by omega, by go_num, by rw [hs.out], by have hx := HG.out; exact (by repeat (first | (with_reducible exact Gx.refl _) | (with_reducible assumption) | (with_reducible refine Gx.gx ?_) | (with_reducible refine Gx.alloc ?_) | (with_reducible refine Gx.drew ?_) | (with_reducible refine Gx.drewN ?_) | (with_reducible refine Gx.setRow ?_ (by first | omega | (simp; done) | (simp <;> omega))) | (with_reducible refine Gx.setCell ?_ (by first | omega | (simp; done) | (simp <;> omega))))), by rw [hs.out]; have ho := HO.out; (focus (repeat (first | (with_reducible assumption) | (with_reducible exact Own.nil _ _ _ _) | (with_reducible refine Own.app ?_) | (with_reducible refine Own.tick ?_) | (with_reducible refine Own.gx ?_) | (with_reducible refine Own.alloc ?_) | (with_reducible refine Own.drew ?_) | (with_reducible refine Own.row ?_ (by omega)))))⟩
          case measure => simp [intOf]; omega
    · obtain rfl : k = n := by omega
      go_wp2
      go_ret
      obtain ⟨x, hx⟩ := hG'
      exact ⟨A1, c1, x, rfl, hx, hO⟩
end Go.Proofs.Ytlnbadjjgbecgaa
