/-
  FromBytes, Get, WordAt, Same and GetSecond: both sides return the same.
-/
import Derived.Test.YtllahhmonoedmaaDoorRSame
namespace Go.Proofs.YtllahhmonoedmaaDoor
open Go.RowKit
-- AT2

theorem held_cells {M : List Int} {b o n : Nat} {W : World} (h : HeldB M (some ⟨b, o, none⟩) n W) (q k : Nat) (hq : q + k ≤ n) : ∀ j, j < k → W.cell? ⟨b, o + q + j, none⟩ = some (.int .u8 (gw (M.drop q) j)) := by
  intro j hj
  unfold HeldB at h
  obtain ⟨b', o', e, hc⟩ := h (by omega)
  simp only [Option.some.injEq, Addr.mk.injEq, and_true] at e
  obtain ⟨rfl, rfl⟩ := e
  have := hc (q + j) (by omega)
  rw [gw_drop, show o + q + j = o + (q + j) by omega]
  exact this
theorem held_win {M : List Int} {b o n : Nat} {W : World} (h : HeldB M (some ⟨b, o, none⟩) n W) (q : Nat) (hq : q + 96 ≤ n) : ∀ j, j < 96 → W.cell? ⟨b, o + q + j, none⟩ = some (.int .u8 (gw (win M q) j)) := by
  intro j hj
  have := held_cells h q 96 hq j hj
  rw [gw_drop] at this
  rw [gw_win M q j hj]
  exact this
theorem win_bs {M : List Int} (hM : Bs M) (q : Nat) : Bs (win M q) := fun j => by
  rcases Nat.lt_or_ge j 96 with h | h
  · rw [gw_win M q j h]; exact hM _
  · have e : gw (win M q) j = 0 := by
      have hl : ((M.drop q).take 96).length ≤ j := by simp; omega
      unfold win gw
      rw [List.getD_eq_getElem?_getD, List.getElem?_eq_none hl]
      rfl
    rw [e]; decide
/-- The program's function f and the reference's function g return the value v. -/
def Both (f g : FuncId) (args : Array Value) (P : World → Prop) (v : Value) : Prop :=
  (∀ W, P W → Calls Tryd.prog f args W fun e w' => e = .returned v ∧ ∃ x, w' = gx W x) ∧ ∀ W, P W → Calls Tryd.prog g args W fun e w' => e = .returned v ∧ ∃ x, w' = gx W x

theorem from_both (M : List Int) (hM : Bs M) (A : Option Addr) (c : Nat) (hlc : M.length ≤ c) (hcm : c ≤ 140737488355328) (hA : 0 < M.length → ∃ b o, A = some ⟨b, o, none⟩) :
    ∃ F E, F.length = 64 ∧ Both 47 49 #[.slice A M.length c] (HeldB M A M.length) (.tuple #[.agg (fc F), .int .i64 E]) := by
  by_cases h : M.length < 96
  · exact ⟨zeroF, 3, zeroF_len, fun W _ => FromBytes_bad A M.length c h W, fun W _ => RFromBytes_bad A M.length c h W⟩
  · obtain ⟨b, o, rfl⟩ := hA (by omega)
    exact ⟨rdF M, 0, rdF_len M, fun W hW => FromBytes_good M hM b o M.length c (by omega) hlc (by omega) (by omega) W (fun j hj => by have := held_cells hW 0 96 (by omega) j hj; simpa using this),
      fun W hW => RFromBytes_good M hM b o M.length c (by omega) (by omega) W (fun j hj => by have := held_cells hW 0 96 (by omega) j hj; simpa using this)⟩
theorem get_both (M : List Int) (hM : Bs M) (A : Option Addr) (c : Nat) (at_ : Int) (ha : at_ ≤ 9223372036854775807) (hlc : M.length ≤ c) (hcm : c ≤ 140737488355328) (hA : 0 < M.length → ∃ b o, A = some ⟨b, o, none⟩) :
    ∃ F E, F.length = 64 ∧ Both 50 51 #[.slice A M.length c, .int .i64 at_] (HeldB M A M.length) (.tuple #[.agg (fc F), .int .i64 E]) := by
  by_cases he : placeE M.length at_ 96 = 0
  · obtain ⟨q, rfl, hq⟩ := place_zero he
    obtain ⟨b, o, rfl⟩ := hA (by omega)
    exact ⟨rdF (M.drop q), 0, rdF_len _, fun W hW => Get_good (M.drop q) (bs_drop hM q) b o M.length c q (by omega) hlc (by omega) (by omega) W (held_cells hW q 96 (by omega)),
      fun W hW => RGet_good (M.drop q) (bs_drop hM q) b o M.length c q (by omega) hlc (by omega) (by omega) W (held_cells hW q 96 (by omega))⟩
  · exact ⟨zeroF, _, zeroF_len, fun W _ => Get_bad A M.length c at_ (by omega) ha W _ rfl he, fun W _ => RGet_bad A M.length c at_ (by omega) ha W _ rfl he⟩
theorem word_both (M : List Int) (hM : Bs M) (A : Option Addr) (c : Nat) (at_ i : Int) (ha : at_ ≤ 9223372036854775807) (hlc : M.length ≤ c) (hcm : c ≤ 140737488355328) (hA : 0 < M.length → ∃ b o, A = some ⟨b, o, none⟩) :
    ∃ v E, Both 52 53 #[.slice A M.length c, .int .i64 at_, .int .i64 i] (HeldB M A M.length) (.tuple #[.int .i64 v, .int .i64 E]) := by
  by_cases he : placeE M.length at_ 96 = 0
  · obtain ⟨q, rfl, hq⟩ := place_zero he
    obtain ⟨b, o, rfl⟩ := hA (by omega)
    by_cases hi : i < 0 ∨ 64 ≤ i
    · exact ⟨0, 9, fun W hW => WordAt_range b o M.length c q i hi (by omega) hlc (by omega) (by omega) W, fun W hW => RWordAt_range _ M.length c q i hi (by omega) (by omega) W⟩
    · obtain ⟨k, rfl⟩ : ∃ k : Nat, i = k := ⟨i.toNat, by omega⟩
      exact ⟨rdI (M.drop q) k, 0, fun W hW => WordAt_good (M.drop q) (bs_drop hM q) b o M.length c q k (by omega) (by omega) hlc (by omega) (by omega) W (held_cells hW q 96 (by omega)),
        fun W hW => RWordAt_good (M.drop q) (bs_drop hM q) b o M.length c q k (by omega) (by omega) hlc (by omega) (by omega) W (held_cells hW q 96 (by omega))⟩
  · exact ⟨0, _, fun W _ => WordAt_bad A M.length c at_ i (by omega) ha W _ rfl he, fun W _ => RWordAt_bad A M.length c at_ i (by omega) ha W _ rfl he⟩
theorem same_both (M L : List Int) (hM : Bs M) (hL : Bs L) (A A' : Option Addr) (c c' : Nat) (at_ to_ : Int) (ha : at_ ≤ 9223372036854775807) (ht : to_ ≤ 9223372036854775807) (hlc : M.length ≤ c) (hcm : c ≤ 140737488355328) (hlc' : L.length ≤ c') (hcm' : c' ≤ 140737488355328)
    (hA : 0 < M.length → ∃ b o, A = some ⟨b, o, none⟩) (hA' : 0 < L.length → ∃ b o, A' = some ⟨b, o, none⟩) :
    ∃ (p : Bool) (E : Int), Both 54 55 #[.slice A M.length c, .int .i64 at_, .slice A' L.length c', .int .i64 to_] (fun W => HeldB M A M.length W ∧ HeldB L A' L.length W) (.tuple #[.bool p, .int .i64 E]) := by
  by_cases he : placeE M.length at_ 96 = 0
  · by_cases he' : placeE L.length to_ 96 = 0
    · obtain ⟨q, rfl, hq⟩ := place_zero he
      obtain ⟨r, rfl, hr⟩ := place_zero he'
      obtain ⟨b, o, rfl⟩ := hA (by omega)
      obtain ⟨b', o', rfl⟩ := hA' (by omega)
      have l1 : (win M q).length = 96 := win_len (by omega)
      have l2 : (win L r).length = 96 := win_len (by omega)
      exact ⟨eqW (win M q) (win L r), 0, fun W hW => Same_good _ _ l1 l2 b o M.length c q b' o' L.length c' r (by omega) hlc (by omega) (by omega) (by omega) hlc' (by omega) (by omega) W (held_win hW.1 q (by omega)) (held_win hW.2 r (by omega)),
        fun W hW => RSame_good _ _ (win_bs hM q) (win_bs hL r) l1 l2 b o M.length c q b' o' L.length c' r (by omega) hlc (by omega) (by omega) hlc' (by omega) W (held_win hW.1 q (by omega)) (held_win hW.2 r (by omega))⟩
    · exact ⟨false, _, fun W _ => Same_bad A A' _ _ c c' at_ to_ (by omega) ha (by omega) ht W _ he' (.inr ⟨he, rfl⟩), fun W _ => RSame_bad A A' _ _ c c' at_ to_ (by omega) ha (by omega) ht W _ he' (.inr ⟨he, rfl⟩)⟩
  · exact ⟨false, _, fun W _ => Same_bad A A' _ _ c c' at_ to_ (by omega) ha (by omega) ht W _ he (.inl rfl), fun W _ => RSame_bad A A' _ _ c c' at_ to_ (by omega) ha (by omega) ht W _ he (.inl rfl)⟩
theorem second_both (M : List Int) (hM : Bs M) (A : Option Addr) (c : Nat) (at_ : Int) (ha : at_ ≤ 9223372036854775807) (hlc : M.length ≤ c) (hcm : c ≤ 140737488355328) (hA : 0 < M.length → ∃ b o, A = some ⟨b, o, none⟩) :
    ∃ F E, F.length = 512 ∧ Both 59 60 #[.slice A M.length c, .int .i64 at_] (HeldB M A M.length) (.tuple #[.agg (fc F), .int .i64 E]) := by
  by_cases he : placeE M.length at_ 768 = 0
  · obtain ⟨q, rfl, hq⟩ := place_zero he
    obtain ⟨b, o, rfl⟩ := hA (by omega)
    exact ⟨rd8 (M.drop q) 8, 0, rd8_len _ 8, fun W hW => GetSecond_good (M.drop q) (bs_drop hM q) b o M.length c q (by omega) hlc (by omega) (by omega) W (held_cells hW q 768 (by omega)),
      fun W hW => RGetSecond_good (M.drop q) (bs_drop hM q) b o M.length c q (by omega) hlc (by omega) (by omega) W (held_cells hW q 768 (by omega))⟩
  · exact ⟨zero8, _, zero8_len, fun W _ => GetSecond_bad A M.length c at_ (by omega) ha W _ rfl he, fun W _ => RGetSecond_bad A M.length c at_ (by omega) ha W _ rfl he⟩
end Go.Proofs.YtllahhmonoedmaaDoor
