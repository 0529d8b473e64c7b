/-
  Texts that this claim leans on, merged: PGau, PClone, PBo, POb, PBd, PNew, PNear, PAdvP, PAdv, PGo, PFcs, PShow.
-/
import Derived.Deep.RegionHeld3
import Derived.BigRegion
import Derived.Deep.RegionWith
import Derived.Deep.RegionLaw
import Derived.Test.YtocaphcnnmcnjaaGreatDoorM5
import Derived.Test.YtocaphcnnmcnjaaGreatDoorM2
import Derived.Test.YtocaphcnnmcnjaaGreatDoorM3

/-
  The value of a track in a frame; the guard's samples.
-/
namespace Go.Proofs.YtocaphcnnmcnjaaGreatDoor
open Go.RowKit
-- AT2
-- AT3

set_option maxHeartbeats 1000000 in
set_option maxRecDepth 100000 in
theorem value_any (s : ByteArray) (den : Int) (g : Nat → Sm) (n c : Nat) (A : Option Addr) (lg fr : Int) (w : World) (hL : SmAt w g n A) (hn : n ≤ 20000) (hG : GoodS g n) (hf : 0 ≤ fr ∧ fr ≤ 16777215) (hl : 0 ≤ lg ∧ lg ≤ 1099511627776) (v : Sm) (b : Bool)
    (hv : heldV g (aheadN g (64 * fr + 64) n) (64 * fr + 63) lg = v) (hb : heldB g (aheadN g (64 * fr + 64) n) (64 * fr + 63) lg = b) :
    Calls Tryz.prog 42 #[trV s den A n c lg, .int .i64 fr] w fun e w' => e = .returned (.tuple #[smV v.t v.n v.m, .bool b]) ∧ ∃ x, w' = gx w x := by
  have HH := Lib.hid (fun W (hW : ∃ x, W = gx w x) => hold_any g n c A (64 * fr + 63) lg W (by obtain ⟨x, rfl⟩ := hW; exact hL.gx) hn hG (by omega) (by omega) hl.1 hl.2)
  rw [show 64 * fr + 63 + 1 = 64 * fr + 64 by omega, hv, hb] at HH
  clear hv hb
  obtain ⟨t, N, m⟩ := v
  dsimp only at *
  obtain ⟨q, hq⟩ : ∃ q, 64 * fr = q := ⟨_, rfl⟩
  obtain ⟨r, hr⟩ : ∃ r, q + 64 = r := ⟨_, rfl⟩
  obtain ⟨a, ha⟩ : ∃ a, 64 * fr + 63 = a := ⟨_, rfl⟩
  rw [ha] at HH
  have e1 : IntKind.i64.wrap (64 * fr) = q := by rw [IntWalk.i64_in _ (by omega), hq]
  have e2 : IntKind.i64.wrap (q + 64) = r := by rw [IntWalk.i64_in _ (by omega), hr]
  have e3 : IntKind.i64.wrap (r - 1) = a := by rw [IntWalk.i64_in _ (by omega)]; omega
  clear hq hr ha hf hl hn hG
  go_enter Tryz.func42, Tryz.ntmps42
  go_wp2_with (first | (go_at_call 72; refine (HH.out _ (by repeat (first | (with_reducible exact Gx.refl _) | (with_reducible assumption) | (with_reducible refine Gx.gx ?_) | (with_reducible refine Gx.alloc ?_) | (with_reducible refine Gx.drew ?_) | (with_reducible refine Gx.drewN ?_) | (with_reducible refine Gx.setRow ?_ (by first | omega | (simp; done) | (simp <;> omega))) | (with_reducible refine Gx.setCell ?_ (by first | omega | (simp; done) | (simp <;> omega)))))).mono ?_; rintro e w' ⟨rfl, x1, rfl⟩))
  exact bodyPost_ret (v := .tuple #[smV t N m, .bool b]) (by simp [results, Tryz.results42, go_sem]) rfl ⟨rfl, (by repeat (first | (with_reducible exact Gx.refl _) | (with_reducible assumption) | (with_reducible refine Gx.gx ?_) | (with_reducible refine Gx.alloc ?_) | (with_reducible refine Gx.drew ?_) | (with_reducible refine Gx.drewN ?_) | (with_reducible refine Gx.setRow ?_ (by first | omega | (simp; done) | (simp <;> omega))) | (with_reducible refine Gx.setCell ?_ (by first | omega | (simp; done) | (simp <;> omega)))))⟩
/-- The samples of the guard. -/
def smG : Nat → Sm := fun _ => ⟨70, -3, 4⟩
theorem smG_G : GoodS smG 1 := ⟨fun i _ => by unfold smG smOk; decide, fun i _ h => by unfold smG at h; simp at h, fun i h => by omega⟩
theorem smG_0 : serE 2 smG 1 = 0 := goodS_back (by omega) (by omega) smG_G
/-- In the frames 0 and 1. -/
theorem smG_v0 : heldV smG (aheadN smG (64 * 0 + 64) 1) (64 * 0 + 63) 100 = ⟨0, 0, 0⟩ ∧ heldB smG (aheadN smG (64 * 0 + 64) 1) (64 * 0 + 63) 100 = false := by
  have : aheadN smG (64 * 0 + 64) 1 = 0 := aheadN_uniq smG_G (by omega) (fun i hi => by omega) (fun i _ _ => by unfold smG; decide)
  rw [this]
  exact ⟨by unfold heldV heldB; rfl, by unfold heldB; rfl⟩
theorem smG_v1 : heldV smG (aheadN smG (64 * 1 + 64) 1) (64 * 1 + 63) 100 = ⟨70, -3, 4⟩ ∧ heldB smG (aheadN smG (64 * 1 + 64) 1) (64 * 1 + 63) 100 = true := by
  have : aheadN smG (64 * 1 + 64) 1 = 1 := aheadN_uniq smG_G (by omega) (fun i hi => by unfold smG; decide) (fun i _ _ => by omega)
  rw [this]
  exact ⟨by unfold heldV heldB; rfl, by unfold heldB; rfl⟩
/-- What a gauge of the guard has in its block: kind, places, track. -/
structure GaAt (w : World) (gB : Nat) (A : Option Addr) (c : Nat) : Prop where
  k : w.cell? ⟨gB, 0, none⟩ = some (.int .i64 1)
  p : w.cell? ⟨gB, 3, none⟩ = some (.int .i64 1)
  t0 : w.cell? ⟨gB, 12, none⟩ = some (.string ⟨#[116]⟩)
  t1 : w.cell? ⟨gB, 13, none⟩ = some (.int .i64 2)
  t2 : w.cell? ⟨gB, 14, none⟩ = some (.slice A 1 c)
  t3 : w.cell? ⟨gB, 15, none⟩ = some (.int .i64 100)
  s : SmAt w smG 1 A
theorem GaAt.on {w W : World} {gB c : Nat} {A : Option Addr} (h : GaAt w gB A c) (hW : ∃ x, W = Go.Proofs.YtocaphcnnmcnjaaGreatDoor.gx w x) : GaAt W gB A c := by
  obtain ⟨x, rfl⟩ := hW
  exact ⟨cell_keep_gx h.k, cell_keep_gx h.p, cell_keep_gx h.t0, cell_keep_gx h.t1, cell_keep_gx h.t2, cell_keep_gx h.t3, h.s.gx⟩
/-- A memo that remembers nothing. -/
abbrev mmG : Value := .agg #[.bool false, .bool false, .int .i64 0, .int .i64 0]
set_option maxHeartbeats 1000000 in
set_option maxRecDepth 100000 in
theorem next_G (gB c : Nat) (A : Option Addr) (fr : Int) (hf : fr = 0 ∨ fr = 1) (w : World) (h : GaAt w gB A c) :
    Calls Tryz.prog 133 #[.pointer (some ⟨gB, 0, none⟩), mmG, .int .i64 fr] w fun e w' => e = .returned mmG ∧ ∃ x, w' = gx w x := by
  obtain ⟨v, b, HV⟩ : ∃ (v : Sm) (b : Bool), Hid (∀ W, (∃ x, W = gx w x) → Calls Tryz.prog 42 #[trV ⟨#[116]⟩ 2 A 1 c 100, .int .i64 fr] W fun e w' => e = .returned (.tuple #[smV v.t v.n v.m, .bool b]) ∧ ∃ x, w' = gx W x) := by
    rcases hf with rfl | rfl
    · exact ⟨⟨0, 0, 0⟩, false, Lib.hid (fun W hW => value_any _ _ smG _ _ _ _ _ W (h.on hW).s (by omega) smG_G (by omega) (by omega) _ _ smG_v0.1 smG_v0.2)⟩
    · exact ⟨⟨70, -3, 4⟩, true, Lib.hid (fun W hW => value_any _ _ smG _ _ _ _ _ W (h.on hW).s (by omega) smG_G (by omega) (by omega) _ _ smG_v1.1 smG_v1.2)⟩
  have hb : gB < w.heap.size := World.block_lt_of_cell? w _ h.k
  obtain ⟨k, p, t0, t1, t2, t3, -⟩ := h
  clear hf
  go_enter Tryz.func133, Tryz.ntmps133
  go_wp2_with (first | (go_at_call 42; refine (HV.out _ (by repeat (first | (with_reducible exact Gx.refl _) | (with_reducible assumption) | (with_reducible refine Gx.gx ?_) | (with_reducible refine Gx.alloc ?_) | (with_reducible refine Gx.drew ?_) | (with_reducible refine Gx.drewN ?_) | (with_reducible refine Gx.setRow ?_ (by first | omega | (simp; done) | (simp <;> omega))) | (with_reducible refine Gx.setCell ?_ (by first | omega | (simp; done) | (simp <;> omega)))))).mono ?_; rintro e w' ⟨rfl, x1, rfl⟩))
  exact bodyPost_ret (v := mmG) (by simp [results, Tryz.results133, go_sem]) rfl ⟨rfl, (by repeat (first | (with_reducible exact Gx.refl _) | (with_reducible assumption) | (with_reducible refine Gx.gx ?_) | (with_reducible refine Gx.alloc ?_) | (with_reducible refine Gx.drew ?_) | (with_reducible refine Gx.drewN ?_) | (with_reducible refine Gx.setRow ?_ (by first | omega | (simp; done) | (simp <;> omega))) | (with_reducible refine Gx.setCell ?_ (by first | omega | (simp; done) | (simp <;> omega)))))⟩
set_option maxHeartbeats 1000000 in
set_option maxRecDepth 100000 in
theorem gdigits_G (gB c : Nat) (A : Option Addr) (w : World) (h : GaAt w gB A c) :
    Calls Tryz.prog 117 #[.pointer (some ⟨gB, 0, none⟩), .int .i64 (-3)] w fun e w' => e = .returned (.string ⟨#[45, 49, 46, 53]⟩) ∧ ∃ x, w' = gx w x := by
  have hb : gB < w.heap.size := World.block_lt_of_cell? w _ h.k
  obtain ⟨k, p, t0, t1, t2, t3, -⟩ := h
  go_enter Tryz.func117, Tryz.ntmps117
  go_wp2
  go_region_held3 (fun W => (∃ x, W = gx w x) ∧ W.cell? ⟨gB, 13, none⟩ = some (.int .i64 2) ∧ W.cell? ⟨gB, 3, none⟩ = some (.int .i64 1))
    (refine ⟨(by repeat (first | (with_reducible exact Gx.refl _) | (with_reducible assumption) | (with_reducible refine Gx.gx ?_) | (with_reducible refine Gx.alloc ?_) | (with_reducible refine Gx.drew ?_) | (with_reducible refine Gx.drewN ?_) | (with_reducible refine Gx.setRow ?_ (by first | omega | (simp; done) | (simp <;> omega))) | (with_reducible refine Gx.setCell ?_ (by first | omega | (simp; done) | (simp <;> omega))))), ?_, ?_⟩ <;> first | assumption | exact cell_keep_gx ‹_› | go_keep | (simp [go_sem]; done))
    (first | (go_at_call 52; refine (digits_G _).mono ?_; rintro e w' ⟨rfl, x2, rfl⟩))
  all_goals go_wp2
  all_goals go_ret
  all_goals exact ⟨rfl, (by repeat (first | (with_reducible exact Gx.refl _) | (with_reducible assumption) | (with_reducible refine Gx.gx ?_) | (with_reducible refine Gx.alloc ?_) | (with_reducible refine Gx.drew ?_) | (with_reducible refine Gx.drewN ?_) | (with_reducible refine Gx.setRow ?_ (by first | omega | (simp; done) | (simp <;> omega))) | (with_reducible refine Gx.setCell ?_ (by first | omega | (simp; done) | (simp <;> omega)))))⟩
/-- The face that the guard shows. -/
abbrev fcG : Value := .agg #[.string ⟨#[45, 49, 46, 53]⟩, .int .i64 0, .bool false, .int .i64 4]
set_option maxHeartbeats 1000000 in
set_option maxRecDepth 100000 in
theorem face_G (gB c : Nat) (A : Option Addr) (w : World) (h : GaAt w gB A c) :
    Calls Tryz.prog 95 #[.pointer (some ⟨gB, 0, none⟩), mmG, .int .i64 1] w fun e w' => e = .returned fcG ∧ ∃ x, w' = gx w x := by
  have HV := Lib.hid (fun W (hW : ∃ x, W = gx w x) => value_any ⟨#[116]⟩ 2 smG 1 c A 100 1 W (h.on hW).s (by omega) smG_G (by omega) (by omega) ⟨70, -3, 4⟩ true smG_v1.1 smG_v1.2)
  have HD := Lib.hid (fun W (hW : ∃ x, W = gx w x) => gdigits_G gB c A W (h.on hW))
  dsimp only at HV
  have hb : gB < w.heap.size := World.block_lt_of_cell? w _ h.k
  obtain ⟨k, p, t0, t1, t2, t3, -⟩ := h
  go_enter Tryz.func95, Tryz.ntmps95
  go_wp2_with (first | (go_at_call 42; refine (HV.out _ (by repeat (first | (with_reducible exact Gx.refl _) | (with_reducible assumption) | (with_reducible refine Gx.gx ?_) | (with_reducible refine Gx.alloc ?_) | (with_reducible refine Gx.drew ?_) | (with_reducible refine Gx.drewN ?_) | (with_reducible refine Gx.setRow ?_ (by first | omega | (simp; done) | (simp <;> omega))) | (with_reducible refine Gx.setCell ?_ (by first | omega | (simp; done) | (simp <;> omega)))))).mono ?_; rintro e w' ⟨rfl, x1, rfl⟩) | (go_at_call 117; refine (HD.out _ (by repeat (first | (with_reducible exact Gx.refl _) | (with_reducible assumption) | (with_reducible refine Gx.gx ?_) | (with_reducible refine Gx.alloc ?_) | (with_reducible refine Gx.drew ?_) | (with_reducible refine Gx.drewN ?_) | (with_reducible refine Gx.setRow ?_ (by first | omega | (simp; done) | (simp <;> omega))) | (with_reducible refine Gx.setCell ?_ (by first | omega | (simp; done) | (simp <;> omega)))))).mono ?_; rintro e w' ⟨rfl, x2, rfl⟩))
  exact bodyPost_ret (v := fcG) (by simp [results, Tryz.results95, go_sem]) rfl ⟨rfl, (by repeat (first | (with_reducible exact Gx.refl _) | (with_reducible assumption) | (with_reducible refine Gx.gx ?_) | (with_reducible refine Gx.alloc ?_) | (with_reducible refine Gx.drew ?_) | (with_reducible refine Gx.drewN ?_) | (with_reducible refine Gx.setRow ?_ (by first | omega | (simp; done) | (simp <;> omega))) | (with_reducible refine Gx.setCell ?_ (by first | omega | (simp; done) | (simp <;> omega)))))⟩
end Go.Proofs.YtocaphcnnmcnjaaGreatDoor

/-
  slices.Clone of samples, of one track and of no zone.
-/
namespace Go.Proofs.YtocaphcnnmcnjaaGreatDoor
open Go.RowKit
-- AT2
-- AT3

theorem own_ne_at {b : Nat} {W : World} {e t : TypeId} {size n : Nat} {v : Value} {xs : List Value} {K : Nat} {cs : Array Value} (h : Own b W e size v n xs) (hA : At W K (.cells cs t (0, 0))) (hne : e ≠ t) : v.ownBlock ≠ some K := by
  rcases h.out.2 with ⟨rfl, _⟩ | ⟨g, cap, cur, rfl, _, hg, _⟩
  · simp [Value.ownBlock]
  · intro he
    simp only [Value.ownBlock, Option.some.injEq] at he
    subst he
    unfold At at hA
    rw [hg] at hA
    simp at hA
    exact hne hA.2
theorem At.setc {W : World} {K : Nat} {v u : Value} {t : TypeId} (h : At W K (.cells #[v] t (0, 0))) : At (W.setCell ⟨K, 0, none⟩ u) K (.cells #[u] t (0, 0)) := by
  unfold At at *
  simp [World.setCell, Array.getElem?_modify, h]
theorem grown_setc (W : World) (K o : Nat) (u : Value) : W.grownBy (W.setCell ⟨K, o, none⟩ u) (some K) :=
  ⟨rfl, rfl, rfl, by simp, fun k _ hk => by
    have hne : K ≠ k := fun e => hk (by rw [e])
    simp only [World.setCell]
    rw [Array.getElem?_modify, if_neg hne]⟩
theorem Own.setc {b : Nat} {W : World} {e : TypeId} {size n : Nat} {v u : Value} {xs : List Value} {K o : Nat} (h : Own b W e size v n xs) (hne : v.ownBlock ≠ some K) : Own b (W.setCell ⟨K, o, none⟩ u) e size v n xs :=
  h.kept (grown_setc W K o u) (.inr hne)
theorem At.cell {W : World} {K : Nat} {v : Value} {t : TypeId} (h : At W K (.cells #[v] t (0, 0))) : W.cell? ⟨K, 0, none⟩ = some v := by
  rw [cell_of_row W K 0 _ _ _ h]; rfl
theorem At.frz {W : World} {K o : Nat} {cs : Array Value} {t : TypeId} (h : At W K (.cells cs t (0, 0))) : W.frozen? ⟨K, o, none⟩ = false := by
  unfold At at h
  simp [World.frozen?, h]
theorem setc_other {W : World} {p q : Addr} {u v : Value} (h : W.cell? q = some v) (hne : p ≠ q) : (W.setCell p u).cell? q = some v := (World.cell?_setCell_other _ _ _ _ hne).trans h
theorem At.setc_other {W : World} {g K o : Nat} {u : Value} {ob : Obj} (h : At W g ob) (hne : K ≠ g) : At (W.setCell ⟨K, o, none⟩ u) g ob := by
  unfold At at *
  simp only [World.setCell]
  rw [Array.getElem?_modify, if_neg hne]
  exact h
theorem Is.setc {W : World} {g K o : Nat} {u : Value} {t : TypeId} (h : Is W g t) : Is (W.setCell ⟨K, o, none⟩ u) g t := by
  obtain ⟨cs, h⟩ := h
  by_cases e : K = g
  · subst e
    unfold At at h
    refine ⟨cs.setIfInBounds o u, ?_⟩
    unfold At
    simp [World.setCell, Array.getElem?_modify, h]
  · exact ⟨cs, At.setc_other h e⟩
/-- The cells of the first k samples. -/
def smC (f : Nat → Sm) : Nat → List Value
  | 0 => []
  | k + 1 => smC f k ++ [.int .i64 (f k).t, .int .i64 (f k).n, .int .i64 (f k).m]
theorem smC_len (f : Nat → Sm) : ∀ k, (smC f k).length = k * 3
  | 0 => rfl
  | k + 1 => by show (smC f k ++ _).length = _; rw [List.length_append, smC_len f k]; simp; omega
theorem smC_at (f : Nat → Sm) : ∀ k i, i < k → (smC f k)[i * 3]? = some (.int .i64 (f i).t) ∧ (smC f k)[i * 3 + 1]? = some (.int .i64 (f i).n) ∧ (smC f k)[i * 3 + 2]? = some (.int .i64 (f i).m)
  | 0, i, h => by omega
  | k + 1, i, h => by
    show (smC f k ++ [.int .i64 (f k).t, .int .i64 (f k).n, .int .i64 (f k).m])[i * 3]? = _ ∧ (smC f k ++ [.int .i64 (f k).t, .int .i64 (f k).n, .int .i64 (f k).m])[i * 3 + 1]? = _ ∧ (smC f k ++ [.int .i64 (f k).t, .int .i64 (f k).n, .int .i64 (f k).m])[i * 3 + 2]? = _
    have hl := smC_len f k
    rcases Nat.lt_or_ge i k with h1 | h1
    · obtain ⟨e1, e2, e3⟩ := smC_at f k i h1
      rw [List.getElem?_append_left (by omega), List.getElem?_append_left (by omega), List.getElem?_append_left (by omega)]
      exact ⟨e1, e2, e3⟩
    · obtain rfl : i = k := by omega
      rw [List.getElem?_append_right (by omega), List.getElem?_append_right (by omega), List.getElem?_append_right (by omega), hl]
      rw [show i * 3 - i * 3 = 0 by omega, show i * 3 + 1 - i * 3 = 1 by omega, show i * 3 + 2 - i * 3 = 2 by omega]
      exact ⟨rfl, rfl, rfl⟩
theorem smC_succ (f : Nat → Sm) (k : Nat) : smC f (k + 1) = smC f k ++ [.int .i64 (f k).t, .int .i64 (f k).n, .int .i64 (f k).m] := rfl
theorem Own.sm {b : Nat} {W : World} {A : Option Addr} {k c : Nat} {f : Nat → Sm} (h : Own b W 45 3 (.slice A k c) k (smC f k)) : SmAt W f k A := by
  refine SmAt.mk fun h0 => ?_
  obtain ⟨A', c', e, _, _, _, hsh⟩ := h.is
  injection e with e1 e2 e3
  subst e1
  unfold Shows at hsh
  obtain ⟨g, o, rfl, hc⟩ := hsh (by rw [smC_len]; omega)
  refine ⟨g, o, rfl, fun i hi => ?_⟩
  obtain ⟨e1, e2, e3⟩ := smC_at f k i hi
  have h1 := hc _ _ e1
  have h2 := hc _ _ e2
  have h3 := hc _ _ e3
  rw [← Nat.add_assoc] at h2 h3
  exact ⟨h1, h2, h3⟩
theorem el_sample : Elem 39 45 3 24 := elem_of Tryz.underlying39 (by decide) (z := .agg #[.int .i64 0, .int .i64 0, .int .i64 0]) (by kernel_rfl) rfl

theorem SmAt.shows {W : World} {g : Nat → Sm} {n : Nat} {A : Option Addr} (h : SmAt W g n A) : Shows (smC g n) A W := by
  unfold Shows
  intro hl
  rw [smC_len] at hl
  unfold SmAt at h
  obtain ⟨b, o, rfl, hc⟩ := h (by omega)
  refine ⟨b, o, rfl, fun j u hu => ?_⟩
  have hj := (List.getElem?_eq_some_iff.1 hu).1
  rw [smC_len] at hj
  obtain ⟨i, r, hr, rfl⟩ : ∃ i r, r < 3 ∧ j = i * 3 + r := ⟨j / 3, j % 3, by omega, by omega⟩
  obtain ⟨e1, e2, e3⟩ := smC_at g n i (by omega)
  obtain ⟨c1, c2, c3⟩ := hc i (by omega)
  rw [← Nat.add_assoc]
  rcases (by omega : r = 0 ∨ r = 1 ∨ r = 2) with rfl | rfl | rfl
  · rw [Nat.add_zero] at hu ⊢; rw [e1] at hu; rw [c1, hu]
  · rw [e2] at hu; rw [c2, hu]
  · rw [e3] at hu; rw [c3, hu]
theorem smC_one (g : Nat → Sm) : ∀ n, ∀ u ∈ smC g n, u.oneCell' = true
  | 0, u, h => by cases h
  | n + 1, u, h => by
    rw [smC_succ, List.mem_append] at h
    rcases h with h | h
    · exact smC_one g n u h
    · simp only [List.mem_cons, List.not_mem_nil, or_false] at h
      rcases h with rfl | rfl | rfl <;> rfl
theorem Own.smz {b : Nat} {W : World} {A : Option Addr} {n c : Nat} {f : Nat → Sm} (h : Own b W 45 3 (.slice A (0 + n) c) (0 + n) ([] ++ smC f n)) : Own b W 45 3 (.slice A n c) n (smC f n) := by
  rw [Nat.zero_add, List.nil_append] at h; exact h
theorem Own.empty {b g : Nat} {W : World} (hA : At W g (.cells #[] 45 (0, 0))) (hb : b ≤ g) : Own b W 45 3 (.slice (some ⟨g, 0, none⟩) 0 0) 0 [] :=
  Own.mk' ⟨rfl, .inr ⟨g, 0, #[], rfl, hb, hA, Nat.le_refl _, by simp only [maxLen]; omega, rfl, rfl⟩⟩
set_option maxHeartbeats 1000000 in
set_option maxRecDepth 100000 in
theorem Clone_any (g : Nat → Sm) (n c : Nat) (A : Option Addr) (w : World) (hL : SmAt w g n A) (hN : A = none → n = 0 ∧ c = 0) (hn : n ≤ 20000) :
    Calls Tryz.prog 90 #[.slice A n c] w fun e w' => ∃ A' c' x, e = .returned (.slice A' n c') ∧ w' = gx w x ∧ Own w.heap.size w' 45 3 (.slice A' n c') n (smC g n) := by
  cases A with
  | none =>
    obtain ⟨rfl, rfl⟩ := hN rfl
    clear hN
    have he : ∀ w : World, (binOp .eql 39 (.slice none 0 0) (.slice none 0 0)).run Tryz.prog w = .ok (.bool true) w := fun _ => rfl
    go_enter Tryz.func90, Tryz.ntmps90
    go_wp2
    go_ret
    exact ⟨none, 0, _, rfl, (gx_none w).symm, Own.nil _ _ _ _⟩
  | some ad =>
    have he : ∀ w : World, (binOp .eql 39 (.slice (some ad) n c) (.slice none 0 0)).run Tryz.prog w = .ok (.bool false) w := fun _ => rfl
    have hsh := hL.shows
    clear hN
    go_enter Tryz.func90, Tryz.ntmps90
    go_wp2_with (at_builtin; (with_reducible apply append_all (o := ⟨some 7, _, _, _, _, _⟩) el_sample w w.heap.size (v := .slice (some ⟨w.heap.size, 0, none⟩) 0 0) (n := 0) (xs := []) (A := some ad) (m := n) (c := c) (news := smC g n)); go_loud (exact rfl; exact rfl; exact rfl; exact rfl; exact (fun h => by cases h); (focus omega); exact Own.empty (At.new w _) (Nat.le_refl _); exact (by repeat (first | (with_reducible exact Gx.refl _) | (with_reducible assumption) | (with_reducible refine Gx.gx ?_) | (with_reducible refine Gx.alloc ?_) | (with_reducible refine Gx.drew ?_) | (with_reducible refine Gx.drewN ?_) | (with_reducible refine Gx.setRow ?_ (by first | omega | (simp; done) | (simp <;> omega))) | (with_reducible refine Gx.setCell ?_ (by first | omega | (simp; done) | (simp <;> omega))))); (focus (simp <;> omega)); exact smC_len g n; exact hL.alloc.shows; exact smC_one g n; (focus (simp only [maxLen]; omega)); (focus omega); rintro v' W3 hG3 hO3 hg3; obtain ⟨A3, c3, rfl, -⟩ := hO3.is; have hO4 := hO3.smz))
    go_ret
    obtain ⟨x, hx⟩ := hG3
    exact ⟨A3, c3, x, rfl, hx, hO4⟩
theorem el_track : Elem 70 43 4 56 := elem_of Tryz.underlying70 (by decide) (z := .agg #[.string ⟨#[]⟩, .int .i64 0, .slice none 0 0, .int .i64 0]) (by kernel_rfl) rfl
/-- The cells of a track. -/
def trC (den : Int) (A : Option Addr) (n c : Nat) (lg : Int) : List Value := [.string ⟨#[116]⟩, .int .i64 den, .slice A n c, .int .i64 lg]
theorem TrAt.shows {w : World} {b : Nat} {den : Int} {A : Option Addr} {n c : Nat} {lg : Int} (h : TrAt w b 0 den A n c lg) : Shows (trC den A n c lg) (some ⟨b, 0, none⟩) w := by
  unfold Shows
  intro _
  refine ⟨b, 0, rfl, fun j u hu => ?_⟩
  unfold trC at hu
  rw [Nat.zero_add]
  have hj := (List.getElem?_eq_some_iff.1 hu).1
  simp only [List.length_cons, List.length_nil] at hj
  rcases (by omega : j = 0 ∨ j = 1 ∨ j = 2 ∨ j = 3) with rfl | rfl | rfl | rfl
  · simp at hu; subst hu; exact h.c0
  · simp at hu; subst hu; exact h.c1
  · simp at hu; subst hu; exact h.c2
  · simp at hu; subst hu; exact h.c3
theorem Own.emptyT {b g : Nat} {W : World} (hA : At W g (.cells #[] 43 (0, 0))) (hb : b ≤ g) : Own b W 43 4 (.slice (some ⟨g, 0, none⟩) 0 0) 0 [] :=
  Own.mk' ⟨rfl, .inr ⟨g, 0, #[], rfl, hb, hA, Nat.le_refl _, by simp only [maxLen]; omega, rfl, rfl⟩⟩
theorem Own.smT {b : Nat} {W : World} {A : Option Addr} {c : Nat} {xs : List Value} (h : Own b W 43 4 (.slice A (0 + 1) c) (0 + 1) ([] ++ xs)) : Own b W 43 4 (.slice A 1 c) 1 xs := by
  rw [Nat.zero_add, List.nil_append] at h; exact h
set_option maxHeartbeats 1000000 in
set_option maxRecDepth 100000 in
theorem CloneT_one (b c : Nat) (den : Int) (A : Option Addr) (n ct : Nat) (lg : Int) (w : World) (hT : TrAt w b 0 den A n ct lg) :
    Calls Tryz.prog 89 #[.slice (some ⟨b, 0, none⟩) 1 c] w fun e w' => ∃ A' c', e = .returned (.slice A' 1 c') ∧ (∃ x, w' = gx w x) ∧ Own w.heap.size w' 43 4 (.slice A' 1 c') 1 (trC den A n ct lg) := by
  have he : ∀ w : World, (binOp .eql 70 (.slice (some ⟨b, 0, none⟩) 1 c) (.slice none 0 0)).run Tryz.prog w = .ok (.bool false) w := fun _ => rfl
  have hsh := (hT.on (Gx.alloc (Gx.refl w) : ∃ x, w.alloc (.cells #[] 43) = gx w x)).shows
  go_enter Tryz.func89, Tryz.ntmps89
  go_wp2_with (at_builtin; (with_reducible apply append_all (o := ⟨some 7, _, _, _, _, _⟩) el_track w w.heap.size (v := .slice (some ⟨w.heap.size, 0, none⟩) 0 0) (n := 0) (xs := []) (A := some ⟨b, 0, none⟩) (m := 1) (c := c) (news := trC den A n ct lg)); go_loud (exact rfl; exact rfl; exact rfl; exact rfl; exact (fun h => by cases h); (focus omega); exact Own.emptyT (At.new w _) (Nat.le_refl _); exact (by repeat (first | (with_reducible exact Gx.refl _) | (with_reducible assumption) | (with_reducible refine Gx.gx ?_) | (with_reducible refine Gx.alloc ?_) | (with_reducible refine Gx.drew ?_) | (with_reducible refine Gx.drewN ?_) | (with_reducible refine Gx.setRow ?_ (by first | omega | (simp; done) | (simp <;> omega))) | (with_reducible refine Gx.setCell ?_ (by first | omega | (simp; done) | (simp <;> omega))))); (focus (simp <;> omega)); exact rfl; exact hsh; (focus (intro u hu; simp [trC] at hu; rcases hu with rfl | rfl | rfl | rfl <;> rfl)); (focus (simp only [maxLen]; omega)); (focus omega); rintro v' W3 hG3 hO3 hg3; obtain ⟨A3, c3, rfl, -⟩ := hO3.is; have hO4 := hO3.smT))
  go_ret
  exact ⟨A3, c3, rfl, hG3, hO4⟩
set_option maxRecDepth 100000 in
theorem CloneZ_none (w : World) : Calls Tryz.prog 92 #[.slice none 0 0] w fun e w' => e = .returned (.slice none 0 0) ∧ ∃ x, w' = gx w x := by
  have he : ∀ w : World, (binOp .eql 25 (.slice none 0 0) (.slice none 0 0)).run Tryz.prog w = .ok (.bool true) w := fun _ => rfl
  go_enter Tryz.func92, Tryz.ntmps92
  go_wp2
  go_ret
  exact ⟨rfl, (by repeat (first | (with_reducible exact Gx.refl _) | (with_reducible assumption) | (with_reducible refine Gx.gx ?_) | (with_reducible refine Gx.alloc ?_) | (with_reducible refine Gx.drew ?_) | (with_reducible refine Gx.drewN ?_) | (with_reducible refine Gx.setRow ?_ (by first | omega | (simp; done) | (simp <;> omega))) | (with_reducible refine Gx.setCell ?_ (by first | omega | (simp; done) | (simp <;> omega)))))⟩
end Go.Proofs.YtocaphcnnmcnjaaGreatDoor

/-
  The guard of stage 8: the board that it makes.
-/
namespace Go.Proofs.YtocaphcnnmcnjaaGreatDoor
open Go.RowKit
-- AT2
-- AT3

/-- The cells of the guard's gauge. -/
def gaC (A : Option Addr) (n c : Nat) : Array Value := #[.int .i64 1, .string ⟨#[97]⟩, .string ⟨#[116]⟩, .int .i64 1, .int .i64 0, .int .i64 0, .int .i64 0, .slice none 0 0, .int .i64 0, .int .i64 0, .bool false, .int .i64 0, .string ⟨#[116]⟩, .int .i64 2, .slice A n c, .int .i64 100, .slice none 0 0]
theorem make_bd (w : World) : (Instr.makeSlice 100 (.int .i64 1) (.int .i64 1)).run Tryz.prog w = .ok (.slice (some ⟨w.heap.size, 0, none⟩) 1 1) (w.alloc (.cells #[.int .i64 0, .string ⟨#[]⟩, .string ⟨#[]⟩, .int .i64 0, .int .i64 0, .int .i64 0, .int .i64 0, .slice none 0 0, .int .i64 0, .int .i64 0, .bool false, .int .i64 0, .string ⟨#[]⟩, .int .i64 0, .slice none 0 0, .int .i64 0, .slice none 0 0] 132)) := by kernel_rfl
set_option maxHeartbeats 2000000 in
set_option maxRecDepth 100000 in
theorem boardOf_G (b c bt ct : Nat) (A : Option Addr) (n cs : Nat) (w : World) (h : InAt w b) (hT : TrAt w bt 0 2 A n cs 100) :
    Calls Tryz.prog 91 #[.agg #[.slice (some ⟨b, 0, none⟩) 1 c], .slice (some ⟨bt, 0, none⟩) 1 ct] w fun e w' => ∃ gB, e = .returned (.slice (some ⟨gB, 0, none⟩) 1 1) ∧ w.heap.size ≤ gB ∧ At w' gB (.cells (gaC A n cs) 132 (0, 0)) ∧ ∃ x, w' = gx w x := by
  have K3 := Lib.hid (fun W (hW : ∃ x, W = gx w x) => TrackNumber_one bt ct 2 A n cs 100 W (hT.on hW))
  have hb : b < w.heap.size := World.block_lt_of_cell? w _ h.c0
  have ht : bt < w.heap.size := World.block_lt_of_cell? w _ hT.c0
  have hmk := make_bd
  obtain ⟨c0, c1, c2, c3, c4, c5, c6, c7, c8, c9, c10, c11⟩ := h
  obtain ⟨t0, t1, t2, t3⟩ := hT
  go_enter Tryz.func91, Tryz.ntmps91
  go_wp2
  refine wp_loop_rounds 2 ?_
  rw [rounds_succ]
  go_wp2
  go_region_with (first | (go_at_call 70; refine (K3.out _ (by repeat (first | (with_reducible exact Gx.refl _) | (with_reducible assumption) | (with_reducible refine Gx.gx ?_) | (with_reducible refine Gx.alloc ?_) | (with_reducible refine Gx.drew ?_) | (with_reducible refine Gx.drewN ?_) | (with_reducible refine Gx.setRow ?_ (by first | omega | (simp; done) | (simp <;> omega))) | (with_reducible refine Gx.setCell ?_ (by first | omega | (simp; done) | (simp <;> omega)))))).mono ?_; rintro e w' ⟨rfl, x1, rfl⟩))
  all_goals go_wp2
  all_goals rw [rounds_succ]
  all_goals go_wp2
  all_goals (refine bodyPost_ret (v := .slice (some ⟨w.heap.size + 1, 0, none⟩) 1 1) ?_ rfl ?_; (focus (simp [results, Tryz.results91, go_sem]; done)); refine ⟨_, rfl, by omega, ?_, (by repeat (first | (with_reducible exact Gx.refl _) | (with_reducible assumption) | (with_reducible refine Gx.gx ?_) | (with_reducible refine Gx.alloc ?_) | (with_reducible refine Gx.drew ?_) | (with_reducible refine Gx.drewN ?_) | (with_reducible refine Gx.setRow ?_ (by first | omega | (simp; done) | (simp <;> omega))) | (with_reducible refine Gx.setCell ?_ (by first | omega | (simp; done) | (simp <;> omega)))))⟩; unfold gaC; (focus (repeat (first | (with_reducible assumption) | (with_reducible exact At.new _ _) | (with_reducible refine At.row ?_) | ((with_reducible refine At.row_other ?_ ?_); rotate_left; (focus (simp <;> omega))) | (with_reducible refine At.app ?_) | (with_reducible refine At.tick ?_) | (with_reducible refine At.gx ?_) | ((with_reducible refine At.new' ?_); focus (simp; done)) | (with_reducible refine At.alloc ?_) | (with_reducible refine At.drew ?_) | (with_reducible exact Is.new _ _ _) | (with_reducible refine Is.row ?_) | ((with_reducible refine Is.row_other ?_ ?_); rotate_left; (focus (simp <;> omega))) | (with_reducible refine Is.gx ?_) | ((with_reducible refine Is.new' ?_); focus (simp; done)) | (with_reducible refine Is.alloc ?_) | (with_reducible refine Is.drew ?_)))))
end Go.Proofs.YtocaphcnnmcnjaaGreatDoor

/-
  The guard of stage 8: the board of a replay.
-/
namespace Go.Proofs.YtocaphcnnmcnjaaGreatDoor
open Go.RowKit
-- AT2
-- AT3

theorem own_one {b : Nat} {W : World} {e : TypeId} {s c : Nat} {A : Option Addr} {xs : List Value} (h : Own b W e s (.slice A 1 c) 1 xs) : ∃ g cur, A = some ⟨g, 0, none⟩ ∧ b ≤ g ∧ At W g (.cells cur e (0, 0)) ∧ ∀ j u, xs[j]? = some u → W.cell? ⟨g, j, none⟩ = some u := by
  rcases h.out.2 with ⟨he, h0⟩ | ⟨g, cap, cur, he, hb, hA, _, _, _, ht⟩
  · simp at h0
  · simp only [Value.slice.injEq, true_and] at he
    obtain ⟨rfl, rfl⟩ := he
    have hA' : At W g (.cells cur e (0, 0)) := by unfold At; exact hA
    refine ⟨g, cur, rfl, hb, hA', fun j u hu => ?_⟩
    rw [cell_of_row W _ _ _ _ _ hA', ← Array.getElem?_toList]
    rw [← ht, List.getElem?_take, Nat.one_mul] at hu
    split at hu
    · exact hu
    · cases hu
theorem TrAt.of_own {g : Nat} {W : World} {den : Int} {A : Option Addr} {n c : Nat} {lg : Int} (h : ∀ j u, (trC den A n c lg)[j]? = some u → W.cell? ⟨g, j, none⟩ = some u) : TrAt W g 0 den A n c lg :=
  ⟨h 0 _ rfl, h 1 _ rfl, h 2 _ rfl, h 3 _ rfl⟩
theorem TrAt.put {W : World} {g : Nat} {den : Int} {A A' : Option Addr} {n c n' c' : Nat} {lg : Int} (h : TrAt W g 0 den A n c lg) : TrAt (W.setCell ⟨g, 2, none⟩ (.slice A' n' c')) g 0 den A' n' c' lg :=
  ⟨setc_other h.c0 (fun e => by injection e with e1 e2; omega), setc_other h.c1 (fun e => by injection e with e1 e2; omega), World.cell?_setCell_same _ _ _ h.c2, setc_other h.c3 (fun e => by injection e with e1 e2; omega)⟩
theorem smAt_setc {W : World} {g : Nat → Sm} {n c : Nat} {b K j : Nat} {A : Option Addr} {u : Value} (h : Own b W 45 3 (.slice A n c) n (smC g n)) (hK : K < b) : SmAt (W.setCell ⟨K, j, none⟩ u) g n A :=
  (h.setc (o := j) (u := u) (K := K) (fun e => by have := h.lt K e; omega)).sm
theorem GaAt.of_row {W : World} {gB : Nat} {A : Option Addr} {c : Nat} (h : At W gB (.cells (gaC A 1 c) 132 (0, 0))) (hs : SmAt W smG 1 A) : GaAt W gB A c :=
  ⟨by rw [cell_of_row W _ _ _ _ _ h]; rfl, by rw [cell_of_row W _ _ _ _ _ h]; rfl, by rw [cell_of_row W _ _ _ _ _ h]; rfl, by rw [cell_of_row W _ _ _ _ _ h]; rfl, by rw [cell_of_row W _ _ _ _ _ h]; rfl, by rw [cell_of_row W _ _ _ _ _ h]; rfl, hs⟩
set_option maxHeartbeats 2000000 in
set_option maxRecDepth 100000 in
theorem ownBoard_G (b c bt ct cs : Nat) (A : Option Addr) (hN : A = none → 1 = 0 ∧ cs = 0) (w : World) (h : InAt w b) (hT : TrAt w bt 0 2 A 1 cs 100) (hL : SmAt w smG 1 A) :
    Calls Tryz.prog 65 #[.agg #[.slice (some ⟨b, 0, none⟩) 1 c], .slice (some ⟨bt, 0, none⟩) 1 ct] w fun e w' => ∃ gB A' c', e = .returned (.slice (some ⟨gB, 0, none⟩) 1 1) ∧ w.heap.size ≤ gB ∧ GaAt w' gB A' c' ∧ ∃ x, w' = gx w x := by
  have K1 := Lib.hid (fun W (hW : ∃ x, W = gx w x) => CloneT_one bt ct 2 A 1 cs 100 W (hT.on hW))
  have K2 := Lib.hid (fun W (hW : ∃ x, W = gx w x) => Clone_any smG 1 cs A W (by obtain ⟨x, rfl⟩ := hW; exact hL.gx) hN (by omega))
  have HI := Lib.hid h
  clear h hT hL hN
  go_enter Tryz.func65, Tryz.ntmps65
  go_wp2_with (first | (go_at_call 89; refine (K1.out _ (by repeat (first | (with_reducible exact Gx.refl _) | (with_reducible assumption) | (with_reducible refine Gx.gx ?_) | (with_reducible refine Gx.alloc ?_) | (with_reducible refine Gx.drew ?_) | (with_reducible refine Gx.drewN ?_) | (with_reducible refine Gx.setRow ?_ (by first | omega | (simp; done) | (simp <;> omega))) | (with_reducible refine Gx.setCell ?_ (by first | omega | (simp; done) | (simp <;> omega)))))).mono ?_; rintro e W1 ⟨A1, c1, rfl, hG1, hO1⟩))
  obtain ⟨gT, cur, rfl, hb1, hA1, hc1⟩ := own_one hO1
  have hT1 : TrAt W1 gT 0 2 A 1 cs 100 := TrAt.of_own hc1
  have G1 : ∃ x, W1 = gx w x := Gx.trans hG1 (by repeat (first | (with_reducible exact Gx.refl _) | (with_reducible assumption) | (with_reducible refine Gx.gx ?_) | (with_reducible refine Gx.alloc ?_) | (with_reducible refine Gx.drew ?_) | (with_reducible refine Gx.drewN ?_) | (with_reducible refine Gx.setRow ?_ (by first | omega | (simp; done) | (simp <;> omega))) | (with_reducible refine Gx.setCell ?_ (by first | omega | (simp; done) | (simp <;> omega)))))
  have pc1 : W1.cell? ⟨w.heap.size, 0, none⟩ = some (.slice (some ⟨b, 0, none⟩) 1 c) := by obtain ⟨x, rfl⟩ := hG1; exact cell_keep_gx (by rw [cell_of_row _ _ _ _ _ _ (At.new w _)]; rfl)
  have hb : w.heap.size + 1 ≤ gT := by simpa using hb1
  have ne1 : gT ≠ w.heap.size := by omega
  have ne2 : w.heap.size ≠ gT := by omega
  have lT := hA1.lt
  have lw : w.heap.size < W1.heap.size := by omega
  have HT1 := Lib.hid hT1
  obtain ⟨t0, t1, t2, t3⟩ := hT1
  simp only [Nat.zero_add] at t1 t2 t3
  have HG1 := Lib.hid G1
  clear hO1 hc1 hG1 hb1 G1
  refine wp_loop_rounds 2 ?_
  rw [rounds_succ]
  go_wp2_with (first | (go_at_call 90; refine (K2.out _ (Gx.trans (by repeat (first | (with_reducible exact Gx.refl _) | (with_reducible assumption) | (with_reducible refine Gx.gx ?_) | (with_reducible refine Gx.alloc ?_) | (with_reducible refine Gx.drew ?_) | (with_reducible refine Gx.drewN ?_) | (with_reducible refine Gx.setRow ?_ (by first | omega | (simp; done) | (simp <;> omega))) | (with_reducible refine Gx.setCell ?_ (by first | omega | (simp; done) | (simp <;> omega))))) HG1.out)).mono ?_; rintro e W2 ⟨A2, c2, x2, rfl, hW2, hO2⟩; have u2 : W2.cell? ⟨gT, 2, none⟩ = some (.slice A 1 cs) := (by rw [hW2]; exact cell_keep_gx t2); have hA2 : At W2 gT (.cells cur 43 (0, 0)) := (by rw [hW2]; (focus (repeat (first | (with_reducible assumption) | (with_reducible exact At.new _ _) | (with_reducible refine At.row ?_) | ((with_reducible refine At.row_other ?_ ?_); rotate_left; (focus (simp <;> omega))) | (with_reducible refine At.app ?_) | (with_reducible refine At.tick ?_) | (with_reducible refine At.gx ?_) | ((with_reducible refine At.new' ?_); focus (simp; done)) | (with_reducible refine At.alloc ?_) | (with_reducible refine At.drew ?_) | (with_reducible exact Is.new _ _ _) | (with_reducible refine Is.row ?_) | ((with_reducible refine Is.row_other ?_ ?_); rotate_left; (focus (simp <;> omega))) | (with_reducible refine Is.gx ?_) | ((with_reducible refine Is.new' ?_); focus (simp; done)) | (with_reducible refine Is.alloc ?_) | (with_reducible refine Is.drew ?_))))); have fz2 := hA2.frz (o := 2); have HT2 : Hid (TrAt W2 gT 0 2 A 1 cs 100) := Lib.hid (by rw [hW2]; exact HT1.out.gx); have pc2 : W2.cell? ⟨w.heap.size, 0, none⟩ = some (.slice (some ⟨b, 0, none⟩) 1 c) := (by rw [hW2]; exact cell_keep_gx pc1); have HG2 : Hid (∃ x, W2 = gx w x) := Lib.hid (by rw [hW2]; exact Gx.gx HG1.out); have lT2 := hA2.lt; have lw2 : w.heap.size < W2.heap.size := (by omega); have HO2 := Lib.hid hO2; clear hW2 hO2 hA2))
  rw [rounds_succ]
  have pc3 : (W2.setCell ⟨gT, 2, none⟩ (.slice A2 1 c2)).cell? ⟨w.heap.size, 0, none⟩ = some (.slice (some ⟨b, 0, none⟩) 1 c) := setc_other pc2 (fun e => by injection e with e1 e2; omega)
  have G3 : ∃ x, W2.setCell ⟨gT, 2, none⟩ (.slice A2 1 c2) = gx w x := Gx.setCell HG2.out (by omega)
  have T3 : TrAt (W2.setCell ⟨gT, 2, none⟩ (.slice A2 1 c2)) gT 0 2 A2 1 c2 100 := HT2.out.put
  have S3 : SmAt (W2.setCell ⟨gT, 2, none⟩ (.slice A2 1 c2)) smG 1 A2 := smAt_setc HO2.out lT
  have lw3 : w.heap.size < (W2.setCell ⟨gT, 2, none⟩ (.slice A2 1 c2)).heap.size := World.block_lt_of_cell? _ _ pc3
  generalize W2.setCell ⟨gT, 2, none⟩ (.slice A2 1 c2) = W3 at *
  have HG3 := Lib.hid G3
  have HT3 := Lib.hid T3
  have HS3 := Lib.hid S3
  clear G3 T3 S3 K1 K2 HO2 HT2 HG2 HT1 HG1 u2 fz2 pc2 pc1 t0 t1 t2 t3 lT2 lw2
  go_wp2_with (first | (go_at_call 91; refine (boardOf_G b c gT c1 A2 1 c2 _ (HI.out.on (Gx.trans (by repeat (first | (with_reducible exact Gx.refl _) | (with_reducible assumption) | (with_reducible refine Gx.gx ?_) | (with_reducible refine Gx.alloc ?_) | (with_reducible refine Gx.drew ?_) | (with_reducible refine Gx.drewN ?_) | (with_reducible refine Gx.setRow ?_ (by first | omega | (simp; done) | (simp <;> omega))) | (with_reducible refine Gx.setCell ?_ (by first | omega | (simp; done) | (simp <;> omega))))) HG3.out)) (HT3.out.on (by repeat (first | (with_reducible exact Gx.refl _) | (with_reducible assumption) | (with_reducible refine Gx.gx ?_) | (with_reducible refine Gx.alloc ?_) | (with_reducible refine Gx.drew ?_) | (with_reducible refine Gx.drewN ?_) | (with_reducible refine Gx.setRow ?_ (by first | omega | (simp; done) | (simp <;> omega))) | (with_reducible refine Gx.setCell ?_ (by first | omega | (simp; done) | (simp <;> omega))))))).mono ?_; rintro e W4 ⟨gB, rfl, hgB, hAB, hG4⟩; have HG4 := Lib.hid hG4; have b7 : W4.cell? ⟨gB, 7, none⟩ = some (.slice none 0 0) := (by rw [cell_of_row W4 _ _ _ _ _ hAB]; rfl); have fz4 := hAB.frz (o := 7); have lB := hAB.lt; have HAB := Lib.hid hAB; clear hG4 hAB))
  refine wp_loop_rounds 2 ?_
  rw [rounds_succ]
  go_wp2_with (first | (go_at_call 92; refine (CloneZ_none _).mono ?_; rintro e w' ⟨rfl, z, rfl⟩))
  rw [rounds_succ]
  go_wp2
  go_ret
  have hA4 := HAB.out
  have key : ∀ j v, W4.cell? ⟨gB, j, none⟩ = some v → j ≠ 7 → (gx (W4.setCell ⟨gB, 7, none⟩ (.slice none 0 0)) z).cell? ⟨gB, j, none⟩ = some v := fun j v h hj => cell_keep_gx (setc_other h (fun e => by injection e with e1 e2; omega))
  have hG4 : ∃ x, W4 = gx W3 x := HG4.out
  have hw3 : W3.heap.size ≤ gB := hgB
  have hS : SmAt (gx (W4.setCell ⟨gB, 7, none⟩ (.slice none 0 0)) z) smG 1 A2 := by
    obtain ⟨y, hy⟩ : ∃ y, W4.setCell ⟨gB, 7, none⟩ (.slice none 0 0) = gx W3 y := Gx.setCell hG4 hw3
    rw [hy]
    exact HS3.out.gx.gx
  refine ⟨gB, A2, c2, rfl, by omega, ⟨key 0 _ ?_ (by omega), key 3 _ ?_ (by omega), key 12 _ ?_ (by omega), key 13 _ ?_ (by omega), key 14 _ ?_ (by omega), key 15 _ ?_ (by omega), hS⟩, Gx.gx (Gx.setCell (Gx.trans hG4 HG3.out) (by omega))⟩
  all_goals (rw [cell_of_row W4 _ _ _ _ _ hA4]; rfl)
end Go.Proofs.YtocaphcnnmcnjaaGreatDoor

/-
  The guard of stage 8: its board: the first state, the next one, the faces.
-/
namespace Go.Proofs.YtocaphcnnmcnjaaGreatDoor
open Go.RowKit
-- AT2
-- AT3

/-- A memo that remembers nothing lies in a block. -/
structure MmAt (w : World) (g : Nat) : Prop where
  c0 : w.cell? ⟨g, 0, none⟩ = some (.bool false)
  c1 : w.cell? ⟨g, 1, none⟩ = some (.bool false)
  c2 : w.cell? ⟨g, 2, none⟩ = some (.int .i64 0)
  c3 : w.cell? ⟨g, 3, none⟩ = some (.int .i64 0)
theorem MmAt.on {w W : World} {g : Nat} (h : MmAt w g) (hW : ∃ x, W = Go.Proofs.YtocaphcnnmcnjaaGreatDoor.gx w x) : MmAt W g := by
  obtain ⟨x, rfl⟩ := hW
  exact ⟨cell_keep_gx h.c0, cell_keep_gx h.c1, cell_keep_gx h.c2, cell_keep_gx h.c3⟩
abbrev stV (fr : Int) (gM : Nat) : Value := .agg #[.int .i64 fr, .slice (some ⟨gM, 0, none⟩) 1 1]
theorem mmAt_new {w : World} {g : Nat} {t : TypeId} (h : At w g (.cells #[.bool false, .bool false, .int .i64 0, .int .i64 0] t (0, 0))) : MmAt w g :=
  ⟨by rw [cell_of_row w _ _ _ _ _ h]; rfl, by rw [cell_of_row w _ _ _ _ _ h]; rfl, by rw [cell_of_row w _ _ _ _ _ h]; rfl, by rw [cell_of_row w _ _ _ _ _ h]; rfl⟩
theorem make_mm (w : World) : (Instr.makeSlice 102 (.int .i64 1) (.int .i64 1)).run Tryz.prog w = .ok (.slice (some ⟨w.heap.size, 0, none⟩) 1 1) (w.alloc (.cells #[.bool false, .bool false, .int .i64 0, .int .i64 0] 135)) := by kernel_rfl
set_option maxHeartbeats 1000000 in
set_option maxRecDepth 100000 in
theorem first_G (gB c : Nat) (w : World) :
    Calls Tryz.prog 66 #[.slice (some ⟨gB, 0, none⟩) 1 c] w fun e w' => ∃ gM, e = .returned (stV (-1) gM) ∧ w.heap.size ≤ gM ∧ MmAt w' gM ∧ ∃ x, w' = gx w x := by
  have hmk := make_mm
  go_enter Tryz.func66, Tryz.ntmps66
  go_wp2
  refine bodyPost_ret (v := stV (-1) (w.heap.size + 1)) (by simp [results, Tryz.results66, go_sem]) rfl ⟨_, rfl, by omega, ?_, (by repeat (first | (with_reducible exact Gx.refl _) | (with_reducible assumption) | (with_reducible refine Gx.gx ?_) | (with_reducible refine Gx.alloc ?_) | (with_reducible refine Gx.drew ?_) | (with_reducible refine Gx.drewN ?_) | (with_reducible refine Gx.setRow ?_ (by first | omega | (simp; done) | (simp <;> omega))) | (with_reducible refine Gx.setCell ?_ (by first | omega | (simp; done) | (simp <;> omega)))))⟩
  exact mmAt_new (t := 135) (by (focus (repeat (first | (with_reducible assumption) | (with_reducible exact At.new _ _) | (with_reducible refine At.row ?_) | ((with_reducible refine At.row_other ?_ ?_); rotate_left; (focus (simp <;> omega))) | (with_reducible refine At.app ?_) | (with_reducible refine At.tick ?_) | (with_reducible refine At.gx ?_) | ((with_reducible refine At.new' ?_); focus (simp; done)) | (with_reducible refine At.alloc ?_) | (with_reducible refine At.drew ?_) | (with_reducible exact Is.new _ _ _) | (with_reducible refine Is.row ?_) | ((with_reducible refine Is.row_other ?_ ?_); rotate_left; (focus (simp <;> omega))) | (with_reducible refine Is.gx ?_) | ((with_reducible refine Is.new' ?_); focus (simp; done)) | (with_reducible refine Is.alloc ?_) | (with_reducible refine Is.drew ?_)))))
set_option maxHeartbeats 2000000 in
set_option maxRecDepth 100000 in
theorem bnext_G (gB c cb gM : Nat) (A : Option Addr) (fr fr' : Int) (hf : (fr = -1 ∧ fr' = 0) ∨ (fr = 0 ∧ fr' = 1)) (w : World) (h : GaAt w gB A c) (hM : MmAt w gM) :
    Calls Tryz.prog 116 #[.slice (some ⟨gB, 0, none⟩) 1 cb, stV fr gM] w fun e w' => ∃ gM', e = .returned (stV fr' gM') ∧ w.heap.size ≤ gM' ∧ MmAt w' gM' ∧ ∃ x, w' = gx w x := by
  have HN := Lib.hid (fun W (hW : ∃ x, W = gx w x) => next_G gB c A fr' (by omega) W (h.on hW))
  have hb : gB < w.heap.size := World.block_lt_of_cell? w _ h.k
  have hm : gM < w.heap.size := World.block_lt_of_cell? w _ hM.c0
  have ew : IntKind.i64.wrap (fr + 1) = fr' := by rw [IntWalk.i64_in _ (by omega)]; omega
  obtain ⟨c0, c1, c2, c3⟩ := hM
  clear hf h
  have hmk := make_mm
  go_enter Tryz.func116, Tryz.ntmps116
  go_wp2
  go_region
  all_goals go_wp2
  all_goals refine wp_loop_rounds 2 ?_
  all_goals rw [rounds_succ]
  all_goals go_wp2
  all_goals go_region_with (first | (go_at_call 133; refine (HN.out _ (by repeat (first | (with_reducible exact Gx.refl _) | (with_reducible assumption) | (with_reducible refine Gx.gx ?_) | (with_reducible refine Gx.alloc ?_) | (with_reducible refine Gx.drew ?_) | (with_reducible refine Gx.drewN ?_) | (with_reducible refine Gx.setRow ?_ (by first | omega | (simp; done) | (simp <;> omega))) | (with_reducible refine Gx.setCell ?_ (by first | omega | (simp; done) | (simp <;> omega)))))).mono ?_; rintro e w' ⟨rfl, x1, rfl⟩))
  all_goals go_wp2
  all_goals rw [rounds_succ]
  all_goals go_wp2
  all_goals first
    | (refine bodyPost_ret (v := stV fr' (w.heap.size + 1 + 1)) ?_ rfl ?_; (focus (simp [results, Tryz.results116, go_sem]; done)); (refine ⟨_, rfl, by omega, ?_, ?_⟩); (focus exact mmAt_new (t := 135) (by (focus (repeat (first | (with_reducible assumption) | (with_reducible exact At.new _ _) | (with_reducible refine At.row ?_) | ((with_reducible refine At.row_other ?_ ?_); rotate_left; (focus (simp <;> omega))) | (with_reducible refine At.app ?_) | (with_reducible refine At.tick ?_) | (with_reducible refine At.gx ?_) | ((with_reducible refine At.new' ?_); focus (simp; done)) | (with_reducible refine At.alloc ?_) | (with_reducible refine At.drew ?_) | (with_reducible exact Is.new _ _ _) | (with_reducible refine Is.row ?_) | ((with_reducible refine Is.row_other ?_ ?_); rotate_left; (focus (simp <;> omega))) | (with_reducible refine Is.gx ?_) | ((with_reducible refine Is.new' ?_); focus (simp; done)) | (with_reducible refine Is.alloc ?_) | (with_reducible refine Is.drew ?_)))))); (focus exact (by repeat (first | (with_reducible exact Gx.refl _) | (with_reducible assumption) | (with_reducible refine Gx.gx ?_) | (with_reducible refine Gx.alloc ?_) | (with_reducible refine Gx.drew ?_) | (with_reducible refine Gx.drewN ?_) | (with_reducible refine Gx.setRow ?_ (by first | omega | (simp; done) | (simp <;> omega))) | (with_reducible refine Gx.setCell ?_ (by first | omega | (simp; done) | (simp <;> omega)))))))
    | (refine bodyPost_ret (v := stV fr' (w.heap.size + 1 + 1 + 1)) ?_ rfl ?_; (focus (simp [results, Tryz.results116, go_sem]; done)); (refine ⟨_, rfl, by omega, ?_, ?_⟩); (focus exact mmAt_new (t := 135) (by (focus (repeat (first | (with_reducible assumption) | (with_reducible exact At.new _ _) | (with_reducible refine At.row ?_) | ((with_reducible refine At.row_other ?_ ?_); rotate_left; (focus (simp <;> omega))) | (with_reducible refine At.app ?_) | (with_reducible refine At.tick ?_) | (with_reducible refine At.gx ?_) | ((with_reducible refine At.new' ?_); focus (simp; done)) | (with_reducible refine At.alloc ?_) | (with_reducible refine At.drew ?_) | (with_reducible exact Is.new _ _ _) | (with_reducible refine Is.row ?_) | ((with_reducible refine Is.row_other ?_ ?_); rotate_left; (focus (simp <;> omega))) | (with_reducible refine Is.gx ?_) | ((with_reducible refine Is.new' ?_); focus (simp; done)) | (with_reducible refine Is.alloc ?_) | (with_reducible refine Is.drew ?_)))))); (focus exact (by repeat (first | (with_reducible exact Gx.refl _) | (with_reducible assumption) | (with_reducible refine Gx.gx ?_) | (with_reducible refine Gx.alloc ?_) | (with_reducible refine Gx.drew ?_) | (with_reducible refine Gx.drewN ?_) | (with_reducible refine Gx.setRow ?_ (by first | omega | (simp; done) | (simp <;> omega))) | (with_reducible refine Gx.setCell ?_ (by first | omega | (simp; done) | (simp <;> omega)))))))
end Go.Proofs.YtocaphcnnmcnjaaGreatDoor

/-
  The guard of stage 8: its replay.
-/
namespace Go.Proofs.YtocaphcnnmcnjaaGreatDoor
open Go.RowKit
-- AT2
-- AT3

/-- The cells of a replay. -/
def rpC (gB gM gK kl kc : Nat) (fr : Int) : Array Value := #[.slice (some ⟨gB, 0, none⟩) 1 1, .int .i64 1, .int .i64 fr, .slice (some ⟨gM, 0, none⟩) 1 1, .slice (some ⟨gK, 0, none⟩) kl kc, .slice none 0 0]
set_option maxHeartbeats 2000000 in
set_option maxRecDepth 100000 in
theorem New_G (b c bt ct cs : Nat) (A : Option Addr) (hN : A = none → 1 = 0 ∧ cs = 0) (w : World) (h : InAt w b) (hT : TrAt w bt 0 2 A 1 cs 100) (hL : SmAt w smG 1 A)
    (HI : Hid (∀ W, (∃ x, W = gx w x) → Calls Tryz.prog 7 #[inG] W fun e w' => e = .returned (.int .i64 0) ∧ ∃ x, w' = gx W x)) :
    Calls Tryz.prog 38 #[.agg #[.slice (some ⟨b, 0, none⟩) 1 c], .slice (some ⟨bt, 0, none⟩) 1 ct, .int .i64 1] w fun e w' => ∃ w0 gR gB gM gM0 gK A' c', e = .returned (.tuple #[.pointer (some ⟨gR, 0, none⟩), .int .i64 0]) ∧ (∃ x, w0 = gx w x) ∧ GaAt w0 gB A' c' ∧ w0.heap.size ≤ gR ∧ w0.heap.size ≤ gK ∧ At w' gR (.cells (rpC gB gM gK 1 1 (-1)) 109 (0, 0)) ∧ MmAt w' gM ∧ MmAt w' gM0 ∧ At w' gK (.cells #[.int .i64 (-1), .slice (some ⟨gM0, 0, none⟩) 1 1] 104 (0, 0)) ∧ ∃ x, w' = gx w0 x := by
  have K1 := Lib.hid (fun W (hW : ∃ x, W = gx w x) => checkBoth_one b c bt ct 2 A 1 cs 100 smG W (h.on hW) (hT.on hW) (by obtain ⟨x, rfl⟩ := hW; exact hL.gx) smG_0 (by omega) (Lib.hid (fun W' hW' => HI.out W' (Gx.trans hW' hW))))
  have K2 := Lib.hid (fun W (hW : ∃ x, W = gx w x) => ownBoard_G b c bt ct cs A hN W (h.on hW) (hT.on hW) (by obtain ⟨x, rfl⟩ := hW; exact hL.gx))
  clear h hT hL hN HI
  go_enter Tryz.func38, Tryz.ntmps38
  go_wp2_with (first
    | (go_at_call 64; refine (K1.out _ (by repeat (first | (with_reducible exact Gx.refl _) | (with_reducible assumption) | (with_reducible refine Gx.gx ?_) | (with_reducible refine Gx.alloc ?_) | (with_reducible refine Gx.drew ?_) | (with_reducible refine Gx.drewN ?_) | (with_reducible refine Gx.setRow ?_ (by first | omega | (simp; done) | (simp <;> omega))) | (with_reducible refine Gx.setCell ?_ (by first | omega | (simp; done) | (simp <;> omega)))))).mono ?_; rintro e w' ⟨rfl, x1, rfl⟩)
    | (go_at_call 65; refine (K2.out _ (by repeat (first | (with_reducible exact Gx.refl _) | (with_reducible assumption) | (with_reducible refine Gx.gx ?_) | (with_reducible refine Gx.alloc ?_) | (with_reducible refine Gx.drew ?_) | (with_reducible refine Gx.drewN ?_) | (with_reducible refine Gx.setRow ?_ (by first | omega | (simp; done) | (simp <;> omega))) | (with_reducible refine Gx.setCell ?_ (by first | omega | (simp; done) | (simp <;> omega)))))).mono ?_; rintro e W2 ⟨gB, A', c', rfl, hgB, hGB, hG2⟩)
    | (go_at_call 66; refine (first_G _ _ _).mono ?_; rintro e W3 ⟨gM, rfl, hgM, hMM, x3, hG3⟩; subst hG3))
  rename_i gMa hgMa x3a hMMa
  have hMMb := hMMa.on (Gx.gx (Gx.refl _) : ∃ x, gx (gx W2 x3a) x3 = gx (gx W2 x3a) x)
  rw [gx_gx] at hMMb hMM
  have G2 : ∃ x, W2 = gx w x := Gx.trans hG2 (by repeat (first | (with_reducible exact Gx.refl _) | (with_reducible assumption) | (with_reducible refine Gx.gx ?_) | (with_reducible refine Gx.alloc ?_) | (with_reducible refine Gx.drew ?_) | (with_reducible refine Gx.drewN ?_) | (with_reducible refine Gx.setRow ?_ (by first | omega | (simp; done) | (simp <;> omega))) | (with_reducible refine Gx.setCell ?_ (by first | omega | (simp; done) | (simp <;> omega)))))
  refine bodyPost_ret (v := .tuple #[.pointer (some ⟨W2.heap.size + (x3a.app x3).n + 1, 0, none⟩), .int .i64 0]) (by simp [results, Tryz.results38, go_sem]) rfl ⟨W2, _, gB, gMa, gM, W2.heap.size + (x3a.app x3).n, A', c', rfl, G2, hGB, by omega, by omega, ?_, hMMb.on (by repeat (first | (with_reducible exact Gx.refl _) | (with_reducible assumption) | (with_reducible refine Gx.gx ?_) | (with_reducible refine Gx.alloc ?_) | (with_reducible refine Gx.drew ?_) | (with_reducible refine Gx.drewN ?_) | (with_reducible refine Gx.setRow ?_ (by first | omega | (simp; done) | (simp <;> omega))) | (with_reducible refine Gx.setCell ?_ (by first | omega | (simp; done) | (simp <;> omega))))), hMM.on (by repeat (first | (with_reducible exact Gx.refl _) | (with_reducible assumption) | (with_reducible refine Gx.gx ?_) | (with_reducible refine Gx.alloc ?_) | (with_reducible refine Gx.drew ?_) | (with_reducible refine Gx.drewN ?_) | (with_reducible refine Gx.setRow ?_ (by first | omega | (simp; done) | (simp <;> omega))) | (with_reducible refine Gx.setCell ?_ (by first | omega | (simp; done) | (simp <;> omega))))), ?_, (by repeat (first | (with_reducible exact Gx.refl _) | (with_reducible assumption) | (with_reducible refine Gx.gx ?_) | (with_reducible refine Gx.alloc ?_) | (with_reducible refine Gx.drew ?_) | (with_reducible refine Gx.drewN ?_) | (with_reducible refine Gx.setRow ?_ (by first | omega | (simp; done) | (simp <;> omega))) | (with_reducible refine Gx.setCell ?_ (by first | omega | (simp; done) | (simp <;> omega)))))⟩
  · unfold rpC; (focus (repeat (first | (with_reducible assumption) | (with_reducible exact At.new _ _) | (with_reducible refine At.row ?_) | ((with_reducible refine At.row_other ?_ ?_); rotate_left; (focus (simp <;> omega))) | (with_reducible refine At.app ?_) | (with_reducible refine At.tick ?_) | (with_reducible refine At.gx ?_) | ((with_reducible refine At.new' ?_); focus (simp; done)) | (with_reducible refine At.alloc ?_) | (with_reducible refine At.drew ?_) | (with_reducible exact Is.new _ _ _) | (with_reducible refine Is.row ?_) | ((with_reducible refine Is.row_other ?_ ?_); rotate_left; (focus (simp <;> omega))) | (with_reducible refine Is.gx ?_) | ((with_reducible refine Is.new' ?_); focus (simp; done)) | (with_reducible refine Is.alloc ?_) | (with_reducible refine Is.drew ?_))))
  · (focus (repeat (first | (with_reducible assumption) | (with_reducible exact At.new _ _) | (with_reducible refine At.row ?_) | ((with_reducible refine At.row_other ?_ ?_); rotate_left; (focus (simp <;> omega))) | (with_reducible refine At.app ?_) | (with_reducible refine At.tick ?_) | (with_reducible refine At.gx ?_) | ((with_reducible refine At.new' ?_); focus (simp; done)) | (with_reducible refine At.alloc ?_) | (with_reducible refine At.drew ?_) | (with_reducible exact Is.new _ _ _) | (with_reducible refine Is.row ?_) | ((with_reducible refine Is.row_other ?_ ?_); rotate_left; (focus (simp <;> omega))) | (with_reducible refine Is.gx ?_) | ((with_reducible refine Is.new' ?_); focus (simp; done)) | (with_reducible refine Is.alloc ?_) | (with_reducible refine Is.drew ?_))))
end Go.Proofs.YtocaphcnnmcnjaaGreatDoor

/-
  The guard of stage 8: the kept state from which its replay goes on.
-/
namespace Go.Proofs.YtocaphcnnmcnjaaGreatDoor
open Go.RowKit
-- AT2
-- AT3

set_option maxHeartbeats 2000000 in
set_option maxRecDepth 100000 in
theorem near1_G (gR gB gM gK kc gp gq : Nat) (w : World) (hR : At w gR (.cells (rpC gB gM gK 1 kc (-1)) 109 (0, 0))) (hK : w.cell? ⟨gK, 0, none⟩ = some (.int .i64 (-1))) (hp : w.cell? ⟨gp, 0, none⟩ = some (.pointer (some ⟨gR, 0, none⟩))) (hq : w.cell? ⟨gq, 0, none⟩ = some (.int .i64 1)) :
    Calls Tryz.prog 115 #[.int .i64 0, .pointer (some ⟨gp, 0, none⟩), .pointer (some ⟨gq, 0, none⟩)] w fun e w' => e = .returned (.bool false) ∧ ∃ q os, w' = Go.Sort.grow (w.drewN q) os := by
  have r4 : w.cell? ⟨gR, 4, none⟩ = some (.slice (some ⟨gK, 0, none⟩) 1 kc) := by rw [cell_of_row w _ _ _ _ _ hR]; rfl
  have lR := hR.lt
  have lK : gK < w.heap.size := World.block_lt_of_cell? w _ hK
  have lp : gp < w.heap.size := World.block_lt_of_cell? w _ hp
  have lq : gq < w.heap.size := World.block_lt_of_cell? w _ hq
  clear hR
  go_enter Tryz.func115, Tryz.ntmps115
  go_wp2
  go_quiet (fail)
  go_wp2
  go_ret
  exact ⟨rfl, nq, #[], by rw [Go.Sort.grow_empty]⟩
set_option maxHeartbeats 2000000 in
set_option maxRecDepth 100000 in
theorem nearest_G (gR gB gM gK gM0 kc : Nat) (w : World) (hR : At w gR (.cells (rpC gB gM gK 1 kc (-1)) 109 (0, 0))) (hK : w.cell? ⟨gK, 0, none⟩ = some (.int .i64 (-1))) (hK1 : w.cell? ⟨gK, 1, none⟩ = some (.slice (some ⟨gM0, 0, none⟩) 1 1)) :
    Calls Tryz.prog 93 #[.pointer (some ⟨gR, 0, none⟩), .int .i64 1] w fun e w' => e = .returned (stV (-1) gM0) ∧ ∃ x, w' = gx w x := by
  obtain ⟨W0, hW0⟩ : ∃ W0, W0 = ((w.alloc (.cells #[.pointer (some ⟨gR, 0, none⟩)] 71)).alloc (.cells #[.int .i64 1] 3)).alloc (.cells #[.int .i64 0, .slice none 0 0] 104) := ⟨_, rfl⟩
  have eg : ∀ args w, (callFunc 115 args).run Tryz.prog w = .ok (.enter 115 args) w := enters_of Tryz.func115 (by kernel_rfl) rfl
  have h1 : W0.cell? ⟨w.heap.size, 0, none⟩ = some (.pointer (some ⟨gR, 0, none⟩)) := by rw [hW0, cell_of_row _ _ _ _ _ _ (At.alloc (At.alloc (At.new w _)))]; rfl
  have h2 : W0.cell? ⟨w.heap.size + 1, 0, none⟩ = some (.int .i64 1) := by rw [hW0, cell_of_row _ _ _ _ _ _ (At.alloc (At.new' (by simp)))]; rfl
  have h3 : At W0 gR (.cells (rpC gB gM gK 1 kc (-1)) 109 (0, 0)) := by rw [hW0]; exact At.alloc (At.alloc (At.alloc hR))
  have h4 : W0.cell? ⟨gK, 0, none⟩ = some (.int .i64 (-1)) := by rw [hW0]; exact cell_keep_alloc (cell_keep_alloc (cell_keep_alloc hK))
  have hS := Search_any 115 #[.pointer (some ⟨w.heap.size, 0, none⟩), .pointer (some ⟨w.heap.size + 1, 0, none⟩)] 1 (fun _ => false) W0 eg (by omega)
    (fun W hW i hi => by
      obtain ⟨x, rfl⟩ := hW
      obtain rfl : i = 0 := by omega
      exact near1_G gR gB gM gK kc w.heap.size (w.heap.size + 1) _ h3.gx (cell_keep_gx h4) (cell_keep_gx h1) (cell_keep_gx h2))
    (fun a b hab hb h => by cases h)
  have hcount : ((List.range 1).countP (fun i => !(fun _ : Nat => false) i)) = 1 := by rfl
  rw [hcount] at hS
  have r2 : w.cell? ⟨gR, 2, none⟩ = some (.int .i64 (-1)) := by rw [cell_of_row w _ _ _ _ _ hR]; rfl
  have r4 : w.cell? ⟨gR, 4, none⟩ = some (.slice (some ⟨gK, 0, none⟩) 1 kc) := by rw [cell_of_row w _ _ _ _ _ hR]; rfl
  have lR := hR.lt
  have lK : gK < w.heap.size := World.block_lt_of_cell? w _ hK
  clear h1 h2 h3 h4 eg hR hcount
  go_enter Tryz.func93, Tryz.ntmps93
  go_wp2_with (go_at_call 114; rw [← hW0]; refine hS.mono ?_; rintro e w' ⟨rfl, x, rfl⟩; rw [hW0]; clear hS hW0)
  go_quiet (fail)
  all_goals go_wp2
  exact bodyPost_ret (v := stV (-1) gM0) (by simp [results, Tryz.results93, go_sem]) rfl ⟨rfl, (by repeat (first | (with_reducible exact Gx.refl _) | (with_reducible assumption) | (with_reducible refine Gx.gx ?_) | (with_reducible refine Gx.alloc ?_) | (with_reducible refine Gx.drew ?_) | (with_reducible refine Gx.drewN ?_) | (with_reducible refine Gx.setRow ?_ (by first | omega | (simp; done) | (simp <;> omega))) | (with_reducible refine Gx.setCell ?_ (by first | omega | (simp; done) | (simp <;> omega)))))⟩
end Go.Proofs.YtocaphcnnmcnjaaGreatDoor

/-
  The guard of stage 8: its replay goes on by a frame.
-/
namespace Go.Proofs.YtocaphcnnmcnjaaGreatDoor
open Go.RowKit
-- AT2
-- AT3

theorem step_append_all' {t e : TypeId} {size bytes : Nat} (hE : Elem t e size bytes) {ops : Array Oper} {o : Oper} {a : Act} {K : Act → World → Prop} {Q : Exit → Act → World → Prop} {E' : Prop} {W : World} (w : World) (b : Nat) {s x : Operand} {v : Value} {n : Nat} {xs : List Value} {A : Option Addr} {m c : Nat} {news : List Value}
    (ho : o.op = .call { callee := .builtin .append, args := #[s, x], argTypes := #[t, t] }) (hgd : o.guard = none) (hs : a.eval s = v) (hx : a.eval x = .slice A m c) (hN : A = none → m = 0 ∧ c = 0)
    (hb : w.heap.size ≤ b) (hown : Own b W e size v n xs) (hW : ∃ x, W = gx w x) (hbW : b ≤ W.heap.size) (hl : news.length = m * size) (hnews : Shows news A W) (h1 : ∀ u ∈ news, u.oneCell' = true) (h63 : n + m ≤ maxLen) (hbytes : (n + m) * bytes ≤ 140737488355328)
    (h : ∀ v' W', (∃ x, W' = gx w x) → Own b W' e size v' (n + m) (xs ++ news) → W.grownBy W' v.ownBlock → K (a.put o.dst v') W') : if Region.wanted o (yielded ops a.tmps) = true then Oper.wp Tryz.prog o a W K Q else E' := by
  rw [if_pos (by simp [Region.wanted, hgd])]
  obtain ⟨ht, hp, i, z, hi, hz, hsize, hby, hzs⟩ := hE
  have gxw : ∀ W' , W.grownBy W' v.ownBlock → ∃ x, W' = gx w x := fun W' hg => gx_of_grown hW hg fun k hk => by have := hown.lt k hk; omega
  cases A with
  | none =>
    obtain ⟨rfl, rfl⟩ := hN rfl
    have hn : news = [] := List.eq_nil_of_length_eq_zero (by simpa using hl)
    subst hn
    have hr := run_append_owned_none (P := Tryz.prog) W b t o.type e i size ht hi v n xs hown.out
    unfold Oper.wp execOp
    simp only [ho, resolve, invoke, builtin, Sem.run_bind, Sem.run_pure, Result.andThen_ok, List.map_toArray, List.map_cons, List.map_nil, hs, hx, hr]
    exact h v W hW (by simpa using hown) ⟨rfl, rfl, rfl, Nat.le_refl _, fun _ _ _ => rfl⟩
  | some ad =>
    refine wp_append_own W s x t ho b e i z size bytes ht hi hz hsize hby hzs hp v n xs hs hown.out ad m c news hx hl ?_ h1 h63 hbytes hbW fun v' W' h2 h3 _ => h v' W' (gxw W' h3) (Own.mk' h2) h3
    intro j u hu
    unfold Shows at hnews
    obtain ⟨g', o', e1, hc⟩ := hnews (by have := (List.getElem?_eq_some_iff.1 hu).1; omega)
    obtain rfl := Option.some.inj e1
    rw [Addr.add_lit]
    exact hc j u hu
theorem el_state : Elem 106 104 2 32 := elem_of Tryz.underlying106 (by decide) (z := .agg #[.int .i64 0, .slice none 0 0]) (by kernel_rfl) rfl
theorem At.setR {W : World} {K o : Nat} {u : Value} {cs : Array Value} {t : TypeId} (h : At W K (.cells cs t (0, 0))) : At (W.setCell ⟨K, o, none⟩ u) K (.cells (cs.setIfInBounds o u) t (0, 0)) := by
  unfold At at *
  simp [World.setCell, Array.getElem?_modify, h]
theorem MmAt.setc {W : World} {g K o : Nat} {u : Value} (h : MmAt W g) (hne : K ≠ g) : MmAt (W.setCell ⟨K, o, none⟩ u) g :=
  ⟨setc_other h.c0 (fun e => by injection e with e1; omega), setc_other h.c1 (fun e => by injection e with e1; omega), setc_other h.c2 (fun e => by injection e with e1; omega), setc_other h.c3 (fun e => by injection e with e1; omega)⟩
theorem cell_grown {W W' : World} {K o : Nat} {r : Option Nat} {v : Value} (h : W.cell? ⟨K, o, none⟩ = some v) (hg : W.grownBy W' r) (hr : r ≠ some K) : W'.cell? ⟨K, o, none⟩ = some v := by
  have hl := World.block_lt_of_cell? W _ h
  exact (World.cell?_of_block (hg.block K hl (fun e => hr e.symm))).trans h
theorem MmAt.grown {W W' : World} {g : Nat} {r : Option Nat} (h : MmAt W g) (hg : W.grownBy W' r) (hr : r ≠ some g) : MmAt W' g :=
  ⟨cell_grown h.c0 hg hr, cell_grown h.c1 hg hr, cell_grown h.c2 hg hr, cell_grown h.c3 hg hr⟩
theorem own_pos {b : Nat} {W : World} {e : TypeId} {s n c : Nat} {A : Option Addr} {xs : List Value} (h : Own b W e s (.slice A (n + 1) c) (n + 1) xs) : ∃ g, A = some ⟨g, 0, none⟩ := by
  rcases h.out.2 with ⟨_, h0⟩ | ⟨g, cap, cur, he, _⟩
  · omega
  · simp only [Value.slice.injEq] at he
    exact ⟨g, he.1⟩
theorem MmAt.ne_at {W : World} {g gR : Nat} {gB gM gK kl kc : Nat} {fr : Int} {t : TypeId} (h : MmAt W g) (hR : At W gR (.cells (rpC gB gM gK kl kc fr) t (0, 0))) : gR ≠ g := by
  rintro rfl
  have h1 := h.c0
  rw [cell_of_row W _ _ _ _ _ hR] at h1
  cases h1
end Go.Proofs.YtocaphcnnmcnjaaGreatDoor

/-
  The guard of stage 8: its replay goes on by a frame.
-/
namespace Go.Proofs.YtocaphcnnmcnjaaGreatDoor
open Go.RowKit
-- AT2
-- AT3

theorem rpC_now (gB gM gM' gK kl kc : Nat) (fr fr' : Int) : ((rpC gB gM gK kl kc fr).setIfInBounds 2 (.int .i64 fr')).setIfInBounds 3 (.slice (some ⟨gM', 0, none⟩) 1 1) = rpC gB gM' gK kl kc fr' := rfl
theorem rpC_kept (gB gM gK gK' kl kl' kc kc' : Nat) (fr : Int) : (rpC gB gM gK kl kc fr).setIfInBounds 4 (.slice (some ⟨gK', 0, none⟩) kl' kc') = rpC gB gM gK' kl' kc' fr := rfl
set_option maxHeartbeats 4000000 in
set_option maxRecDepth 100000 in
theorem advance_G (w0 : World) (gR gB gM gK kl kc : Nat) (A : Option Addr) (c : Nat) (fr fr' : Int) (hf : (fr = -1 ∧ fr' = 0) ∨ (fr = 0 ∧ fr' = 1)) (ks : List Value) (w : World) (hG : ∃ x, w = gx w0 x) (hgR : w0.heap.size ≤ gR) (hR : At w gR (.cells (rpC gB gM gK kl kc fr) 109 (0, 0)))
    (hB : GaAt w0 gB A c) (hM : MmAt w gM) (hO : Own w0.heap.size w 104 2 (.slice (some ⟨gK, 0, none⟩) kl kc) kl ks) (hkl : kl ≤ 2) :
    Calls Tryz.prog 94 #[.pointer (some ⟨gR, 0, none⟩)] w fun e w' => ∃ gM' gK' kc', e = .returned (.tuple #[]) ∧ At w' gR (.cells (rpC gB gM' gK' (kl + 1) kc' fr') 109 (0, 0)) ∧ MmAt w' gM' ∧ Own w0.heap.size w' 104 2 (.slice (some ⟨gK', 0, none⟩) (kl + 1) kc') (kl + 1) (ks ++ [.int .i64 fr', .slice (some ⟨gM', 0, none⟩) 1 1]) ∧ ∃ x, w' = gx w0 x := by
  have HN := Lib.hid (fun W (hW : ∃ x, W = gx w x) => bnext_G gB c 1 gM A fr fr' hf W (hB.on (Gx.trans hW hG)) (hM.on hW))
  have r0 : w.cell? ⟨gR, 0, none⟩ = some (.slice (some ⟨gB, 0, none⟩) 1 1) := by rw [cell_of_row w _ _ _ _ _ hR]; rfl
  have r2 : w.cell? ⟨gR, 2, none⟩ = some (.int .i64 fr) := by rw [cell_of_row w _ _ _ _ _ hR]; rfl
  have r3 : w.cell? ⟨gR, 3, none⟩ = some (.slice (some ⟨gM, 0, none⟩) 1 1) := by rw [cell_of_row w _ _ _ _ _ hR]; rfl
  have lR := hR.lt
  have HR := Lib.hid hR
  have HO := Lib.hid hO
  have HG := Lib.hid hG
  clear hR hO hM hf hG
  go_enter Tryz.func94, Tryz.ntmps94
  go_wp2
  go_region_with (first | (go_at_call 116; refine (HN.out _ (by repeat (first | (with_reducible exact Gx.refl _) | (with_reducible assumption) | (with_reducible refine Gx.gx ?_) | (with_reducible refine Gx.alloc ?_) | (with_reducible refine Gx.drew ?_) | (with_reducible refine Gx.drewN ?_) | (with_reducible refine Gx.setRow ?_ (by first | omega | (simp; done) | (simp <;> omega))) | (with_reducible refine Gx.setCell ?_ (by first | omega | (simp; done) | (simp <;> omega)))))).mono ?_; rintro e W1 ⟨gM', rfl, hgM', hMM, hG1⟩; have HG1 : Hid (∃ x, W1 = gx w x) := Lib.hid (Gx.trans hG1 (by repeat (first | (with_reducible exact Gx.refl _) | (with_reducible assumption) | (with_reducible refine Gx.gx ?_) | (with_reducible refine Gx.alloc ?_) | (with_reducible refine Gx.drew ?_) | (with_reducible refine Gx.drewN ?_) | (with_reducible refine Gx.setRow ?_ (by first | omega | (simp; done) | (simp <;> omega))) | (with_reducible refine Gx.setCell ?_ (by first | omega | (simp; done) | (simp <;> omega)))))); have HMM := Lib.hid hMM; have HR1 : Hid (At W1 gR (.cells (rpC gB gM gK kl kc fr) 109 (0, 0))) := Lib.hid (by obtain ⟨y, hy⟩ := HG1.out; rw [hy]; exact HR.out.gx); have f0 := HR1.out.frz (o := 2); have f1 := HR1.out.frz (o := 3); have lR1 := HR1.out.lt; have q0 : W1.cell? ⟨gR, 0, none⟩ = some (.slice (some ⟨gB, 0, none⟩) 1 1) := (by rw [cell_of_row W1 _ _ _ _ _ HR1.out]; rfl); have q2 : W1.cell? ⟨gR, 2, none⟩ = some (.int .i64 fr) := (by rw [cell_of_row W1 _ _ _ _ _ HR1.out]; rfl); have q3 : W1.cell? ⟨gR, 3, none⟩ = some (.slice (some ⟨gM, 0, none⟩) 1 1) := (by rw [cell_of_row W1 _ _ _ _ _ HR1.out]; rfl); clear hG1 hMM))
  all_goals
    have hM2 : MmAt ((W1.setCell ⟨gR, 2, none⟩ (.int .i64 fr')).setCell ⟨gR, 3, none⟩ (.slice (some ⟨gM', 0, none⟩) 1 1)) gM' := by
      have hne : gR ≠ gM' := by
        rintro rfl
        have h1 := HMM.out.c0
        rw [q0] at h1
        cases h1
      exact (HMM.out.setc hne).setc hne
    have hR2 : At ((W1.setCell ⟨gR, 2, none⟩ (.int .i64 fr')).setCell ⟨gR, 3, none⟩ (.slice (some ⟨gM', 0, none⟩) 1 1)) gR (.cells (rpC gB gM' gK kl kc fr') 109 (0, 0)) := by
      rw [← rpC_now gB gM gM' gK kl kc fr fr']
      exact HR1.out.setR.setR
    have hG2 : ∃ x, (W1.setCell ⟨gR, 2, none⟩ (.int .i64 fr')).setCell ⟨gR, 3, none⟩ (.slice (some ⟨gM', 0, none⟩) 1 1) = gx w0 x := Gx.setCell (Gx.setCell (Gx.trans HG1.out HG.out) hgR) hgR
    have hO2 : Own w0.heap.size ((W1.setCell ⟨gR, 2, none⟩ (.int .i64 fr')).setCell ⟨gR, 3, none⟩ (.slice (some ⟨gM', 0, none⟩) 1 1)) 104 2 (.slice (some ⟨gK, 0, none⟩) kl kc) kl ks := by
      have h1 : Own w0.heap.size W1 104 2 (.slice (some ⟨gK, 0, none⟩) kl kc) kl ks := by obtain ⟨y, hy⟩ := HG1.out; rw [hy]; exact HO.out.gx
      have hne : (Value.slice (some ⟨gK, 0, none⟩) kl kc).ownBlock ≠ some gR := own_ne_at h1 HR1.out (by decide)
      exact (h1.setc hne).setc hne
    generalize (W1.setCell ⟨gR, 2, none⟩ (.int .i64 fr')).setCell ⟨gR, 3, none⟩ (.slice (some ⟨gM', 0, none⟩) 1 1) = W2 at *
    have hkm : gK ≠ gM' := by
      have h1 := (HO.out.lt gK rfl).2
      have h2 : w.heap.size ≤ gM' := hgM'
      omega
    clear f0 f1 lR1 q0 q2 q3 r0 r2 r3 lR HN HR HO HG HR1 HG1 HMM hgM'
    have hkne : (Value.slice (some ⟨gK, 0, none⟩) kl kc).ownBlock ≠ some gR := own_ne_at hO2 hR2 (by decide)
    have s1 : W2.cell? ⟨gR, 1, none⟩ = some (.int .i64 1) := by rw [cell_of_row W2 _ _ _ _ _ hR2]; rfl
    have s2 : W2.cell? ⟨gR, 2, none⟩ = some (.int .i64 fr') := by rw [cell_of_row W2 _ _ _ _ _ hR2]; rfl
    have s3 : W2.cell? ⟨gR, 3, none⟩ = some (.slice (some ⟨gM', 0, none⟩) 1 1) := by rw [cell_of_row W2 _ _ _ _ _ hR2]; rfl
    have s4 : W2.cell? ⟨gR, 4, none⟩ = some (.slice (some ⟨gK, 0, none⟩) kl kc) := by rw [cell_of_row W2 _ _ _ _ _ hR2]; rfl
    have lR2 := hR2.lt
    have HM2 := Lib.hid hM2
    have HR2 := Lib.hid hR2
    have HG2 := Lib.hid hG2
    have HO2 := Lib.hid hO2
    have HKN := Lib.hid hkne
    have lw0 : w0.heap.size ≤ W2.heap.size := by omega
    clear hM2 hR2 hG2 hO2 hkne
    go_wp2
    go_quiet (fail)
    go_wp2
    have hG3 : ∃ x, W2.drewN nq = gx w0 x := Gx.drewN HG2.out
    have hO3 : Own w0.heap.size (W2.drewN nq) 104 2 (.slice (some ⟨gK, 0, none⟩) kl kc) kl ks := HO2.out.drewN
    have hR3 : At (W2.drewN nq) gR (.cells (rpC gB gM' gK kl kc fr') 109 (0, 0)) := HR2.out
    have hM3 : MmAt (W2.drewN nq) gM' := ⟨HM2.out.c0, HM2.out.c1, HM2.out.c2, HM2.out.c3⟩
    have hwv : w0.heap.size ≤ (W2.drewN nq).heap.size := lw0
    clear HM2 HR2 HG2 HO2 s1 s2 s3 s4 lR2 lw0
    generalize W2.drewN nq = V at *
    have s2 : V.cell? ⟨gR, 2, none⟩ = some (.int .i64 fr') := by rw [cell_of_row V _ _ _ _ _ hR3]; rfl
    have s3 : V.cell? ⟨gR, 3, none⟩ = some (.slice (some ⟨gM', 0, none⟩) 1 1) := by rw [cell_of_row V _ _ _ _ _ hR3]; rfl
    have s4 : V.cell? ⟨gR, 4, none⟩ = some (.slice (some ⟨gK, 0, none⟩) kl kc) := by rw [cell_of_row V _ _ _ _ _ hR3]; rfl
    have lV := hR3.lt
    have HR3 := Lib.hid hR3
    have HM3 := Lib.hid hM3
    clear hR3 hM3
    go_region_law
      (first
      | (apply step_append_all' el_state w0 w0.heap.size (v := .slice (some ⟨gK, 0, none⟩) kl kc) (n := kl) (xs := ks) (m := 1) (news := [.int .i64 fr', .slice (some ⟨gM', 0, none⟩) 1 1]); exact rfl; exact rfl; exact rfl; exact rfl; exact (fun h => by cases h); (focus omega); (focus (repeat (first | (with_reducible assumption) | (with_reducible exact Own.nil _ _ _ _) | (with_reducible refine Own.app ?_) | (with_reducible refine Own.tick ?_) | (with_reducible refine Own.gx ?_) | (with_reducible refine Own.alloc ?_) | (with_reducible refine Own.drew ?_) | (with_reducible refine Own.row ?_ (by omega))))); exact (by repeat (first | (with_reducible exact Gx.refl _) | (with_reducible assumption) | (with_reducible refine Gx.gx ?_) | (with_reducible refine Gx.alloc ?_) | (with_reducible refine Gx.drew ?_) | (with_reducible refine Gx.drewN ?_) | (with_reducible refine Gx.setRow ?_ (by first | omega | (simp; done) | (simp <;> omega))) | (with_reducible refine Gx.setCell ?_ (by first | omega | (simp; done) | (simp <;> omega))))); (focus (simp <;> omega)); exact rfl; (focus (repeat (first | (with_reducible assumption) | ((with_reducible apply Shows.whole); focus ((focus (repeat (first | (with_reducible assumption) | (with_reducible exact At.new _ _) | (with_reducible refine At.row ?_) | ((with_reducible refine At.row_other ?_ ?_); rotate_left; (focus (simp <;> omega))) | (with_reducible refine At.app ?_) | (with_reducible refine At.tick ?_) | (with_reducible refine At.gx ?_) | ((with_reducible refine At.new' ?_); focus (simp; done)) | (with_reducible refine At.alloc ?_) | (with_reducible refine At.drew ?_) | (with_reducible exact Is.new _ _ _) | (with_reducible refine Is.row ?_) | ((with_reducible refine Is.row_other ?_ ?_); rotate_left; (focus (simp <;> omega))) | (with_reducible refine Is.gx ?_) | ((with_reducible refine Is.new' ?_); focus (simp; done)) | (with_reducible refine Is.alloc ?_) | (with_reducible refine Is.drew ?_)))); done)) | (with_reducible refine Shows.app ?_) | (with_reducible refine Shows.tick ?_) | (with_reducible refine Shows.gx ?_) | (with_reducible refine Shows.alloc ?_) | (with_reducible refine Shows.drew ?_)))); (focus (simp [Value.oneCell']; done)); (focus (simp only [maxLen]; omega)); (focus omega); rintro v2 W3 hW3 hO4 hg3; obtain ⟨A4, c4, rfl, -⟩ := hO4.is; obtain ⟨gK2, rfl⟩ := own_pos hO4; have HR4 : Hid (At W3 gR (.cells (rpC gB gM' gK kl kc fr') 109 (0, 0))) := Lib.hid (At.grown (At.drew (At.alloc HR3.out)) hg3 HKN.out); have HM4 : Hid (MmAt W3 gM') := Lib.hid (MmAt.grown (HM3.out.on (by repeat (first | (with_reducible exact Gx.refl _) | (with_reducible assumption) | (with_reducible refine Gx.gx ?_) | (with_reducible refine Gx.alloc ?_) | (with_reducible refine Gx.drew ?_) | (with_reducible refine Gx.drewN ?_) | (with_reducible refine Gx.setRow ?_ (by first | omega | (simp; done) | (simp <;> omega))) | (with_reducible refine Gx.setCell ?_ (by first | omega | (simp; done) | (simp <;> omega)))))) hg3 (fun e => by simp only [Value.ownBlock, Option.some.injEq] at e; omega)); have q4 : W3.cell? ⟨gR, 4, none⟩ = some (.slice (some ⟨gK, 0, none⟩) kl kc) := (by rw [cell_of_row W3 _ _ _ _ _ HR4.out]; rfl); have q2 : W3.cell? ⟨gR, 2, none⟩ = some (.int .i64 fr') := (by rw [cell_of_row W3 _ _ _ _ _ HR4.out]; rfl); have q3 : W3.cell? ⟨gR, 3, none⟩ = some (.slice (some ⟨gM', 0, none⟩) 1 1) := (by rw [cell_of_row W3 _ _ _ _ _ HR4.out]; rfl); have f4 := HR4.out.frz (o := 4); have lW3 := HR4.out.lt; have HO4 := Lib.hid hO4; clear hO4 hg3))
    all_goals go_wp2
    all_goals refine bodyPost_end (v := .tuple #[]) (by simp [results, Tryz.results94, go_sem]) rfl ⟨gM', gK2, c4, rfl, ?_, ?_, ?_, ?_⟩
    all_goals first
      | exact Gx.setCell hW3 hgR
      | exact HM4.out.setc (HM4.out.ne_at HR4.out)
      | exact HO4.out.setc (own_ne_at HO4.out HR4.out (by decide))
      | (rw [← rpC_kept gB gM' gK gK2 kl (kl + 1) kc c4 fr']; exact HR4.out.setR)
end Go.Proofs.YtocaphcnnmcnjaaGreatDoor

/-
  The guard of stage 8: its replay goes two frames on, and shows its faces.
-/
namespace Go.Proofs.YtocaphcnnmcnjaaGreatDoor
open Go.RowKit
-- AT2
-- AT3

set_option maxHeartbeats 4000000 in
set_option maxRecDepth 100000 in
theorem goTo_G (w0 : World) (gR gB gM gM0 gK : Nat) (A : Option Addr) (c : Nat) (w : World) (hG : ∃ x, w = gx w0 x) (hgR : w0.heap.size ≤ gR) (hgK : w0.heap.size ≤ gK) (hR : At w gR (.cells (rpC gB gM gK 1 1 (-1)) 109 (0, 0)))
    (hB : GaAt w0 gB A c) (hM0 : MmAt w gM0) (hK : At w gK (.cells #[.int .i64 (-1), .slice (some ⟨gM0, 0, none⟩) 1 1] 104 (0, 0))) :
    Calls Tryz.prog 67 #[.pointer (some ⟨gR, 0, none⟩), .int .i64 1] w fun e w' => ∃ gM' gK' kc', e = .returned (.int .i64 2) ∧ At w' gR (.cells (rpC gB gM' gK' 3 kc' 1) 109 (0, 0)) ∧ MmAt w' gM' ∧ ∃ x, w' = gx w0 x := by
  have hN := nearest_G gR gB gM gK gM0 1 w hR (by rw [cell_of_row w _ _ _ _ _ hK]; rfl) (by rw [cell_of_row w _ _ _ _ _ hK]; rfl)
  have HN := Lib.hid hN
  have hO : Own w0.heap.size w 104 2 (.slice (some ⟨gK, 0, none⟩) 1 1) 1 [.int .i64 (-1), .slice (some ⟨gM0, 0, none⟩) 1 1] :=
    Own.mk' ⟨rfl, .inr ⟨gK, 1, _, rfl, hgK, (by unfold At at hK; exact hK), Nat.le_refl _, by simp only [maxLen]; omega, rfl, rfl⟩⟩
  have HO := Lib.hid hO
  have HR := Lib.hid hR
  have HG := Lib.hid hG
  have HM0 := Lib.hid hM0
  clear hN hO hR hG hM0 hK
  go_enter Tryz.func67, Tryz.ntmps67
  go_wp2_with (first | (go_at_call 93; refine HN.out.mono ?_; rintro e W1 ⟨rfl, hG1⟩; have HG1 := Lib.hid hG1; have HR1 : Hid (At W1 gR (.cells (rpC gB gM gK 1 1 (-1)) 109 (0, 0))) := Lib.hid (by obtain ⟨y, hy⟩ := hG1; rw [hy]; exact HR.out.gx); have f2 := HR1.out.frz (o := 2); have f3 := HR1.out.frz (o := 3); have lR1 := HR1.out.lt; have q2 : W1.cell? ⟨gR, 2, none⟩ = some (.int .i64 (-1)) := (by rw [cell_of_row W1 _ _ _ _ _ HR1.out]; rfl); have q3 : W1.cell? ⟨gR, 3, none⟩ = some (.slice (some ⟨gM, 0, none⟩) 1 1) := (by rw [cell_of_row W1 _ _ _ _ _ HR1.out]; rfl); clear hG1))
  have M1 : MmAt W1 gM0 := HM0.out.on HG1.out
  have O1 : Own w0.heap.size W1 104 2 (.slice (some ⟨gK, 0, none⟩) 1 1) 1 [.int .i64 (-1), .slice (some ⟨gM0, 0, none⟩) 1 1] := by obtain ⟨y, hy⟩ := HG1.out; rw [hy]; exact HO.out.gx
  have hne : (Value.slice (some ⟨gK, 0, none⟩) 1 1).ownBlock ≠ some gR := own_ne_at O1 HR1.out (by decide)
  have R2 : At ((W1.setCell ⟨gR, 2, none⟩ (.int .i64 (-1))).setCell ⟨gR, 3, none⟩ (.slice (some ⟨gM0, 0, none⟩) 1 1)) gR (.cells (rpC gB gM0 gK 1 1 (-1)) 109 (0, 0)) := by
    rw [← rpC_now gB gM gM0 gK 1 1 (-1) (-1)]
    exact HR1.out.setR.setR
  have G2 : ∃ x, (W1.setCell ⟨gR, 2, none⟩ (.int .i64 (-1))).setCell ⟨gR, 3, none⟩ (.slice (some ⟨gM0, 0, none⟩) 1 1) = gx w0 x := Gx.setCell (Gx.setCell (Gx.trans HG1.out HG.out) hgR) hgR
  have O2 := (O1.setc (o := 2) (u := .int .i64 (-1)) hne).setc (o := 3) (u := .slice (some ⟨gM0, 0, none⟩) 1 1) hne
  have hne2 := M1.ne_at HR1.out
  have M2 := (M1.setc (o := 2) (u := .int .i64 (-1)) hne2).setc (o := 3) (u := .slice (some ⟨gM0, 0, none⟩) 1 1) hne2
  clear f2 f3 lR1 q2 q3 HR1 HG1 M1 O1 hne hne2 HN HO HR HG HM0
  generalize (W1.setCell ⟨gR, 2, none⟩ (.int .i64 (-1))).setCell ⟨gR, 3, none⟩ (.slice (some ⟨gM0, 0, none⟩) 1 1) = W2 at *
  have HA := Lib.hid (advance_G w0 gR gB gM0 gK 1 1 A c (-1) 0 (.inl ⟨rfl, rfl⟩) _ W2 G2 hgR R2 hB M2 O2 (by omega))
  clear R2 G2 O2 M2
  refine wp_loop_rounds 3 ?_
  rw [rounds_succ]
  go_wp2_with (first | (go_at_call 94; refine HA.out.mono ?_; rintro e W3 ⟨gM1, gK1, kc1, rfl, R3, M3, O3, G3⟩; have HA2 := Lib.hid (advance_G w0 gR gB gM1 gK1 2 kc1 A c 0 1 (.inr ⟨rfl, rfl⟩) _ W3 G3 hgR R3 hB M3 O3 (by omega)); clear R3 G3 O3 M3))
  clear HA
  rw [rounds_succ]
  go_wp2_with (first | (go_at_call 94; refine HA2.out.mono ?_; rintro e W4 ⟨gM2, gK2, kc2, rfl, R4, M4, O4, G4⟩; have HR4 := Lib.hid R4; have HM4 := Lib.hid M4; have HG4 := Lib.hid G4; clear R4 M4 G4 O4))
  rw [rounds_succ]
  go_wp2
  go_ret
  exact ⟨gM2, gK2, kc2, rfl, HR4.out, HM4.out, HG4.out⟩
set_option maxHeartbeats 4000000 in
set_option maxRecDepth 100000 in
theorem Step_G (w0 : World) (gR gB gM gM0 gK : Nat) (A : Option Addr) (c : Nat) (w : World) (hG : ∃ x, w = gx w0 x) (hgR : w0.heap.size ≤ gR) (hgK : w0.heap.size ≤ gK) (hR : At w gR (.cells (rpC gB gM gK 1 1 (-1)) 109 (0, 0)))
    (hB : GaAt w0 gB A c) (hM0 : MmAt w gM0) (hK : At w gK (.cells #[.int .i64 (-1), .slice (some ⟨gM0, 0, none⟩) 1 1] 104 (0, 0))) :
    Calls Tryz.prog 39 #[.pointer (some ⟨gR, 0, none⟩), .int .i64 2] w fun e w' => ∃ gM' gK' kc', e = .returned (.int .i64 0) ∧ At w' gR (.cells (rpC gB gM' gK' 3 kc' 1) 109 (0, 0)) ∧ MmAt w' gM' ∧ ∃ x, w' = gx w0 x := by
  have HT := Lib.hid (goTo_G w0 gR gB gM gM0 gK A c w hG hgR hgK hR hB hM0 hK)
  have r2 : w.cell? ⟨gR, 2, none⟩ = some (.int .i64 (-1)) := by rw [cell_of_row w _ _ _ _ _ hR]; rfl
  have lR := hR.lt
  clear hG hR hB hM0 hK
  go_enter Tryz.func39, Tryz.ntmps39
  go_wp2_with (first | go_skip | (go_at_call 67; refine HT.out.mono ?_; rintro e W4 ⟨gM2, gK2, kc2, rfl, R4, M4, G4⟩; have HR4 := Lib.hid R4; have HM4 := Lib.hid M4; have HG4 := Lib.hid G4; clear R4 M4 G4))
  go_ret
  exact ⟨gM2, gK2, kc2, rfl, HR4.out, HM4.out, HG4.out⟩
end Go.Proofs.YtocaphcnnmcnjaaGreatDoor

/-
  The guard of stage 8: the faces.
-/
namespace Go.Proofs.YtocaphcnnmcnjaaGreatDoor
open Go.RowKit
-- AT2
-- AT3

theorem el_face : Elem 75 78 4 40 := elem_of Tryz.underlying75 (by decide) (z := .agg #[.string ⟨#[]⟩, .int .i64 0, .bool false, .int .i64 0]) (by kernel_rfl) rfl
/-- The cells of the face that the guard shows. -/
def fcC : List Value := [.string ⟨#[45, 49, 46, 53]⟩, .int .i64 0, .bool false, .int .i64 4]
set_option maxHeartbeats 4000000 in
set_option maxRecDepth 100000 in
theorem faces_G (gB cb gM : Nat) (A : Option Addr) (c : Nat) (w : World) (hB : GaAt w gB A c) (hM : MmAt w gM) :
    Calls Tryz.prog 68 #[.slice (some ⟨gB, 0, none⟩) 1 cb, stV 1 gM] w fun e w' => ∃ gF cF, e = .returned (.slice (some ⟨gF, 0, none⟩) 1 cF) ∧ (∀ j u, fcC[j]? = some u → w'.cell? ⟨gF, j, none⟩ = some u) ∧ ∃ x, w' = gx w x := by
  have HF := Lib.hid (fun W (hW : ∃ x, W = gx w x) => face_G gB c A W (hB.on hW))
  have hm : gM < w.heap.size := World.block_lt_of_cell? w _ hM.c0
  have hb : gB < w.heap.size := World.block_lt_of_cell? w _ hB.k
  obtain ⟨c0, c1, c2, c3⟩ := hM
  clear hB
  go_enter Tryz.func68, Tryz.ntmps68
  go_wp2
  refine wp_loop_rounds 2 ?_
  rw [rounds_succ]
  go_wp2
  go_region_held3 (fun W => (∃ x, W = gx w x) ∧ W.cell? ⟨w.heap.size, 0, none⟩ = some (.int .i64 1) ∧ W.cell? ⟨w.heap.size + 1, 0, none⟩ = some (.bool false) ∧ W.cell? ⟨w.heap.size + 1, 1, none⟩ = some (.bool false) ∧ W.cell? ⟨w.heap.size + 1, 2, none⟩ = some (.int .i64 0) ∧ W.cell? ⟨w.heap.size + 1, 3, none⟩ = some (.int .i64 0))
    (refine ⟨(by repeat (first | (with_reducible exact Gx.refl _) | (with_reducible assumption) | (with_reducible refine Gx.gx ?_) | (with_reducible refine Gx.alloc ?_) | (with_reducible refine Gx.drew ?_) | (with_reducible refine Gx.drewN ?_) | (with_reducible refine Gx.setRow ?_ (by first | omega | (simp; done) | (simp <;> omega))) | (with_reducible refine Gx.setCell ?_ (by first | omega | (simp; done) | (simp <;> omega))))), ?_, ?_, ?_, ?_, ?_⟩ <;> first | assumption | exact cell_keep_gx ‹_› | go_keep | (simp [go_sem]; done))
    (first
    | (go_at_call 95; refine (HF.out _ (by repeat (first | (with_reducible exact Gx.refl _) | (with_reducible assumption) | (with_reducible refine Gx.gx ?_) | (with_reducible refine Gx.alloc ?_) | (with_reducible refine Gx.drew ?_) | (with_reducible refine Gx.drewN ?_) | (with_reducible refine Gx.setRow ?_ (by first | omega | (simp; done) | (simp <;> omega))) | (with_reducible refine Gx.setCell ?_ (by first | omega | (simp; done) | (simp <;> omega)))))).mono ?_; rintro e w' ⟨rfl, x1, rfl⟩))
  all_goals go_wp2
  all_goals rw [rounds_succ]
  all_goals go_wp2
  all_goals go_ret
  all_goals refine ⟨_, _, rfl, fun j u hu => ?_, (by repeat (first | (with_reducible exact Gx.refl _) | (with_reducible assumption) | (with_reducible refine Gx.gx ?_) | (with_reducible refine Gx.alloc ?_) | (with_reducible refine Gx.drew ?_) | (with_reducible refine Gx.drewN ?_) | (with_reducible refine Gx.setRow ?_ (by first | omega | (simp; done) | (simp <;> omega))) | (with_reducible refine Gx.setCell ?_ (by first | omega | (simp; done) | (simp <;> omega)))))⟩
  all_goals
    have hj := (List.getElem?_eq_some_iff.1 hu).1
    simp only [fcC, List.length_cons, List.length_nil] at hj
    rcases (by omega : j = 0 ∨ j = 1 ∨ j = 2 ∨ j = 3) with rfl | rfl | rfl | rfl
    all_goals
      simp [fcC] at hu
      subst hu
      rw [show ∀ (W : World) a, W.drew.cell? a = W.cell? a from fun _ _ => rfl, cell_of_row _ _ _ _ _ _ (At.new' (by simp)), Array.getElem?_append_left (by simp)]
      rfl
end Go.Proofs.YtocaphcnnmcnjaaGreatDoor

/-
  The guard of stage 8: shown() = true.
-/
namespace Go.Proofs.YtocaphcnnmcnjaaGreatDoor
open Go.RowKit
-- AT2
-- AT3

theorem CheckInstrument_G (w : World) : Calls Tryz.prog 7 #[inG] w fun e w' => e = .returned (.int .i64 0) ∧ ∃ x, w' = gx w x := by
  refine ins_o 1 ⟨#[97]⟩ ⟨#[116]⟩ 1 0 0 0 none 0 0 0 0 false 0 inG rfl [(true, [1, 4, 6]), (false, [2]), (false, [3, 5]), (false, [3]), (false, [6])] true false w ?_ ?_ ?_ ⟨rfl, rfl, by decide, by decide, rfl, by omega, by omega⟩
  · refine Lib.hid fun W _ => ?_
    have := pIsName_any ⟨#[97]⟩ (by decide) W
    rw [pName_a] at this
    exact this
  · refine Lib.hid fun W _ => ?_
    exact fieldsOf_core 1 ⟨#[97]⟩ ⟨#[116]⟩ 1 0 0 0 none 0 0 0 0 false 0 W false false (.inr ⟨rfl, rfl, rfl, rfl, rfl⟩) (.inr ⟨rfl, rfl, rfl⟩)
  · refine Lib.hid fun W A hF _ => ?_
    unfold FiveAt at hF
    obtain ⟨g, rfl, hl, h⟩ := hF
    have := isMisused_any [(true, [1, 4, 6]), (false, [2]), (false, [3, 5]), (false, [3]), (false, [6])] g 5 1 W (by decide) h
    rw [show misB 1 [(true, [1, 4, 6]), (false, [2]), (false, [3, 5]), (false, [3]), (false, [6])] = false by unfold misB misF inI; rfl] at this
    exact this
set_option maxHeartbeats 2000000 in
set_option maxRecDepth 100000 in
theorem Faces_G (w0 : World) (gR gB gM gK kl kc : Nat) (A : Option Addr) (c : Nat) (w : World) (hG : ∃ x, w = gx w0 x) (hR : At w gR (.cells (rpC gB gM gK kl kc 1) 109 (0, 0))) (hB : GaAt w0 gB A c) (hM : MmAt w gM) :
    Calls Tryz.prog 40 #[.pointer (some ⟨gR, 0, none⟩)] w fun e w' => ∃ gF cF, e = .returned (.slice (some ⟨gF, 0, none⟩) 1 cF) ∧ (∀ j u, fcC[j]? = some u → w'.cell? ⟨gF, j, none⟩ = some u) ∧ ∃ x, w' = gx w x := by
  have HF := Lib.hid (fun W (hW : ∃ x, W = gx w x) => faces_G gB 1 gM A c W (hB.on (Gx.trans hW hG)) (hM.on hW))
  have r0 : w.cell? ⟨gR, 0, none⟩ = some (.slice (some ⟨gB, 0, none⟩) 1 1) := by rw [cell_of_row w _ _ _ _ _ hR]; rfl
  have r2 : w.cell? ⟨gR, 2, none⟩ = some (.int .i64 1) := by rw [cell_of_row w _ _ _ _ _ hR]; rfl
  have r3 : w.cell? ⟨gR, 3, none⟩ = some (.slice (some ⟨gM, 0, none⟩) 1 1) := by rw [cell_of_row w _ _ _ _ _ hR]; rfl
  have lR := hR.lt
  clear hR hG hB hM
  go_enter Tryz.func40, Tryz.ntmps40
  go_wp2
  go_region_held3 (fun W => (∃ x, W = gx w x) ∧ W.cell? ⟨gR, 0, none⟩ = some (.slice (some ⟨gB, 0, none⟩) 1 1) ∧ W.cell? ⟨gR, 2, none⟩ = some (.int .i64 1) ∧ W.cell? ⟨gR, 3, none⟩ = some (.slice (some ⟨gM, 0, none⟩) 1 1))
    (refine ⟨(by repeat (first | (with_reducible exact Gx.refl _) | (with_reducible assumption) | (with_reducible refine Gx.gx ?_) | (with_reducible refine Gx.alloc ?_) | (with_reducible refine Gx.drew ?_) | (with_reducible refine Gx.drewN ?_) | (with_reducible refine Gx.setRow ?_ (by first | omega | (simp; done) | (simp <;> omega))) | (with_reducible refine Gx.setCell ?_ (by first | omega | (simp; done) | (simp <;> omega))))), ?_, ?_, ?_⟩ <;> first | assumption | exact cell_keep_gx ‹_› | go_keep | (simp [go_sem]; done))
    (first | (go_at_call 68; refine (HF.out _ (by repeat (first | (with_reducible exact Gx.refl _) | (with_reducible assumption) | (with_reducible refine Gx.gx ?_) | (with_reducible refine Gx.alloc ?_) | (with_reducible refine Gx.drew ?_) | (with_reducible refine Gx.drewN ?_) | (with_reducible refine Gx.setRow ?_ (by first | omega | (simp; done) | (simp <;> omega))) | (with_reducible refine Gx.setCell ?_ (by first | omega | (simp; done) | (simp <;> omega)))))).mono ?_; rintro e W1 ⟨gF, cF, rfl, hc, x1, rfl⟩; have HC := Lib.hid hc; clear hc))
  all_goals go_wp2
  all_goals go_ret
  all_goals exact ⟨gF, cF, rfl, HC.out, (by repeat (first | (with_reducible exact Gx.refl _) | (with_reducible assumption) | (with_reducible refine Gx.gx ?_) | (with_reducible refine Gx.alloc ?_) | (with_reducible refine Gx.drew ?_) | (with_reducible refine Gx.drewN ?_) | (with_reducible refine Gx.setRow ?_ (by first | omega | (simp; done) | (simp <;> omega))) | (with_reducible refine Gx.setCell ?_ (by first | omega | (simp; done) | (simp <;> omega)))))⟩
theorem inAt_new {w : World} {g : Nat} {t : TypeId} (h : At w g (.cells #[.int .i64 1, .string ⟨#[97]⟩, .string ⟨#[116]⟩, .int .i64 1, .int .i64 0, .int .i64 0, .int .i64 0, .slice none 0 0, .int .i64 0, .int .i64 0, .bool false, .int .i64 0] t (0, 0))) : InAt w g := by
  constructor <;> (rw [cell_of_row w _ _ _ _ _ h]; rfl)
theorem trAt_new {w : World} {g : Nat} {den lg : Int} {A : Option Addr} {n c : Nat} {t : TypeId} (h : At w g (.cells #[.string ⟨#[116]⟩, .int .i64 den, .slice A n c, .int .i64 lg] t (0, 0))) : TrAt w g 0 den A n c lg := by
  constructor <;> (rw [cell_of_row w _ _ _ _ _ h]; rfl)
theorem smAt_new {w : World} {g : Nat} {t : TypeId} (h : At w g (.cells #[.int .i64 70, .int .i64 (-3), .int .i64 4] t (0, 0))) : SmAt w smG 1 (some ⟨g, 0, none⟩) := by
  refine SmAt.mk fun _ => ⟨g, 0, rfl, fun k hk => ?_⟩
  obtain rfl : k = 0 := by omega
  refine ⟨?_, ?_, ?_⟩ <;> (rw [cell_of_row w _ _ _ _ _ h]; rfl)
set_option maxHeartbeats 4000000 in
set_option maxRecDepth 100000 in
theorem shown_any (w : World) : Calls Tryz.prog 14 #[] w fun e w' => e = .returned (.bool true) ∧ ∃ x, w' = gx w x := by
  go_enter Tryz.func14, Tryz.ntmps14
  go_wp2_with (first
    | go_skip
    | (go_at_call 38; refine (New_G w.heap.size 1 (w.heap.size + 1 + 1 + 1) 1 1 (some ⟨w.heap.size + 1 + 1, 0, none⟩) (fun h => by cases h) _ (inAt_new (t := 27) ?_) (trAt_new (t := 43) ?_) (smAt_new (t := 45) ?_) (Lib.hid (fun W _ => CheckInstrument_G W))).mono ?_; (focus (repeat (first | (with_reducible assumption) | (with_reducible exact At.new _ _) | (with_reducible refine At.row ?_) | ((with_reducible refine At.row_other ?_ ?_); rotate_left; (focus (simp <;> omega))) | (with_reducible refine At.app ?_) | (with_reducible refine At.tick ?_) | (with_reducible refine At.gx ?_) | ((with_reducible refine At.new' ?_); focus (simp; done)) | (with_reducible refine At.alloc ?_) | (with_reducible refine At.drew ?_) | (with_reducible exact Is.new _ _ _) | (with_reducible refine Is.row ?_) | ((with_reducible refine Is.row_other ?_ ?_); rotate_left; (focus (simp <;> omega))) | (with_reducible refine Is.gx ?_) | ((with_reducible refine Is.new' ?_); focus (simp; done)) | (with_reducible refine Is.alloc ?_) | (with_reducible refine Is.drew ?_)))); (focus (repeat (first | (with_reducible assumption) | (with_reducible exact At.new _ _) | (with_reducible refine At.row ?_) | ((with_reducible refine At.row_other ?_ ?_); rotate_left; (focus (simp <;> omega))) | (with_reducible refine At.app ?_) | (with_reducible refine At.tick ?_) | (with_reducible refine At.gx ?_) | ((with_reducible refine At.new' ?_); focus (simp; done)) | (with_reducible refine At.alloc ?_) | (with_reducible refine At.drew ?_) | (with_reducible exact Is.new _ _ _) | (with_reducible refine Is.row ?_) | ((with_reducible refine Is.row_other ?_ ?_); rotate_left; (focus (simp <;> omega))) | (with_reducible refine Is.gx ?_) | ((with_reducible refine Is.new' ?_); focus (simp; done)) | (with_reducible refine Is.alloc ?_) | (with_reducible refine Is.drew ?_)))); (focus (repeat (first | (with_reducible assumption) | (with_reducible exact At.new _ _) | (with_reducible refine At.row ?_) | ((with_reducible refine At.row_other ?_ ?_); rotate_left; (focus (simp <;> omega))) | (with_reducible refine At.app ?_) | (with_reducible refine At.tick ?_) | (with_reducible refine At.gx ?_) | ((with_reducible refine At.new' ?_); focus (simp; done)) | (with_reducible refine At.alloc ?_) | (with_reducible refine At.drew ?_) | (with_reducible exact Is.new _ _ _) | (with_reducible refine Is.row ?_) | ((with_reducible refine Is.row_other ?_ ?_); rotate_left; (focus (simp <;> omega))) | (with_reducible refine Is.gx ?_) | ((with_reducible refine Is.new' ?_); focus (simp; done)) | (with_reducible refine Is.alloc ?_) | (with_reducible refine Is.drew ?_)))); rintro e W1 ⟨w0, gR, gB, gM, gM0, gK, A', c', rfl, hw0, hGB, h1, h2, hR, hMM, hM0, hK, hG1⟩; have HS := Lib.hid (Step_G w0 gR gB gM gM0 gK A' c' W1 hG1 h1 h2 hR hGB hM0 hK); have HGB := Lib.hid hGB; have Hw0 : Hid (∃ x, w0 = gx w x) := Lib.hid (Gx.trans hw0 (by repeat (first | (with_reducible exact Gx.refl _) | (with_reducible assumption) | (with_reducible refine Gx.gx ?_) | (with_reducible refine Gx.alloc ?_) | (with_reducible refine Gx.drew ?_) | (with_reducible refine Gx.drewN ?_) | (with_reducible refine Gx.setRow ?_ (by first | omega | (simp; done) | (simp <;> omega))) | (with_reducible refine Gx.setCell ?_ (by first | omega | (simp; done) | (simp <;> omega)))))); clear hR hMM hM0 hK hG1 hGB hw0 h1 h2)
    | (go_at_call 39; refine HS.out.mono ?_; rintro e W2 ⟨gM2, gK2, kc2, rfl, hR2, hM2, hG2⟩; have HF := Lib.hid (Faces_G w0 gR gB gM2 gK2 3 kc2 A' c' W2 hG2 hR2 HGB.out hM2); have HG2 : Hid (∃ x, W2 = gx w x) := Lib.hid (Gx.trans hG2 Hw0.out); clear HS hR2 hM2 hG2)
    | (go_at_call 40; refine HF.out.mono ?_; rintro e W3 ⟨gF, cF, rfl, hc, hG3⟩; have d0 := hc 0 _ rfl; have d1 := hc 1 _ rfl; have d2 := hc 2 _ rfl; have d3 := hc 3 _ rfl; have lF : gF < W3.heap.size := World.block_lt_of_cell? W3 _ d0; have HG3 : Hid (∃ x, W3 = gx w x) := Lib.hid (Gx.trans hG3 HG2.out); clear HF hc hG3))
  go_ret
  exact ⟨rfl, HG3.out⟩
end Go.Proofs.YtocaphcnnmcnjaaGreatDoor
