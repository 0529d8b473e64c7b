/-
  A series some of whose samples are lost: what the law SeriesHoldKnowsLess makes, and what it knows.
-/
import Derived.Test.YtlnbadjjgbecgaaSHolds
import Derived.BigRegion
import Derived.Deep.RegionLaw
namespace Go.Proofs.Ytlnbadjjgbecgaa
open Go.RowKit
-- AT2
-- AT3

theorem own_ne_at {b : Nat} {W : World} {e t : TypeId} {size n : Nat} {v : Value} {xs : List Value} {K : Nat} {cs : Array Value} (h : Own b W e size v n xs) (hA : At W K (.cells cs t (0, 0))) (hne : e ≠ t) : v.ownBlock ≠ some K := by
  rcases h.out.2 with ⟨rfl, _⟩ | ⟨g, cap, cur, rfl, _, hg, _⟩
  · simp [Value.ownBlock]
  · intro he
    simp only [Value.ownBlock, Option.some.injEq] at he
    subst he
    unfold At at hA
    rw [hg] at hA
    simp at hA
    exact hne hA.2
theorem At.setc {W : World} {K : Nat} {v u : Value} {t : TypeId} (h : At W K (.cells #[v] t (0, 0))) : At (W.setCell ⟨K, 0, none⟩ u) K (.cells #[u] t (0, 0)) := by
  unfold At at *
  simp [World.setCell, Array.getElem?_modify, h]
theorem grown_setc (W : World) (K o : Nat) (u : Value) : W.grownBy (W.setCell ⟨K, o, none⟩ u) (some K) :=
  ⟨rfl, rfl, rfl, by simp, fun k _ hk => by
    have hne : K ≠ k := fun e => hk (by rw [e])
    simp only [World.setCell]
    rw [Array.getElem?_modify, if_neg hne]⟩
theorem Own.setc {b : Nat} {W : World} {e : TypeId} {size n : Nat} {v u : Value} {xs : List Value} {K o : Nat} (h : Own b W e size v n xs) (hne : v.ownBlock ≠ some K) : Own b (W.setCell ⟨K, o, none⟩ u) e size v n xs :=
  h.kept (grown_setc W K o u) (.inr hne)
theorem At.cell {W : World} {K : Nat} {v : Value} {t : TypeId} (h : At W K (.cells #[v] t (0, 0))) : W.cell? ⟨K, 0, none⟩ = some v := by
  rw [cell_of_row W K 0 _ _ _ h]; rfl
theorem At.frz {W : World} {K o : Nat} {cs : Array Value} {t : TypeId} (h : At W K (.cells cs t (0, 0))) : W.frozen? ⟨K, o, none⟩ = false := by
  unfold At at h
  simp [World.frozen?, h]
theorem setc_other {W : World} {p q : Addr} {u v : Value} (h : W.cell? q = some v) (hne : p ≠ q) : (W.setCell p u).cell? q = some v := (World.cell?_setCell_other _ _ _ _ hne).trans h
theorem At.setc_other {W : World} {g K o : Nat} {u : Value} {ob : Obj} (h : At W g ob) (hne : K ≠ g) : At (W.setCell ⟨K, o, none⟩ u) g ob := by
  unfold At at *
  simp only [World.setCell]
  rw [Array.getElem?_modify, if_neg hne]
  exact h
theorem Is.setc {W : World} {g K o : Nat} {u : Value} {t : TypeId} (h : Is W g t) : Is (W.setCell ⟨K, o, none⟩ u) g t := by
  obtain ⟨cs, h⟩ := h
  by_cases e : K = g
  · subst e
    unfold At at h
    refine ⟨cs.setIfInBounds o u, ?_⟩
    unfold At
    simp [World.setCell, Array.getElem?_modify, h]
  · exact ⟨cs, At.setc_other h e⟩
/-- The cells of the first k samples. -/
def smC (f : Nat → Sm) : Nat → List Value
  | 0 => []
  | k + 1 => smC f k ++ [.int .i64 (f k).t, .int .i64 (f k).n, .int .i64 (f k).m]
theorem smC_len (f : Nat → Sm) : ∀ k, (smC f k).length = k * 3
  | 0 => rfl
  | k + 1 => by show (smC f k ++ _).length = _; rw [List.length_append, smC_len f k]; simp; omega
theorem smC_at (f : Nat → Sm) : ∀ k i, i < k → (smC f k)[i * 3]? = some (.int .i64 (f i).t) ∧ (smC f k)[i * 3 + 1]? = some (.int .i64 (f i).n) ∧ (smC f k)[i * 3 + 2]? = some (.int .i64 (f i).m)
  | 0, i, h => by omega
  | k + 1, i, h => by
    show (smC f k ++ [.int .i64 (f k).t, .int .i64 (f k).n, .int .i64 (f k).m])[i * 3]? = _ ∧ (smC f k ++ [.int .i64 (f k).t, .int .i64 (f k).n, .int .i64 (f k).m])[i * 3 + 1]? = _ ∧ (smC f k ++ [.int .i64 (f k).t, .int .i64 (f k).n, .int .i64 (f k).m])[i * 3 + 2]? = _
    have hl := smC_len f k
    rcases Nat.lt_or_ge i k with h1 | h1
    · obtain ⟨e1, e2, e3⟩ := smC_at f k i h1
      rw [List.getElem?_append_left (by omega), List.getElem?_append_left (by omega), List.getElem?_append_left (by omega)]
      exact ⟨e1, e2, e3⟩
    · obtain rfl : i = k := by omega
      rw [List.getElem?_append_right (by omega), List.getElem?_append_right (by omega), List.getElem?_append_right (by omega), hl]
      rw [show i * 3 - i * 3 = 0 by omega, show i * 3 + 1 - i * 3 = 1 by omega, show i * 3 + 2 - i * 3 = 2 by omega]
      exact ⟨rfl, rfl, rfl⟩
theorem smC_succ (f : Nat → Sm) (k : Nat) : smC f (k + 1) = smC f k ++ [.int .i64 (f k).t, .int .i64 (f k).n, .int .i64 (f k).m] := rfl
theorem Own.sm {b : Nat} {W : World} {A : Option Addr} {k c : Nat} {f : Nat → Sm} (h : Own b W 26 3 (.slice A k c) k (smC f k)) : SmAt W f k A := by
  refine SmAt.mk fun h0 => ?_
  obtain ⟨A', c', e, _, _, _, hsh⟩ := h.is
  injection e with e1 e2 e3
  subst e1
  unfold Shows at hsh
  obtain ⟨g, o, rfl, hc⟩ := hsh (by rw [smC_len]; omega)
  refine ⟨g, o, rfl, fun i hi => ?_⟩
  obtain ⟨e1, e2, e3⟩ := smC_at f k i hi
  have h1 := hc _ _ e1
  have h2 := hc _ _ e2
  have h3 := hc _ _ e3
  rw [← Nat.add_assoc] at h2 h3
  exact ⟨h1, h2, h3⟩
theorem el_sample : Elem 22 26 3 24 := elem_of Try.underlying22 (by decide) (z := .agg #[.int .i64 0, .int .i64 0, .int .i64 0]) (by kernel_rfl) rfl

theorem step_append_all {t e : TypeId} {size bytes : Nat} (hE : Elem t e size bytes) {ops : Array Oper} {o : Oper} {a : Act} {K : Act → World → Prop} {Q : Exit → Act → World → Prop} {E' : Prop} {W : World} (w : World) (b : Nat) {s x : Operand} {v : Value} {n : Nat} {xs : List Value} {A : Option Addr} {m c : Nat} {news : List Value}
    (ho : o.op = .call { callee := .builtin .append, args := #[s, x], argTypes := #[t, t] }) (hgd : o.guard = none) (hs : a.eval s = v) (hx : a.eval x = .slice A m c) (hN : A = none → m = 0 ∧ c = 0)
    (hb : w.heap.size ≤ b) (hown : Own b W e size v n xs) (hW : ∃ x, W = gx w x) (hbW : b ≤ W.heap.size) (hl : news.length = m * size) (hnews : Shows news A W) (h1 : ∀ u ∈ news, u.oneCell' = true) (h63 : n + m ≤ maxLen) (hbytes : (n + m) * bytes ≤ 140737488355328)
    (h : ∀ v' W', (∃ x, W' = gx w x) → Own b W' e size v' (n + m) (xs ++ news) → W.grownBy W' v.ownBlock → K (a.put o.dst v') W') : if Region.wanted o (yielded ops a.tmps) = true then Oper.wp Try.prog o a W K Q else E' := by
  rw [if_pos (by simp [Region.wanted, hgd])]
  obtain ⟨ht, hp, i, z, hi, hz, hsize, hby, hzs⟩ := hE
  have gxw : ∀ W' , W.grownBy W' v.ownBlock → ∃ x, W' = gx w x := fun W' hg => gx_of_grown hW hg fun k hk => by have := hown.lt k hk; omega
  cases A with
  | none =>
    obtain ⟨rfl, rfl⟩ := hN rfl
    have hn : news = [] := List.eq_nil_of_length_eq_zero (by simpa using hl)
    subst hn
    have hr := run_append_owned_none (P := Try.prog) W b t o.type e i size ht hi v n xs hown.out
    unfold Oper.wp execOp
    simp only [ho, resolve, invoke, builtin, Sem.run_bind, Sem.run_pure, Result.andThen_ok, List.map_toArray, List.map_cons, List.map_nil, hs, hx, hr]
    exact h v W hW (by simpa using hown) ⟨rfl, rfl, rfl, Nat.le_refl _, fun _ _ _ => rfl⟩
  | some ad =>
    refine wp_append_own W s x t ho b e i z size bytes ht hi hz hsize hby hzs hp v n xs hs hown.out ad m c news hx hl ?_ h1 h63 hbytes hbW fun v' W' h2 h3 _ => h v' W' (gxw W' h3) (Own.mk' h2) h3
    intro j u hu
    unfold Shows at hnews
    obtain ⟨g', o', e1, hc⟩ := hnews (by have := (List.getElem?_eq_some_iff.1 hu).1; omega)
    obtain rfl := Option.some.inj e1
    rw [Addr.add_lit]
    exact hc j u hu
/-- The samples h are those of g, but for some that are lost. -/
def Less (g h : Nat → Sm) : Prop := ∀ i, h i = g i ∨ h i = ⟨(g i).t, 0, 0⟩
theorem Less.t {g h : Nat → Sm} (H : Less g h) (i : Nat) : (h i).t = (g i).t := by rcases H i with e | e <;> rw [e]
theorem Less.good {g h : Nat → Sm} {n : Nat} (H : Less g h) (hG : GoodS g n) : GoodS h n := by
  refine ⟨fun i hi => ?_, fun i hi hm => ?_, fun i hi => by rw [H.t, H.t]; exact hG.rise i hi⟩
  · have h1 := hG.ok i hi
    rcases H i with e | e
    · rw [e]; exact h1
    · rw [e]; unfold smOk at *; dsimp only; omega
  · rcases H i with e | e
    · rw [e] at hm ⊢; exact hG.num i hi hm
    · rw [e]
theorem Less.ahead {g h : Nat → Sm} (H : Less g h) (t : Int) : ∀ n, aheadN h t n = aheadN g t n
  | 0 => by unfold aheadN; rfl
  | n + 1 => by unfold aheadN; rw [Less.ahead H t n, H.t]
theorem Less.held {den : Int} {g h : Nat → Sm} {n : Nat} {a l : Int} (H : Less g h) (h0 : holdE den g n a l = 0) :
    holdE den h n a l = 0 ∧ (holdB den h n a l = true → holdB den g n a l = true ∧ holdV den h n a l = holdV den g n a l) := by
  obtain ⟨h1, h2, h3⟩ := holdE_0 h0
  obtain ⟨hd, hn, hG⟩ := goodS_of h1
  have hE : holdE den h n a l = 0 := by
    rw [holdE_is (goodS_back hd hn (H.good hG)), if_pos (by rw [Bool.and_eq_true]; exact ⟨inB_iff.2 h2, inB_iff.2 h3⟩)]
  obtain ⟨e1, e2⟩ := hold_yes h0
  obtain ⟨f1, f2⟩ := hold_yes hE
  refine ⟨hE, fun hb => ?_⟩
  rw [f2, H.ahead] at hb
  rw [e1, e2, f1, H.ahead]
  generalize aheadN g (a + 1) n = k at *
  obtain ⟨b1, b2, b3⟩ := heldB_iff.1 hb
  rw [H.t] at b3
  rcases H (k - 1) with e | e
  · rw [e] at b2
    have hb' : heldB g k a l = true := heldB_iff.2 ⟨b1, b2, b3⟩
    exact ⟨hb', by rw [heldV_yes hb, heldV_yes hb', e]⟩
  · rw [e] at b2; simp only at b2; omega
theorem Less.refl (g : Nat → Sm) : Less g g := fun _ => .inl rfl
def lose (h : Nat → Sm) (k : Nat) : Nat → Sm := fun i => if i = k then ⟨(h k).t, 0, 0⟩ else h i
theorem Less.lose {g h : Nat → Sm} (H : Less g h) (k : Nat) : Less g (lose h k) := fun i => by
  unfold Go.Proofs.Ytlnbadjjgbecgaa.lose
  by_cases e : i = k
  · subst e; rw [if_pos rfl, H.t]; exact .inr rfl
  · rw [if_neg e]; exact H i
/-- What the law has at hand in its loop. -/
structure LsSt (w wr : World) (gX gT : Nat) (X : Sm) (den : Int) (A : Option Addr) (c n : Nat) (h : Nat → Sm) (A2 : Option Addr) (c2 : Nat) : Prop where
  grew : ∃ x, wr = gx w x
  ser : At wr w.heap.size (.cells #[.int .i64 den, .slice A n c] 24 (0, 0))
  x : At wr gX (.cells #[.int .i64 X.t, .int .i64 X.n, .int .i64 X.m] 26 (0, 0))
  tt : At wr gT (.cells #[.int .i64 den, .slice A2 n c2] 24 (0, 0))
  far : w.heap.size < gX ∧ w.heap.size < gT
  row : 0 < n → ∃ gM, A2 = some ⟨gM, 0, none⟩ ∧ Is wr gM 26 ∧ w.heap.size < gM ∧ gM ≠ gX ∧ gM ≠ gT
  sm : SmAt wr h n A2
theorem LsSt.onx {w wr : World} {gX gT : Nat} {X : Sm} {den : Int} {A : Option Addr} {c n : Nat} {h : Nat → Sm} {A2 : Option Addr} {c2 : Nat} {x : Ext} (H : LsSt w wr gX gT X den A c n h A2 c2) : LsSt w (gx wr x) gX gT X den A c n h A2 c2 :=
  ⟨Gx.gx H.grew, H.ser.gx, H.x.gx, H.tt.gx, H.far, fun hn => by obtain ⟨gM, e, hI, m⟩ := H.row hn; exact ⟨gM, e, hI.gx, m⟩, H.sm.gx⟩
theorem LsSt.drew {w wr : World} {gX gT : Nat} {X : Sm} {den : Int} {A : Option Addr} {c n : Nat} {h : Nat → Sm} {A2 : Option Addr} {c2 : Nat} (H : LsSt w wr gX gT X den A c n h A2 c2) : LsSt w wr.drew gX gT X den A c n h A2 c2 := by rw [drew_is]; exact H.onx
theorem LsSt.put {w wr : World} {gX gT : Nat} {X : Sm} {den : Int} {A : Option Addr} {c n : Nat} {h : Nat → Sm} {gM c2 k : Nat} (H : LsSt w wr gX gT X den A c n h (some ⟨gM, 0, none⟩) c2) (hk : k < n) {t' : Int} (ht : (h k).t = t') :
    LsSt w (((wr.setCell ⟨gM, k * 3, none⟩ (.int .i64 t')).setCell ⟨gM, k * 3 + 1, none⟩ (.int .i64 0)).setCell ⟨gM, k * 3 + 2, none⟩ (.int .i64 0)) gX gT X den A c n (lose h k) (some ⟨gM, 0, none⟩) c2 := by
  obtain ⟨f1, f2⟩ := H.far
  obtain ⟨gM', e, hI, m1, m2, m3⟩ := H.row (by omega)
  obtain rfl : gM = gM' := by simpa using e
  have hsm := H.sm
  unfold SmAt at hsm
  obtain ⟨b, o, e2, hc⟩ := hsm (by omega)
  obtain ⟨rfl, rfl⟩ : gM = b ∧ 0 = o := by simpa using e2
  have ne : ∀ i j : Nat, i ≠ j → (⟨gM, i, none⟩ : Addr) ≠ ⟨gM, j, none⟩ := fun i j hij e => by injection e with _ e2; exact hij e2
  have hcz : ∀ i, i < n → wr.cell? ⟨gM, i * 3, none⟩ = some (.int .i64 (h i).t) ∧ wr.cell? ⟨gM, i * 3 + 1, none⟩ = some (.int .i64 (h i).n) ∧ wr.cell? ⟨gM, i * 3 + 2, none⟩ = some (.int .i64 (h i).m) := fun i hi => by
    have := hc i hi
    simpa using this
  obtain ⟨c0, c1, c2'⟩ := hcz k hk
  refine ⟨Gx.setCell (Gx.setCell (Gx.setCell H.grew (by omega)) (by omega)) (by omega), ?_, ?_, ?_, H.far, fun _ => ⟨gM, rfl, hI.setc.setc.setc, m1, m2, m3⟩, SmAt.mk fun _ => ⟨gM, 0, rfl, fun i hi => ?_⟩⟩
  · exact At.setc_other (At.setc_other (At.setc_other H.ser (by omega)) (by omega)) (by omega)
  · exact At.setc_other (At.setc_other (At.setc_other H.x m2) m2) m2
  · exact At.setc_other (At.setc_other (At.setc_other H.tt m3) m3) m3
  · rw [Nat.zero_add]
    unfold Go.Proofs.Ytlnbadjjgbecgaa.lose
    by_cases ek : i = k
    · subst ek
      rw [if_pos rfl, ht]
      refine ⟨?_, ?_, ?_⟩
      · exact setc_other (setc_other (World.cell?_setCell_same _ _ _ c0) (ne _ _ (by omega))) (ne _ _ (by omega))
      · exact setc_other (World.cell?_setCell_same _ _ _ (setc_other c1 (ne _ _ (by omega)))) (ne _ _ (by omega))
      · exact World.cell?_setCell_same _ _ _ (setc_other (setc_other c2' (ne _ _ (by omega))) (ne _ _ (by omega)))
    · rw [if_neg ek]
      obtain ⟨d0, d1, d2⟩ := hcz i hi
      refine ⟨?_, ?_, ?_⟩
      · exact setc_other (setc_other (setc_other d0 (ne _ _ (by omega))) (ne _ _ (by omega))) (ne _ _ (by omega))
      · exact setc_other (setc_other (setc_other d1 (ne _ _ (by omega))) (ne _ _ (by omega))) (ne _ _ (by omega))
      · exact setc_other (setc_other (setc_other d2 (ne _ _ (by omega))) (ne _ _ (by omega))) (ne _ _ (by omega))
theorem At.setc_0 {W : World} {K : Nat} {a b u : Value} {t : TypeId} (h : At W K (.cells #[a, b] t (0, 0))) : At (W.setCell ⟨K, 0, none⟩ u) K (.cells #[u, b] t (0, 0)) := by
  unfold At at *
  simp [World.setCell, Array.getElem?_modify, h]
theorem At.setc_1 {W : World} {K : Nat} {a b u : Value} {t : TypeId} (h : At W K (.cells #[a, b] t (0, 0))) : At (W.setCell ⟨K, 1, none⟩ u) K (.cells #[a, u] t (0, 0)) := by
  unfold At at *
  simp [World.setCell, Array.getElem?_modify, h]
theorem Own.rows {b : Nat} {W : World} {t : TypeId} {size n c : Nat} {A : Option Addr} {xs : List Value} (h : Own b W t size (.slice A n c) n xs) (hn : 0 < n) : ∃ gM, A = some ⟨gM, 0, none⟩ ∧ b ≤ gM ∧ Is W gM t := by
  rcases h.out.2 with ⟨e, rfl⟩ | ⟨g, cap, cur, e, hb, hg, _⟩
  · simp at e; omega
  · simp only [Value.slice.injEq] at e
    obtain ⟨rfl, _, _⟩ := e
    exact ⟨g, rfl, hb, ⟨_, hg⟩⟩
theorem LsSt.start1 {w W3 : World} {gX b : Nat} {X : Sm} {den : Int} {A A3 : Option Addr} {c n c3 : Nat} {g : Nat → Sm} (hG : ∃ x, W3 = gx w x) (hS : At W3 w.heap.size (.cells #[.int .i64 den, .slice A n c] 24 (0, 0)))
    (hX : At W3 gX (.cells #[.int .i64 X.t, .int .i64 X.n, .int .i64 X.m] 26 (0, 0))) (h1 : w.heap.size < gX) (h2 : gX < b) (hO : Own b W3 26 3 (.slice A3 n c3) n (smC g n)) :
    LsSt w (W3.alloc (.cells #[.int .i64 den, .slice A3 n c3] 24)) gX W3.heap.size X den A c n g A3 c3 := by
  have hl := hS.lt
  refine ⟨Gx.alloc hG, hS.alloc, hX.alloc, At.new W3 _, ⟨h1, hl⟩, fun hn => ?_, hO.sm.alloc⟩
  obtain ⟨gM, e, hb, hI⟩ := hO.rows hn
  have hlM : gM < W3.heap.size := by obtain ⟨cs, hA⟩ := hI; exact hA.lt
  exact ⟨gM, e, hI.alloc, by omega, by omega, by omega⟩
theorem LsSt.start2 {w W3 : World} {gX b gT : Nat} {X : Sm} {den : Int} {A A3 : Option Addr} {c n c3 : Nat} {g : Nat → Sm} (hG : ∃ x, W3 = gx w x) (hS : At W3 w.heap.size (.cells #[.int .i64 den, .slice A n c] 24 (0, 0)))
    (hX : At W3 gX (.cells #[.int .i64 X.t, .int .i64 X.n, .int .i64 X.m] 26 (0, 0))) (h1 : w.heap.size < gX) (h2 : gX < b) (hO : Own b W3 26 3 (.slice A3 n c3) n (smC g n))
    (hT : At W3 gT (.cells #[.int .i64 0, .slice none 0 0] 24 (0, 0))) (h3 : gX < gT) :
    LsSt w ((W3.setCell ⟨gT, 0, none⟩ (.int .i64 den)).setCell ⟨gT, 1, none⟩ (.slice A3 n c3)) gX gT X den A c n g A3 c3 := by
  have hne := own_ne_at hO hT (by decide)
  refine ⟨Gx.setCell (Gx.setCell hG (by omega)) (by omega), At.setc_other (At.setc_other hS (by omega)) (by omega), At.setc_other (At.setc_other hX (by omega)) (by omega), hT.setc_0.setc_1, ⟨h1, by omega⟩, fun hn => ?_, ((hO.setc hne).setc hne).sm⟩
  obtain ⟨gM, e, hb, hI⟩ := hO.rows hn
  subst e
  exact ⟨gM, rfl, hI.setc.setc, by omega, by omega, fun e => hne (by rw [← e]; rfl)⟩
end Go.Proofs.Ytlnbadjjgbecgaa
