/-
  Median: what both sides have at hand.
-/
import Derived.Test.YtmpokfbliacmoaaDoorSRSrt2
import Derived.Test.YtmpokfbliacmoaaDoorSClone
import Derived.Test.YtmpokfbliacmoaaDoorSRRsm
namespace Go.Proofs.YtmpokfbliacmoaaDoor
open Go.RowKit
-- AT2
-- AT3

theorem step_append_all' {t e : TypeId} {size bytes : Nat} (hE : Elem t e size bytes) {ops : Array Oper} {o : Oper} {a : Act} {K : Act → World → Prop} {Q : Exit → Act → World → Prop} {E' : Prop} {W : World} (w : World) (b : Nat) {s x : Operand} {v : Value} {n : Nat} {xs : List Value} {A : Option Addr} {m c : Nat} {news : List Value}
    (ho : o.op = .call { callee := .builtin .append, args := #[s, x], argTypes := #[t, t] }) (hgd : o.guard = none) (hs : a.eval s = v) (hx : a.eval x = .slice A m c) (hN : A = none → m = 0 ∧ c = 0)
    (hb : w.heap.size ≤ b) (hown : Own b W e size v n xs) (hW : ∃ x, W = gx w x) (hbW : b ≤ W.heap.size) (hl : news.length = m * size) (hnews : Shows news A W) (h1 : ∀ u ∈ news, u.oneCell' = true) (h63 : n + m ≤ maxLen) (hbytes : (n + m) * bytes ≤ 140737488355328)
    (h : ∀ v' W', (∃ x, W' = gx w x) → Own b W' e size v' (n + m) (xs ++ news) → W.grownBy W' v.ownBlock → K (a.put o.dst v') W') : if Region.wanted o (yielded ops a.tmps) = true then Oper.wp Tryd.prog o a W K Q else E' := by
  rw [if_pos (by simp [Region.wanted, hgd])]
  obtain ⟨ht, hp, i, z, hi, hz, hsize, hby, hzs⟩ := hE
  have gxw : ∀ W' , W.grownBy W' v.ownBlock → ∃ x, W' = gx w x := fun W' hg => gx_of_grown hW hg fun k hk => by have := hown.lt k hk; omega
  cases A with
  | none =>
    obtain ⟨rfl, rfl⟩ := hN rfl
    have hn : news = [] := List.eq_nil_of_length_eq_zero (by simpa using hl)
    subst hn
    have hr := run_append_owned_none (P := Tryd.prog) W b t o.type e i size ht hi v n xs hown.out
    unfold Oper.wp execOp
    simp only [ho, resolve, invoke, builtin, Sem.run_bind, Sem.run_pure, Result.andThen_ok, List.map_toArray, List.map_cons, List.map_nil, hs, hx, hr]
    exact h v W hW (by simpa using hown) ⟨rfl, rfl, rfl, Nat.le_refl _, fun _ _ _ => rfl⟩
  | some ad =>
    refine wp_append_own W s x t ho b e i z size bytes ht hi hz hsize hby hzs hp v n xs hs hown.out ad m c news hx hl ?_ h1 h63 hbytes hbW fun v' W' h2 h3 _ => h v' W' (gxw W' h3) (Own.mk' h2) h3
    intro j u hu
    unfold Shows at hnews
    obtain ⟨g', o', e1, hc⟩ := hnews (by have := (List.getElem?_eq_some_iff.1 hu).1; omega)
    obtain rfl := Option.some.inj e1
    rw [Addr.add_lit]
    exact hc j u hu
theorem is_ne_at {W : World} {g K : Nat} {t t' : TypeId} {cs : Array Value} (h : Is W g t) (hA : At W K (.cells cs t' (0, 0))) (hne : t ≠ t') : g ≠ K := by
  rintro rfl
  obtain ⟨cs', h'⟩ := h
  unfold At at h' hA
  rw [hA] at h'
  simp at h'
  exact hne h'.2.symm
theorem At.setc_0' {W : World} {K : Nat} {a b u : Value} {t : TypeId} (h : At W K (.cells #[a, b] t (0, 0))) : At (W.setCell ⟨K, 0, none⟩ u) K (.cells #[u, b] t (0, 0)) := by
  unfold At at *
  simp [World.setCell, Array.getElem?_modify, h]
theorem At.setc_1' {W : World} {K : Nat} {a b u : Value} {t : TypeId} (h : At W K (.cells #[a, b] t (0, 0))) : At (W.setCell ⟨K, 1, none⟩ u) K (.cells #[a, u] t (0, 0)) := by
  unfold At at *
  simp [World.setCell, Array.getElem?_modify, h]
theorem Own.rows' {b : Nat} {W : World} {t : TypeId} {size n c : Nat} {A : Option Addr} {xs : List Value} (h : Own b W t size (.slice A n c) n xs) (hn : 0 < n) : ∃ gM, A = some ⟨gM, 0, none⟩ ∧ b ≤ gM ∧ Is W gM t := by
  rcases h.out.2 with ⟨e, rfl⟩ | ⟨g, cap, cur, e, hb, hg, _⟩
  · simp at e; omega
  · simp only [Value.slice.injEq] at e
    obtain ⟨rfl, _, _⟩ := e
    exact ⟨g, rfl, hb, ⟨_, hg⟩⟩
/-- What Doubt has at hand while it marks. -/
structure DbSt (w wr : World) (gD : Nat) (den : Int) (A : Option Addr) (n c : Nat) (h : Nat → Sm) (A2 : Option Addr) (c2 : Nat) : Prop where
  grew : ∃ x, wr = gx w x
  ser : At wr w.heap.size (.cells #[.int .i64 den, .slice A n c] 24 (0, 0))
  res : At wr (w.heap.size + 1) (.cells #[.int .i64 0, .slice none 0 0] 24 (0, 0))
  dd : At wr gD (.cells #[.int .i64 den, .slice A2 n c2] 24 (0, 0))
  far : w.heap.size + 1 < gD
  row : 0 < n → ∃ gM, A2 = some ⟨gM, 0, none⟩ ∧ Is wr gM 38 ∧ w.heap.size + 1 < gM
  sm : SmAt wr h n A2
section
variable {w wr : World} {gD : Nat} {den : Int} {A : Option Addr} {n c : Nat} {h : Nat → Sm} {A2 : Option Addr} {c2 : Nat}
theorem DbSt.onx {x : Ext} (H : DbSt w wr gD den A n c h A2 c2) : DbSt w (gx wr x) gD den A n c h A2 c2 :=
  ⟨Gx.gx H.grew, H.ser.gx, H.res.gx, H.dd.gx, H.far, fun hn => by obtain ⟨gM, e, hI, m⟩ := H.row hn; exact ⟨gM, e, hI.gx, m⟩, H.sm.gx⟩
theorem DbSt.of_gx {W' : World} (H : DbSt w wr gD den A n c h A2 c2) (hW : ∃ x, W' = gx wr x) : DbSt w W' gD den A n c h A2 c2 := by
  obtain ⟨x, rfl⟩ := hW; exact H.onx
theorem smAt_setc {W : World} {h : Nat → Sm} {n gM K o : Nat} {u : Value} (H : SmAt W h n (some ⟨gM, 0, none⟩)) (hne : K ≠ gM) : SmAt (W.setCell ⟨K, o, none⟩ u) h n (some ⟨gM, 0, none⟩) := by
  refine SmAt.mk fun h0 => ?_
  unfold SmAt at H
  obtain ⟨b, o', e, hc⟩ := H h0
  obtain ⟨rfl, rfl⟩ : gM = b ∧ 0 = o' := by simpa using e
  refine ⟨gM, 0, rfl, fun k hk => ?_⟩
  obtain ⟨c1, c2, c3⟩ := hc k hk
  have ne : ∀ j, (⟨K, o, none⟩ : Addr) ≠ ⟨gM, j, none⟩ := fun j e => by injection e with e1; exact hne e1
  exact ⟨setc_other c1 (ne _), setc_other c2 (ne _), setc_other c3 (ne _)⟩
theorem DbSt.fin {u v : Value} (H : DbSt w wr gD den A n c h A2 c2) : SerPost w den h n 0 (.returned (.tuple #[serV den A2 n c2, .int .i64 0])) ((wr.setCell ⟨w.heap.size + 1, 0, none⟩ u).setCell ⟨w.heap.size + 1, 1, none⟩ v) := by
  refine SerPost.mk (Gx.setCell (Gx.setCell H.grew (by omega)) (by omega)) ?_
  rcases Nat.eq_zero_or_pos n with rfl | hn
  · exact SmAt.mk fun h => by omega
  · obtain ⟨gM, rfl, hI, hm⟩ := H.row hn
    exact smAt_setc (smAt_setc H.sm (by omega)) (by omega)
theorem DbSt.putN {i gM : Nat} {v : Int} (H : DbSt w wr gD den A n c h (some ⟨gM, 0, none⟩) c2) (hi : i < n) : DbSt w (wr.setCell ⟨gM, i * 3 + 1, none⟩ (.int .i64 v)) gD den A n c (fun j => if j = i then ⟨(h j).t, v, (h j).m⟩ else h j) (some ⟨gM, 0, none⟩) c2 := by
  obtain ⟨gM', e, hI, hm⟩ := H.row (by omega)
  obtain rfl : gM = gM' := by simpa using e
  have n1 := is_ne_at hI H.dd (by decide)
  have hsm := H.sm
  unfold SmAt at hsm
  obtain ⟨b, o', e2, hc⟩ := hsm (by omega)
  obtain ⟨rfl, rfl⟩ : gM = b ∧ 0 = o' := by simpa using e2
  refine ⟨Gx.setCell H.grew (by omega), H.ser.setc_other (by omega), H.res.setc_other (by omega), H.dd.setc_other n1, H.far, fun _ => ⟨gM, rfl, hI.setc, hm⟩, SmAt.mk fun _ => ⟨gM, 0, rfl, fun k hk => ?_⟩⟩
  obtain ⟨c1, c2', c3⟩ := hc k hk
  have ne : ∀ a b : Nat, a ≠ b → (⟨gM, a, none⟩ : Addr) ≠ ⟨gM, b, none⟩ := fun a b hab e => by injection e with _ e2; exact hab e2
  rw [Nat.zero_add] at c1 c2' c3 ⊢
  by_cases ek : k = i
  · subst ek
    rw [if_pos rfl]
    exact ⟨setc_other c1 (ne _ _ (by omega)), World.cell?_setCell_same _ _ _ c2', setc_other c3 (ne _ _ (by omega))⟩
  · rw [if_neg ek]
    exact ⟨setc_other c1 (ne _ _ (by omega)), setc_other c2' (ne _ _ (by omega)), setc_other c3 (ne _ _ (by omega))⟩
theorem DbSt.start1 {W : World} {b : Nat} {ob : Array Value} (hG : ∃ x, W = gx w x) (hS : At W w.heap.size (.cells #[.int .i64 den, .slice A n c] 24 (0, 0))) (hR : At W (w.heap.size + 1) (.cells #[.int .i64 0, .slice none 0 0] 24 (0, 0)))
    (hb : w.heap.size + 1 < b) (hO : Own b W 38 3 (.slice A2 n c2) n (smC h n)) (e : ob = #[.int .i64 den, .slice A2 n c2]) : DbSt w (W.alloc (.cells ob 24)) W.heap.size den A n c h A2 c2 := by
  subst e
  have := hR.lt
  refine ⟨Gx.alloc hG, hS.alloc, hR.alloc, At.new W _, this, fun hn => ?_, hO.sm.alloc⟩
  obtain ⟨gM, e, hM, hI⟩ := hO.rows' hn
  exact ⟨gM, e, hI.alloc, by omega⟩
theorem DbSt.start2 {W : World} {b gT : Nat} (hG : ∃ x, W = gx w x) (hS : At W w.heap.size (.cells #[.int .i64 den, .slice A n c] 24 (0, 0))) (hR : At W (w.heap.size + 1) (.cells #[.int .i64 0, .slice none 0 0] 24 (0, 0)))
    (hb : w.heap.size + 1 < b) (hO : Own b W 38 3 (.slice A2 n c2) n (smC h n)) (hT : At W gT (.cells #[.int .i64 0, .slice none 0 0] 24 (0, 0))) (h3 : w.heap.size + 1 < gT) :
    DbSt w ((W.setCell ⟨gT, 0, none⟩ (.int .i64 den)).setCell ⟨gT, 1, none⟩ (.slice A2 n c2)) gT den A n c h A2 c2 := by
  have hne := own_ne_at hO hT (by decide)
  refine ⟨Gx.setCell (Gx.setCell hG (by omega)) (by omega), (hS.setc_other (by omega)).setc_other (by omega), (hR.setc_other (by omega)).setc_other (by omega), hT.setc_0'.setc_1', h3, fun hn => ?_, ((hO.setc hne).setc hne).sm⟩
  obtain ⟨gM, e, hM, hI⟩ := hO.rows' hn
  exact ⟨gM, e, hI.setc.setc, by omega⟩
/-- The cells of a sample that is marked. -/
theorem DbSt.cell {i : Nat} (H : DbSt w wr gD den A n c h A2 c2) (hi : i < n) : ∃ gM, A2 = some ⟨gM, 0, none⟩ ∧ gM < wr.heap.size ∧ (∀ o, wr.frozen? ⟨gM, o, none⟩ = false) ∧ wr.cell? ⟨gM, i * 3, none⟩ = some (.int .i64 (h i).t) ∧ wr.cell? ⟨gM, i * 3 + 1, none⟩ = some (.int .i64 (h i).n) ∧ wr.cell? ⟨gM, i * 3 + 2, none⟩ = some (.int .i64 (h i).m) := by
  obtain ⟨gM, rfl, hI, hm⟩ := H.row (by omega)
  have hsm := H.sm
  unfold SmAt at hsm
  obtain ⟨b, o', e2, hc⟩ := hsm (by omega)
  obtain ⟨rfl, rfl⟩ : gM = b ∧ 0 = o' := by simpa using e2
  obtain ⟨c1, c2', c3⟩ := hc i hi
  rw [Nat.zero_add] at c1 c2' c3
  obtain ⟨cs, hA⟩ := hI
  exact ⟨gM, rfl, hA.lt, fun o => hA.frz, c1, c2', c3⟩
end
end Go.Proofs.YtmpokfbliacmoaaDoor
