/-
  The guard of stage 8: its replay goes on by a frame.
-/
import Derived.Test.YtbhcjaejkplfeaaGreatDoorPNear
import Derived.Deep.RegionHeld3
namespace Go.Proofs.YtbhcjaejkplfeaaGreatDoor
open Go.RowKit
-- AT2
-- AT3

theorem step_append_all' {t e : TypeId} {size bytes : Nat} (hE : Elem t e size bytes) {ops : Array Oper} {o : Oper} {a : Act} {K : Act → World → Prop} {Q : Exit → Act → World → Prop} {E' : Prop} {W : World} (w : World) (b : Nat) {s x : Operand} {v : Value} {n : Nat} {xs : List Value} {A : Option Addr} {m c : Nat} {news : List Value}
    (ho : o.op = .call { callee := .builtin .append, args := #[s, x], argTypes := #[t, t] }) (hgd : o.guard = none) (hs : a.eval s = v) (hx : a.eval x = .slice A m c) (hN : A = none → m = 0 ∧ c = 0)
    (hb : w.heap.size ≤ b) (hown : Own b W e size v n xs) (hW : ∃ x, W = gx w x) (hbW : b ≤ W.heap.size) (hl : news.length = m * size) (hnews : Shows news A W) (h1 : ∀ u ∈ news, u.oneCell' = true) (h63 : n + m ≤ maxLen) (hbytes : (n + m) * bytes ≤ 140737488355328)
    (h : ∀ v' W', (∃ x, W' = gx w x) → Own b W' e size v' (n + m) (xs ++ news) → W.grownBy W' v.ownBlock → K (a.put o.dst v') W') : if Region.wanted o (yielded ops a.tmps) = true then Oper.wp Tryz.prog o a W K Q else E' := by
  rw [if_pos (by simp [Region.wanted, hgd])]
  obtain ⟨ht, hp, i, z, hi, hz, hsize, hby, hzs⟩ := hE
  have gxw : ∀ W' , W.grownBy W' v.ownBlock → ∃ x, W' = gx w x := fun W' hg => gx_of_grown hW hg fun k hk => by have := hown.lt k hk; omega
  cases A with
  | none =>
    obtain ⟨rfl, rfl⟩ := hN rfl
    have hn : news = [] := List.eq_nil_of_length_eq_zero (by simpa using hl)
    subst hn
    have hr := run_append_owned_none (P := Tryz.prog) W b t o.type e i size ht hi v n xs hown.out
    unfold Oper.wp execOp
    simp only [ho, resolve, invoke, builtin, Sem.run_bind, Sem.run_pure, Result.andThen_ok, List.map_toArray, List.map_cons, List.map_nil, hs, hx, hr]
    exact h v W hW (by simpa using hown) ⟨rfl, rfl, rfl, Nat.le_refl _, fun _ _ _ => rfl⟩
  | some ad =>
    refine wp_append_own W s x t ho b e i z size bytes ht hi hz hsize hby hzs hp v n xs hs hown.out ad m c news hx hl ?_ h1 h63 hbytes hbW fun v' W' h2 h3 _ => h v' W' (gxw W' h3) (Own.mk' h2) h3
    intro j u hu
    unfold Shows at hnews
    obtain ⟨g', o', e1, hc⟩ := hnews (by have := (List.getElem?_eq_some_iff.1 hu).1; omega)
    obtain rfl := Option.some.inj e1
    rw [Addr.add_lit]
    exact hc j u hu
theorem el_state : Elem 106 104 2 32 := elem_of Tryz.underlying106 (by decide) (z := .agg #[.int .i64 0, .slice none 0 0]) (by kernel_rfl) rfl
theorem At.setR {W : World} {K o : Nat} {u : Value} {cs : Array Value} {t : TypeId} (h : At W K (.cells cs t (0, 0))) : At (W.setCell ⟨K, o, none⟩ u) K (.cells (cs.setIfInBounds o u) t (0, 0)) := by
  unfold At at *
  simp [World.setCell, Array.getElem?_modify, h]
theorem MmAt.setc {W : World} {g K o : Nat} {u : Value} (h : MmAt W g) (hne : K ≠ g) : MmAt (W.setCell ⟨K, o, none⟩ u) g :=
  ⟨setc_other h.c0 (fun e => by injection e with e1; omega), setc_other h.c1 (fun e => by injection e with e1; omega), setc_other h.c2 (fun e => by injection e with e1; omega), setc_other h.c3 (fun e => by injection e with e1; omega)⟩
theorem cell_grown {W W' : World} {K o : Nat} {r : Option Nat} {v : Value} (h : W.cell? ⟨K, o, none⟩ = some v) (hg : W.grownBy W' r) (hr : r ≠ some K) : W'.cell? ⟨K, o, none⟩ = some v := by
  have hl := World.block_lt_of_cell? W _ h
  exact (World.cell?_of_block (hg.block K hl (fun e => hr e.symm))).trans h
theorem MmAt.grown {W W' : World} {g : Nat} {r : Option Nat} (h : MmAt W g) (hg : W.grownBy W' r) (hr : r ≠ some g) : MmAt W' g :=
  ⟨cell_grown h.c0 hg hr, cell_grown h.c1 hg hr, cell_grown h.c2 hg hr, cell_grown h.c3 hg hr⟩
theorem own_pos {b : Nat} {W : World} {e : TypeId} {s n c : Nat} {A : Option Addr} {xs : List Value} (h : Own b W e s (.slice A (n + 1) c) (n + 1) xs) : ∃ g, A = some ⟨g, 0, none⟩ := by
  rcases h.out.2 with ⟨_, h0⟩ | ⟨g, cap, cur, he, _⟩
  · omega
  · simp only [Value.slice.injEq] at he
    exact ⟨g, he.1⟩
theorem MmAt.ne_at {W : World} {g gR : Nat} {gB gM gK kl kc : Nat} {fr : Int} {t : TypeId} (h : MmAt W g) (hR : At W gR (.cells (rpC gB gM gK kl kc fr) t (0, 0))) : gR ≠ g := by
  rintro rfl
  have h1 := h.c0
  rw [cell_of_row W _ _ _ _ _ hR] at h1
  cases h1
end Go.Proofs.YtbhcjaejkplfeaaGreatDoor
