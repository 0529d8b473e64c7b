/-
  FrameFlipsAreNoticed: the walk.
-/
import Derived.Test.YtemgjiajpgepiaaDoorFlaws2
import Derived.Test.YtemgjiajpgepiaaDoorLawNew
namespace Go.Proofs.YtemgjiajpgepiaaDoor
open Go.RowKit
-- AT2

/-- Is a number among the first n? -/
@[irreducible] def hasI (B : List Int) (n : Nat) (v : Int) : Bool := (List.range n).any fun j => gw B j == v
theorem hasI_iff (B : List Int) (n : Nat) (v : Int) : hasI B n v = true ↔ ∃ j, j < n ∧ gw B j = v := by
  unfold hasI
  simp

set_option maxHeartbeats 400000 in
set_option maxRecDepth 100000 in
theorem IndexI_any (B : List Int) (n b o c : Nat) (v : Int) (hn : n ≤ 9223372036854775807) (w : World) (hc : ∀ j, j < n → w.cell? ⟨b, o + j, none⟩ = some (.int .i64 (gw B j))) :
    Calls Tryd.prog 101 #[.slice (some ⟨b, o, none⟩) n c, .int .i64 v] w fun e w' => ∃ k : Int, e = .returned (.int .i64 k) ∧ decide (0 ≤ k) = hasI B n v ∧ w = w' := by
  have key : ∀ (k : Nat), k < n → gw B k = v → decide (0 ≤ (k : Int)) = hasI B n v := fun k hk e => by
    rw [(hasI_iff B n v).2 ⟨k, hk, e⟩]; simp
  have key0 : (∀ j, j < n → gw B j ≠ v) → decide (0 ≤ (-1 : Int)) = hasI B n v := fun h => by
      cases e : hasI B n v with
      | false => rfl
      | true => obtain ⟨j, hj, ej⟩ := (hasI_iff B n v).1 e; exact absurd ej (h j hj)
  have Key := Lib.hid key
  have Key0 := Lib.hid key0
  have Hc := Lib.hid hc
  clear hc key key0
  go_enter Tryd.func101, Tryd.ntmps101
  go_wp2
  go_loop [8] (fun i => ∃ k : Nat, k ≤ n ∧ i = .int .i64 k ∧ ∀ j, j < k → gw B j ≠ v) (fun i => n - (intOf i).toNat)
  case atStart => exact ⟨0, Nat.zero_le _, rfl, fun j hj => absurd hj (Nat.not_lt_zero _)⟩
  case round =>
    obtain ⟨k, hk, rfl, hne⟩ := hrel
    have Hne := Lib.hid hne
    clear hne
    by_cases hlt : k < n
    · have c0 := Hc.out k hlt
      have hbw : b < w.heap.size := World.block_lt_of_cell? w _ c0
      by_cases hv : gw B k = v
      · have hb : (v == gw B k) = true := by rw [beq_iff_eq]; exact hv.symm
        have HV := Lib.hid hv
        clear hv
        go_wp2
        go_ret
        exact ⟨_, rfl, Key.out k hlt HV.out, rfl⟩
      · have hb : (v == gw B k) = false := by rw [beq_eq_false_iff_ne]; exact fun h => hv h.symm
        have HV := Lib.hid hv
        clear hv
        go_wp2
        go_round
        case rel => exact ⟨k + 1, by omega, by go_num, fun j hj => by
          by_cases e : j = k
          · subst e; exact HV.out
          · exact Hne.out j (by omega)⟩
        case measure => simp [intOf]; omega
    · obtain rfl : k = n := by omega
      go_wp2
      go_ret
      exact ⟨_, rfl, Key0.out Hne.out, rfl⟩

set_option maxHeartbeats 400000 in
theorem ContainsI_any (B : List Int) (n b o c : Nat) (v : Int) (hn : n ≤ 9223372036854775807) (w : World) (hc : ∀ j, j < n → w.cell? ⟨b, o + j, none⟩ = some (.int .i64 (gw B j))) :
    Calls Tryd.prog 41 #[.slice (some ⟨b, o, none⟩) n c, .int .i64 v] w fun e w' => e = .returned (.bool (hasI B n v)) ∧ w = w' := by
  go_enter Tryd.func41, Tryd.ntmps41
  go_wp2_with (go_at_call 101; refine (IndexI_any B n b o c v hn _ hc).mono ?_; rintro e w' ⟨k, rfl, hk, rfl⟩)
  go_ret
  exact ⟨by rw [← hk]; rfl, rfl⟩
theorem sizeInt (w : World) : (Go.sizeOf 3).run Tryd.prog w = .ok 1 w := by
  have h : (Tryd.prog.info? 3).map (fun i => i.size) = some 1 := by kernel_rfl
  obtain ⟨i, h1, h2⟩ := Option.map_eq_some_iff.1 h
  simp [sizeOf, typeInfo, h1, h2]
theorem slice_headI (g o n cap h : Nat) (hh : h ≤ cap) (hc : 0 < cap) (W : World) :
    (Instr.slice 29 (.slice (some ⟨g, o, none⟩) n cap) none (some (.int .i64 (h : Int))) none).run Tryd.prog W = .ok (.slice (some ⟨g, o, none⟩) h cap) W := by
  have ht' : Tryd.prog.underlying 29 = some (.slice (Tryd.prog.elem 29)) := by simp [Program.elem, Tryd.underlying29]
  have he : Tryd.prog.elem 29 = 3 := by simp [Program.elem, Tryd.underlying29]
  rw [run_slice_h W 29 _ _ _ ht' .i64 _ (by omega) (by omega), he, sizeInt]
  have hne : ¬ cap = 0 := by omega
  simp [Result.andThen, sliced, Addr.add, hne]

theorem flips_flaws {F B : List Int} (sF : Snd F) (k : Nat) (h : PlacesOk B k) (hk : k ≤ 3) : decide (0 < (flawsL (flipTo F B k)).length) = decide (0 < k) := by
  obtain ⟨f, n⟩ := flipTo_fr sF.fr sF.narrow k h
  have hw := wideB_false.2 n
  rcases Nat.eq_zero_or_pos k with rfl | h0
  · have sb : soundB F = true := by
      rw [soundB_true]
      unfold syncOk sumOk chkOk hiOk loOk
      rw [sF.sync.symm, sF.sum, sF.hi, sF.lo]
      simp
      exact (parOk_true F 63).2 sF.odd
    have e : flawsL (flipTo F B 0) = [] := (flawsL_none hw).2 sb
    rw [e]; rfl
  · have e := flips_noticed sF k h hk h0
    have : flawsL (flipTo F B k) ≠ [] := fun h' => by rw [(flawsL_none hw).1 h'] at e; cases e
    rw [decide_eq_true h0, decide_eq_true (List.length_pos_iff.2 this)]
theorem Flaws_len (G : List Int) (hG : Fr G) (w : World) (hT : Tab w) :
    Calls Tryd.prog 30 #[.agg (fc G)] w fun e w' => ∃ A c x, e = .returned (.slice A (flawsL G).length c) ∧ w' = gx w x :=
  (Flaws_any G hG w hT).mono fun e w' ⟨v, x, he, hx, hO⟩ => by
    obtain ⟨A, c, rfl, -⟩ := hO.is
    exact ⟨A, c, x, he, hx⟩
theorem New_held2 (number : Int) (D : List Int) (A : Option Addr) (c : Nat) (w : World) (hT : Tab w) (h : Held D A w) : Calls Tryd.prog 23 #[.int .i64 number, .slice A D.length c] w fun e w' => e = .returned (.tuple #[.agg (fc (newF zeroF number D)), .int .i64 (newE number D)]) ∧ ∃ x, w' = gx w x :=
  New_any number D A c w hT (by unfold Held at h; exact h)

set_option maxHeartbeats 600000 in
set_option maxRecDepth 100000 in
theorem flips_bad (number : Int) (D : List Int) (A : Option Addr) (c : Nat) (A2 : Option Addr) (n c2 : Nat) (hn : n ≤ 9223372036854775807) (w : World) (hT : Tab w) (hH : Held D A w) (hE : newE number D ≠ 0 ∨ 3 < n) :
    Calls Tryd.prog 7 #[.int .i64 number, .slice A D.length c, .slice A2 n c2] w fun e w' => e = .returned (.bool true) ∧ ∃ x, w' = gx w x := by
  have hN := fun w hT h => New_held2 number D A c w hT h
  have hl : (newF zeroF number D).length = 64 := newF_len number D
  have hcase : (newE number D != 0) = true ∨ ((newE number D != 0) = false ∧ 3 < n) := by
    by_cases h : newE number D = 0
    · exact .inr ⟨by rw [h]; rfl, hE.resolve_left (fun h' => h' h)⟩
    · exact .inl (by rw [bne_iff_ne]; exact h)
  generalize newE number D = E at *
  generalize newF zeroF number D = F at *
  generalize D.length = m at *
  have HN := Lib.hid hN
  clear hN hE
  rcases hcase with e1 | ⟨e1, h3⟩
  · go_enter Tryd.func7, Tryd.ntmps7
    go_wp2_with (first | (refine load_fr rfl _ rfl _ rfl ?_ ?_ ?_ ?_; rotate_left; (focus (repeat (first | (with_reducible assumption) | (with_reducible exact At.new _ _) | (with_reducible refine At.row ?_) | (with_reducible refine At.app ?_) | (with_reducible refine At.tick ?_) | (with_reducible refine At.gx ?_) | ((with_reducible refine At.new' ?_); focus (simp; done)) | (with_reducible refine At.alloc ?_) | (with_reducible refine At.drew ?_) | (with_reducible exact Is.new _ _ _) | (with_reducible refine Is.row ?_) | (with_reducible refine Is.gx ?_) | ((with_reducible refine Is.new' ?_); focus (simp; done)) | (with_reducible refine Is.alloc ?_) | (with_reducible refine Is.drew ?_)))); (focus (with_reducible (first | exact hl | exact hl1 | exact hl2 | exact hl3 | exact hl4 | exact zeroF_len)))) | (refine store_fr rfl _ _ rfl _ rfl _ rfl ?_ ?_ ?_ ?_ ?_; rotate_left; (focus (repeat (first | (with_reducible assumption) | (with_reducible exact At.new _ _) | (with_reducible refine At.row ?_) | (with_reducible refine At.app ?_) | (with_reducible refine At.tick ?_) | (with_reducible refine At.gx ?_) | ((with_reducible refine At.new' ?_); focus (simp; done)) | (with_reducible refine At.alloc ?_) | (with_reducible refine At.drew ?_) | (with_reducible exact Is.new _ _ _) | (with_reducible refine Is.row ?_) | (with_reducible refine Is.gx ?_) | ((with_reducible refine Is.new' ?_); focus (simp; done)) | (with_reducible refine Is.alloc ?_) | (with_reducible refine Is.drew ?_)))); (focus (with_reducible (first | exact hl | exact hl1 | exact hl2 | exact hl3 | exact hl4 | exact zeroF_len))); (focus (with_reducible (first | exact hl | exact hl1 | exact hl2 | exact hl3 | exact hl4 | exact zeroF_len)))) | (go_at_call 23; refine (HN.out _ ?_ ?_).mono ?_; (focus (repeat (first | (with_reducible exact hT) | (with_reducible assumption) | (with_reducible refine Tab.gx ?_ _) | (with_reducible refine Tab.alloc ?_ _)))); (focus (repeat (first | (with_reducible exact hH) | (with_reducible refine Held.gx ?_) | (with_reducible refine Held.alloc ?_)))); rintro e w' ⟨rfl, z, rfl⟩) | (go_at_call 22; refine (framed_any _ ?_).mono ?_; (focus (repeat (first | (with_reducible exact hT) | (with_reducible assumption) | (with_reducible refine Tab.gx ?_ _) | (with_reducible refine Tab.alloc ?_ _)))); rintro e w' ⟨rfl, z, rfl⟩))
    go_ret
    exact ⟨rfl, (by repeat (first | (with_reducible exact Gx.refl _) | (with_reducible assumption) | (with_reducible refine Gx.gx ?_) | (with_reducible refine Gx.alloc ?_) | (with_reducible refine Gx.drew ?_) | (with_reducible refine Gx.drewN ?_) | (with_reducible refine Gx.setRow ?_ (by simp)) | (with_reducible refine Gx.setCell ?_ (by simp))))⟩
  · go_enter Tryd.func7, Tryd.ntmps7
    go_wp2_with (first | (refine load_fr rfl _ rfl _ rfl ?_ ?_ ?_ ?_; rotate_left; (focus (repeat (first | (with_reducible assumption) | (with_reducible exact At.new _ _) | (with_reducible refine At.row ?_) | (with_reducible refine At.app ?_) | (with_reducible refine At.tick ?_) | (with_reducible refine At.gx ?_) | ((with_reducible refine At.new' ?_); focus (simp; done)) | (with_reducible refine At.alloc ?_) | (with_reducible refine At.drew ?_) | (with_reducible exact Is.new _ _ _) | (with_reducible refine Is.row ?_) | (with_reducible refine Is.gx ?_) | ((with_reducible refine Is.new' ?_); focus (simp; done)) | (with_reducible refine Is.alloc ?_) | (with_reducible refine Is.drew ?_)))); (focus (with_reducible (first | exact hl | exact hl1 | exact hl2 | exact hl3 | exact hl4 | exact zeroF_len)))) | (refine store_fr rfl _ _ rfl _ rfl _ rfl ?_ ?_ ?_ ?_ ?_; rotate_left; (focus (repeat (first | (with_reducible assumption) | (with_reducible exact At.new _ _) | (with_reducible refine At.row ?_) | (with_reducible refine At.app ?_) | (with_reducible refine At.tick ?_) | (with_reducible refine At.gx ?_) | ((with_reducible refine At.new' ?_); focus (simp; done)) | (with_reducible refine At.alloc ?_) | (with_reducible refine At.drew ?_) | (with_reducible exact Is.new _ _ _) | (with_reducible refine Is.row ?_) | (with_reducible refine Is.gx ?_) | ((with_reducible refine Is.new' ?_); focus (simp; done)) | (with_reducible refine Is.alloc ?_) | (with_reducible refine Is.drew ?_)))); (focus (with_reducible (first | exact hl | exact hl1 | exact hl2 | exact hl3 | exact hl4 | exact zeroF_len))); (focus (with_reducible (first | exact hl | exact hl1 | exact hl2 | exact hl3 | exact hl4 | exact zeroF_len)))) | (go_at_call 23; refine (HN.out _ ?_ ?_).mono ?_; (focus (repeat (first | (with_reducible exact hT) | (with_reducible assumption) | (with_reducible refine Tab.gx ?_ _) | (with_reducible refine Tab.alloc ?_ _)))); (focus (repeat (first | (with_reducible exact hH) | (with_reducible refine Held.gx ?_) | (with_reducible refine Held.alloc ?_)))); rintro e w' ⟨rfl, z, rfl⟩) | (go_at_call 22; refine (framed_any _ ?_).mono ?_; (focus (repeat (first | (with_reducible exact hT) | (with_reducible assumption) | (with_reducible refine Tab.gx ?_ _) | (with_reducible refine Tab.alloc ?_ _)))); rintro e w' ⟨rfl, z, rfl⟩))
    go_ret
    exact ⟨rfl, (by repeat (first | (with_reducible exact Gx.refl _) | (with_reducible assumption) | (with_reducible refine Gx.gx ?_) | (with_reducible refine Gx.alloc ?_) | (with_reducible refine Gx.drew ?_) | (with_reducible refine Gx.drewN ?_) | (with_reducible refine Gx.setRow ?_ (by simp)) | (with_reducible refine Gx.setCell ?_ (by simp))))⟩

set_option maxHeartbeats 2000000 in
set_option maxRecDepth 100000 in
theorem flips_good (number : Int) (D F : List Int) (hF : newF zeroF number D = F) (sF : Snd F) (A : Option Addr) (c : Nat) (B : List Int) (b o n c2 : Nat) (hB : B.length = n) (h3 : n ≤ 3) (h0 : 0 < n) (hnc : n ≤ c2) (w : World) (hT : Tab w) (hH : Held D A w) (hE : newE number D = 0)
    (hc : ∀ j, j < n → w.cell? ⟨b, o + j, none⟩ = some (.int .i64 (gw B j))) :
    Calls Tryd.prog 7 #[.int .i64 number, .slice A D.length c, .slice (some ⟨b, o, none⟩) n c2] w fun e w' => e = .returned (.bool true) ∧ ∃ x, w' = gx w x := by
  have hN := fun w hT h => New_held2 number D A c w hT h
  have hl : F.length = 64 := sF.fr.len
  have hi : ∀ (k : Nat) (W : World), k ≤ c2 → (Instr.slice 29 (.slice (some ⟨b, o, none⟩) n c2) none (some (.int .i64 (k : Int))) none).run Tryd.prog W = .ok (.slice (some ⟨b, o, none⟩) k c2) W := fun k W hk => slice_headI b o n c2 k hk (by omega) W
  rw [hE, hF] at hN
  generalize D.length = m at *
  have HN := Lib.hid hN
  have HI := Lib.hid hi
  have HC := Lib.hid hc
  have d3 : decide (3 < (n : Int)) = false := decide_eq_false (by omega)
  have hbw : b < w.heap.size := World.block_lt_of_cell? w _ (hc 0 h0)
  clear hN hE hF hi hc
  go_enter Tryd.func7, Tryd.ntmps7
  go_wp2_with (first | go_skip | (refine load_fr rfl _ rfl _ rfl ?_ ?_ ?_ ?_; rotate_left; (focus (repeat (first | (with_reducible assumption) | (with_reducible exact At.new _ _) | (with_reducible refine At.row ?_) | (with_reducible refine At.app ?_) | (with_reducible refine At.tick ?_) | (with_reducible refine At.gx ?_) | ((with_reducible refine At.new' ?_); focus (simp; done)) | (with_reducible refine At.alloc ?_) | (with_reducible refine At.drew ?_) | (with_reducible exact Is.new _ _ _) | (with_reducible refine Is.row ?_) | (with_reducible refine Is.gx ?_) | ((with_reducible refine Is.new' ?_); focus (simp; done)) | (with_reducible refine Is.alloc ?_) | (with_reducible refine Is.drew ?_)))); (focus (with_reducible (first | exact hl | exact hl1 | exact hl2 | exact hl3 | exact hl4 | exact zeroF_len)))) | (refine store_fr rfl _ _ rfl _ rfl _ rfl ?_ ?_ ?_ ?_ ?_; rotate_left; (focus (repeat (first | (with_reducible assumption) | (with_reducible exact At.new _ _) | (with_reducible refine At.row ?_) | (with_reducible refine At.app ?_) | (with_reducible refine At.tick ?_) | (with_reducible refine At.gx ?_) | ((with_reducible refine At.new' ?_); focus (simp; done)) | (with_reducible refine At.alloc ?_) | (with_reducible refine At.drew ?_) | (with_reducible exact Is.new _ _ _) | (with_reducible refine Is.row ?_) | (with_reducible refine Is.gx ?_) | ((with_reducible refine Is.new' ?_); focus (simp; done)) | (with_reducible refine Is.alloc ?_) | (with_reducible refine Is.drew ?_)))); (focus (with_reducible (first | exact hl | exact hl1 | exact hl2 | exact hl3 | exact hl4 | exact zeroF_len))); (focus (with_reducible (first | exact hl | exact hl1 | exact hl2 | exact hl3 | exact hl4 | exact zeroF_len)))) | (go_at_call 23; refine (HN.out _ ?_ ?_).mono ?_; (focus (repeat (first | (with_reducible exact hT) | (with_reducible assumption) | (with_reducible refine Tab.gx ?_ _) | (with_reducible refine Tab.alloc ?_ _)))); (focus (repeat (first | (with_reducible exact hH) | (with_reducible refine Held.gx ?_) | (with_reducible refine Held.alloc ?_)))); rintro e W1 ⟨rfl, hz⟩; have hT1 : Tab W1 := (by obtain ⟨x, rfl⟩ := hz; (focus (repeat (first | (with_reducible exact hT) | (with_reducible assumption) | (with_reducible refine Tab.gx ?_ _) | (with_reducible refine Tab.alloc ?_ _))))); have hC1 : Hid (∀ j, j < n → W1.cell? ⟨b, o + j, none⟩ = some (.int .i64 (gw B j))) := (by obtain ⟨x, rfl⟩ := hz; exact fun j hj => cell_keep_gx (HC.out j hj)); have hb1 : b < W1.heap.size := (by obtain ⟨x, rfl⟩ := hz; (simp <;> omega)))
    )
  go_loopw [29] (fun i wr => ∃ (k : Nat) (x : Ext), k ≤ n ∧ i = .int .i64 k ∧ PlacesOk B k ∧ wr = gx ((W1.alloc (.cells (fc F) 32)).alloc (.cells (fc (flipTo F B k)) 32)) x) (fun i _ => n - (intOf i).toNat)
  case atStart => exact ⟨0, _, Nat.zero_le _, rfl, ⟨fun j hj => absurd hj (Nat.not_lt_zero _), fun i j _ hj => absurd hj (Nat.not_lt_zero _)⟩, (gx_none _).symm⟩
  case round =>
    obtain ⟨k, y, hk, rfl, hp, rfl⟩ := hrel
    have hff := flipTo_fr sF.fr sF.narrow k hp
    have HP := Lib.hid hp
    have hl1 := hff.1.len
    clear hp
    by_cases hlt : k < n
    · have c0 := hC1.out k hlt
      have s0 : ∀ W : World, _ := fun W => HI.out k W (by omega)
      have hb2 : b < W1.heap.size + 1 := by omega
      have hb3 : b < W1.heap.size + 1 + 1 := by omega
      by_cases v0 : gw B k < 0
      · have v0' : decide (gw B k < 0) = true := decide_eq_true v0
        go_wp2_with (first | go_skip | (refine load_fr rfl _ rfl _ rfl ?_ ?_ ?_ ?_; rotate_left; (focus (repeat (first | (with_reducible assumption) | (with_reducible exact At.new _ _) | (with_reducible refine At.row ?_) | (with_reducible refine At.app ?_) | (with_reducible refine At.tick ?_) | (with_reducible refine At.gx ?_) | ((with_reducible refine At.new' ?_); focus (simp; done)) | (with_reducible refine At.alloc ?_) | (with_reducible refine At.drew ?_) | (with_reducible exact Is.new _ _ _) | (with_reducible refine Is.row ?_) | (with_reducible refine Is.gx ?_) | ((with_reducible refine Is.new' ?_); focus (simp; done)) | (with_reducible refine Is.alloc ?_) | (with_reducible refine Is.drew ?_)))); (focus (with_reducible (first | exact hl | exact hl1 | exact hl2 | exact hl3 | exact hl4 | exact zeroF_len)))) | (refine store_fr rfl _ _ rfl _ rfl _ rfl ?_ ?_ ?_ ?_ ?_; rotate_left; (focus (repeat (first | (with_reducible assumption) | (with_reducible exact At.new _ _) | (with_reducible refine At.row ?_) | (with_reducible refine At.app ?_) | (with_reducible refine At.tick ?_) | (with_reducible refine At.gx ?_) | ((with_reducible refine At.new' ?_); focus (simp; done)) | (with_reducible refine At.alloc ?_) | (with_reducible refine At.drew ?_) | (with_reducible exact Is.new _ _ _) | (with_reducible refine Is.row ?_) | (with_reducible refine Is.gx ?_) | ((with_reducible refine Is.new' ?_); focus (simp; done)) | (with_reducible refine Is.alloc ?_) | (with_reducible refine Is.drew ?_)))); (focus (with_reducible (first | exact hl | exact hl1 | exact hl2 | exact hl3 | exact hl4 | exact zeroF_len))); (focus (with_reducible (first | exact hl | exact hl1 | exact hl2 | exact hl3 | exact hl4 | exact zeroF_len)))) | (go_at_call 22; refine (framed_any _ ?_).mono ?_; (focus (repeat (first | (with_reducible exact hT) | (with_reducible assumption) | (with_reducible refine Tab.gx ?_ _) | (with_reducible refine Tab.alloc ?_ _)))); rintro e w' ⟨rfl, z, rfl⟩))
        go_ret
        exact ⟨rfl, Gx.gx (Gx.alloc (Gx.alloc hz))⟩
      · have v0' : decide (gw B k < 0) = false := decide_eq_false v0
        by_cases v1 : 768 ≤ gw B k
        · have v1' : decide (768 ≤ gw B k) = true := decide_eq_true v1
          go_wp2_with (first | go_skip | (refine load_fr rfl _ rfl _ rfl ?_ ?_ ?_ ?_; rotate_left; (focus (repeat (first | (with_reducible assumption) | (with_reducible exact At.new _ _) | (with_reducible refine At.row ?_) | (with_reducible refine At.app ?_) | (with_reducible refine At.tick ?_) | (with_reducible refine At.gx ?_) | ((with_reducible refine At.new' ?_); focus (simp; done)) | (with_reducible refine At.alloc ?_) | (with_reducible refine At.drew ?_) | (with_reducible exact Is.new _ _ _) | (with_reducible refine Is.row ?_) | (with_reducible refine Is.gx ?_) | ((with_reducible refine Is.new' ?_); focus (simp; done)) | (with_reducible refine Is.alloc ?_) | (with_reducible refine Is.drew ?_)))); (focus (with_reducible (first | exact hl | exact hl1 | exact hl2 | exact hl3 | exact hl4 | exact zeroF_len)))) | (refine store_fr rfl _ _ rfl _ rfl _ rfl ?_ ?_ ?_ ?_ ?_; rotate_left; (focus (repeat (first | (with_reducible assumption) | (with_reducible exact At.new _ _) | (with_reducible refine At.row ?_) | (with_reducible refine At.app ?_) | (with_reducible refine At.tick ?_) | (with_reducible refine At.gx ?_) | ((with_reducible refine At.new' ?_); focus (simp; done)) | (with_reducible refine At.alloc ?_) | (with_reducible refine At.drew ?_) | (with_reducible exact Is.new _ _ _) | (with_reducible refine Is.row ?_) | (with_reducible refine Is.gx ?_) | ((with_reducible refine Is.new' ?_); focus (simp; done)) | (with_reducible refine Is.alloc ?_) | (with_reducible refine Is.drew ?_)))); (focus (with_reducible (first | exact hl | exact hl1 | exact hl2 | exact hl3 | exact hl4 | exact zeroF_len))); (focus (with_reducible (first | exact hl | exact hl1 | exact hl2 | exact hl3 | exact hl4 | exact zeroF_len)))) | (go_at_call 22; refine (framed_any _ ?_).mono ?_; (focus (repeat (first | (with_reducible exact hT) | (with_reducible assumption) | (with_reducible refine Tab.gx ?_ _) | (with_reducible refine Tab.alloc ?_ _)))); rintro e w' ⟨rfl, z, rfl⟩))
          go_ret
          exact ⟨rfl, Gx.gx (Gx.alloc (Gx.alloc hz))⟩
        · have v1' : decide (768 ≤ gw B k) = false := decide_eq_false v1
          have hcc : ∀ j, j < k → (gx ((W1.alloc (.cells (fc F) 32)).alloc (.cells (fc (flipTo F B k)) 32)) y).cell? ⟨b, o + j, none⟩ = some (.int .i64 (gw B j)) := fun j hj => cell_keep_gx (cell_keep_alloc (cell_keep_alloc (hC1.out j (by omega))))
          have HCC := Lib.hid hcc
          clear hcc
          cases hh : hasI B k (gw B k)
          · have hnp : PlacesOk B (k + 1) := ⟨fun j hj => by
              by_cases e : j = k
              · subst e; omega
              · exact HP.out.1 j (by omega), fun i j hij hj => by
              by_cases e : j = k
              · subst e
                intro e2
                rw [(hasI_iff B j (gw B j)).2 ⟨i, hij, e2⟩] at hh
                cases hh
              · exact HP.out.2 i j hij (by omega)⟩
            have HNP := Lib.hid hnp
            have hq : (gw B k / 12).toNat < 64 := by omega
            have w0 : 0 ≤ gw (flipTo F B k) (gw B k / 12).toNat := (hff.1.bd _).1
            have w1 : gw (flipTo F B k) (gw B k / 12).toNat ≤ 65535 := (hff.1.bd _).2
            have hfl : (flipTo F B k).set (gw B k / 12).toNat (xorI (gw (flipTo F B k) (gw B k / 12).toNat) (2 ^ (gw B k % 12).toNat)) = flipTo F B (k + 1) := rfl
            have p0 : 0 ≤ gw B k := by omega
            have p1 : gw B k ≤ 767 := by omega
            have r12 : (gw B k % 12).toNat < 12 := by omega
            have p2 : (2 : Int) ^ (gw B k % 12).toNat < 2 ^ 12 := by
              have := Nat.pow_lt_pow_right (a := 2) (by decide) r12
              exact_mod_cast this
            have p3 : (0 : Int) < 2 ^ (gw B k % 12).toNat := Int.pow_pos (by decide)
            have x0 : IntKind.u16.wrap (2 ^ (gw B k % 12).toNat) = 2 ^ (gw B k % 12).toNat := wraps_u16 _ (by omega) (by omega)
            have x1 : bits .xor .u16 (gw (flipTo F B k) (gw B k / 12).toNat) (2 ^ (gw B k % 12).toNat) = xorI (gw (flipTo F B k) (gw B k / 12).toNat) (2 ^ (gw B k % 12).toNat) := bits_xor .u16 16 (by decide) wraps_u16 _ _ w0 (by omega) (by omega) (by omega)
            clear hnp v0 v1 p2 p3
            go_wp2_with (first | go_skip | (refine load_fr rfl _ rfl _ rfl ?_ ?_ ?_ ?_; rotate_left; (focus (repeat (first | (with_reducible assumption) | (with_reducible exact At.new _ _) | (with_reducible refine At.row ?_) | (with_reducible refine At.app ?_) | (with_reducible refine At.tick ?_) | (with_reducible refine At.gx ?_) | ((with_reducible refine At.new' ?_); focus (simp; done)) | (with_reducible refine At.alloc ?_) | (with_reducible refine At.drew ?_) | (with_reducible exact Is.new _ _ _) | (with_reducible refine Is.row ?_) | (with_reducible refine Is.gx ?_) | ((with_reducible refine Is.new' ?_); focus (simp; done)) | (with_reducible refine Is.alloc ?_) | (with_reducible refine Is.drew ?_)))); (focus (with_reducible (first | exact hl | exact hl1 | exact hl2 | exact hl3 | exact hl4 | exact zeroF_len)))) | (refine store_fr rfl _ _ rfl _ rfl _ rfl ?_ ?_ ?_ ?_ ?_; rotate_left; (focus (repeat (first | (with_reducible assumption) | (with_reducible exact At.new _ _) | (with_reducible refine At.row ?_) | (with_reducible refine At.app ?_) | (with_reducible refine At.tick ?_) | (with_reducible refine At.gx ?_) | ((with_reducible refine At.new' ?_); focus (simp; done)) | (with_reducible refine At.alloc ?_) | (with_reducible refine At.drew ?_) | (with_reducible exact Is.new _ _ _) | (with_reducible refine Is.row ?_) | (with_reducible refine Is.gx ?_) | ((with_reducible refine Is.new' ?_); focus (simp; done)) | (with_reducible refine Is.alloc ?_) | (with_reducible refine Is.drew ?_)))); (focus (with_reducible (first | exact hl | exact hl1 | exact hl2 | exact hl3 | exact hl4 | exact zeroF_len))); (focus (with_reducible (first | exact hl | exact hl1 | exact hl2 | exact hl3 | exact hl4 | exact zeroF_len)))) | (go_at_call 41; refine (ContainsI_any B k b o c2 _ (by omega) _ HCC.out).mono ?_; rintro e w' ⟨rfl, rfl⟩))
            first | (with_reducible refine region_gx_tail 9 (by kernel_rfl) (by kernel_rfl) ?_) | (with_reducible refine region_w_tail 9 (by kernel_rfl) (by kernel_rfl) ?_)
            simp only [List.take_succ_cons, List.take_zero, List.drop_succ_cons, List.drop_zero]
            repeat (any_goals (first | (refine quiet_fr rfl _ rfl _ rfl ?_ ?_ ?_ ?_; rotate_left; (focus (rintro _ ⟨x, rfl⟩; (focus (repeat (first | (with_reducible assumption) | (with_reducible exact At.new _ _) | (with_reducible refine At.row ?_) | (with_reducible refine At.app ?_) | (with_reducible refine At.tick ?_) | (with_reducible refine At.gx ?_) | ((with_reducible refine At.new' ?_); focus (simp; done)) | (with_reducible refine At.alloc ?_) | (with_reducible refine At.drew ?_) | (with_reducible exact Is.new _ _ _) | (with_reducible refine Is.row ?_) | (with_reducible refine Is.gx ?_) | ((with_reducible refine Is.new' ?_); focus (simp; done)) | (with_reducible refine Is.alloc ?_) | (with_reducible refine Is.drew ?_)))))); (focus (with_reducible (first | exact hl | exact hl1 | exact hl2 | exact hl3 | exact hl4 | exact zeroF_len)))) | go_big_quiet_step ((first | fail)) | quiet_step ((first | fail))))
            refine wpQuiet_nil ?_
            rintro _ ⟨x, rfl⟩
            go_wp2
            go_roundw
            case rel => exact ⟨k + 1, _, by omega, by go_num, HNP.out, rfl⟩
            case measure => simp [intOf]; omega
          · go_wp2_with (first | go_skip | (refine load_fr rfl _ rfl _ rfl ?_ ?_ ?_ ?_; rotate_left; (focus (repeat (first | (with_reducible assumption) | (with_reducible exact At.new _ _) | (with_reducible refine At.row ?_) | (with_reducible refine At.app ?_) | (with_reducible refine At.tick ?_) | (with_reducible refine At.gx ?_) | ((with_reducible refine At.new' ?_); focus (simp; done)) | (with_reducible refine At.alloc ?_) | (with_reducible refine At.drew ?_) | (with_reducible exact Is.new _ _ _) | (with_reducible refine Is.row ?_) | (with_reducible refine Is.gx ?_) | ((with_reducible refine Is.new' ?_); focus (simp; done)) | (with_reducible refine Is.alloc ?_) | (with_reducible refine Is.drew ?_)))); (focus (with_reducible (first | exact hl | exact hl1 | exact hl2 | exact hl3 | exact hl4 | exact zeroF_len)))) | (refine store_fr rfl _ _ rfl _ rfl _ rfl ?_ ?_ ?_ ?_ ?_; rotate_left; (focus (repeat (first | (with_reducible assumption) | (with_reducible exact At.new _ _) | (with_reducible refine At.row ?_) | (with_reducible refine At.app ?_) | (with_reducible refine At.tick ?_) | (with_reducible refine At.gx ?_) | ((with_reducible refine At.new' ?_); focus (simp; done)) | (with_reducible refine At.alloc ?_) | (with_reducible refine At.drew ?_) | (with_reducible exact Is.new _ _ _) | (with_reducible refine Is.row ?_) | (with_reducible refine Is.gx ?_) | ((with_reducible refine Is.new' ?_); focus (simp; done)) | (with_reducible refine Is.alloc ?_) | (with_reducible refine Is.drew ?_)))); (focus (with_reducible (first | exact hl | exact hl1 | exact hl2 | exact hl3 | exact hl4 | exact zeroF_len))); (focus (with_reducible (first | exact hl | exact hl1 | exact hl2 | exact hl3 | exact hl4 | exact zeroF_len)))) | (go_at_call 41; refine (ContainsI_any B k b o c2 _ (by omega) _ HCC.out).mono ?_; rintro e w' ⟨rfl, rfl⟩) | (go_at_call 22; refine (framed_any _ ?_).mono ?_; (focus (repeat (first | (with_reducible exact hT) | (with_reducible assumption) | (with_reducible refine Tab.gx ?_ _) | (with_reducible refine Tab.alloc ?_ _)))); rintro e w' ⟨rfl, z, rfl⟩))
            go_ret
            exact ⟨rfl, Gx.gx (Gx.alloc (Gx.alloc hz))⟩
    · obtain rfl : k = n := by omega
      have hd : distI F (flipTo F B k) = k := flip_dist sF.fr sF.narrow k HP.out
      have hfl := flips_flaws sF k HP.out h3
      rw [decide_eq_true h0, decide_eq_true_eq] at hfl
      have g0 := hff.1
      have g1 := sF.fr
      clear hff HP
      generalize flipTo F B k = G at *
      go_wp2_with (first | go_skip | (refine load_fr rfl _ rfl _ rfl ?_ ?_ ?_ ?_; rotate_left; (focus (repeat (first | (with_reducible assumption) | (with_reducible exact At.new _ _) | (with_reducible refine At.row ?_) | (with_reducible refine At.app ?_) | (with_reducible refine At.tick ?_) | (with_reducible refine At.gx ?_) | ((with_reducible refine At.new' ?_); focus (simp; done)) | (with_reducible refine At.alloc ?_) | (with_reducible refine At.drew ?_) | (with_reducible exact Is.new _ _ _) | (with_reducible refine Is.row ?_) | (with_reducible refine Is.gx ?_) | ((with_reducible refine Is.new' ?_); focus (simp; done)) | (with_reducible refine Is.alloc ?_) | (with_reducible refine Is.drew ?_)))); (focus (with_reducible (first | exact hl | exact hl1 | exact hl2 | exact hl3 | exact hl4 | exact zeroF_len)))) | (refine store_fr rfl _ _ rfl _ rfl _ rfl ?_ ?_ ?_ ?_ ?_; rotate_left; (focus (repeat (first | (with_reducible assumption) | (with_reducible exact At.new _ _) | (with_reducible refine At.row ?_) | (with_reducible refine At.app ?_) | (with_reducible refine At.tick ?_) | (with_reducible refine At.gx ?_) | ((with_reducible refine At.new' ?_); focus (simp; done)) | (with_reducible refine At.alloc ?_) | (with_reducible refine At.drew ?_) | (with_reducible exact Is.new _ _ _) | (with_reducible refine Is.row ?_) | (with_reducible refine Is.gx ?_) | ((with_reducible refine Is.new' ?_); focus (simp; done)) | (with_reducible refine Is.alloc ?_) | (with_reducible refine Is.drew ?_)))); (focus (with_reducible (first | exact hl | exact hl1 | exact hl2 | exact hl3 | exact hl4 | exact zeroF_len))); (focus (with_reducible (first | exact hl | exact hl1 | exact hl2 | exact hl3 | exact hl4 | exact zeroF_len)))) | (go_at_call 42; refine (Distance_any F G g1 g0 _).mono ?_; rintro e w' ⟨rfl, z1, rfl⟩) | (go_at_call 30; refine (Flaws_len G g0 _ ?_).mono ?_; (focus (repeat (first | (with_reducible exact hT) | (with_reducible assumption) | (with_reducible refine Tab.gx ?_ _) | (with_reducible refine Tab.alloc ?_ _)))); rintro e w' ⟨A5, c5, z5, rfl, rfl⟩) | (go_at_call 22; refine (framed_any _ ?_).mono ?_; (focus (repeat (first | (with_reducible exact hT) | (with_reducible assumption) | (with_reducible refine Tab.gx ?_ _) | (with_reducible refine Tab.alloc ?_ _)))); rintro e w' ⟨rfl, z, rfl⟩))
      go_ret
      exact ⟨rfl, Gx.gx (Gx.alloc (Gx.alloc hz))⟩

set_option maxHeartbeats 1000000 in
set_option maxRecDepth 100000 in
theorem flips_none (number : Int) (D F : List Int) (hF : newF zeroF number D = F) (sF : Snd F) (A : Option Addr) (c : Nat) (A2 : Option Addr) (c2 : Nat) (w : World) (hT : Tab w) (hH : Held D A w) (hE : newE number D = 0) :
    Calls Tryd.prog 7 #[.int .i64 number, .slice A D.length c, .slice A2 0 c2] w fun e w' => e = .returned (.bool true) ∧ ∃ x, w' = gx w x := by
  have hN := fun w hT h => New_held2 number D A c w hT h
  have hl : F.length = 64 := sF.fr.len
  have g1 := sF.fr
  have hp : PlacesOk [] 0 := ⟨fun j hj => absurd hj (Nat.not_lt_zero _), fun i j _ hj => absurd hj (Nat.not_lt_zero _)⟩
  have hd : distI F F = 0 := flip_dist sF.fr sF.narrow 0 hp
  have hfl : (flawsL F).length = 0 := by
    have := flips_flaws sF 0 hp (by decide)
    rw [decide_eq_false (Nat.lt_irrefl 0), decide_eq_false_iff_not] at this
    have e : flipTo F [] 0 = F := rfl
    rw [e] at this
    omega
  have hFl := Lib.hid hfl
  rw [hE, hF] at hN
  generalize D.length = m at *
  have HN := Lib.hid hN
  clear hN hE hF hfl hp
  go_enter Tryd.func7, Tryd.ntmps7
  go_wp2_with (first | go_skip | (refine load_fr rfl _ rfl _ rfl ?_ ?_ ?_ ?_; rotate_left; (focus (repeat (first | (with_reducible assumption) | (with_reducible exact At.new _ _) | (with_reducible refine At.row ?_) | (with_reducible refine At.app ?_) | (with_reducible refine At.tick ?_) | (with_reducible refine At.gx ?_) | ((with_reducible refine At.new' ?_); focus (simp; done)) | (with_reducible refine At.alloc ?_) | (with_reducible refine At.drew ?_) | (with_reducible exact Is.new _ _ _) | (with_reducible refine Is.row ?_) | (with_reducible refine Is.gx ?_) | ((with_reducible refine Is.new' ?_); focus (simp; done)) | (with_reducible refine Is.alloc ?_) | (with_reducible refine Is.drew ?_)))); (focus (with_reducible (first | exact hl | exact hl1 | exact hl2 | exact hl3 | exact hl4 | exact zeroF_len)))) | (refine store_fr rfl _ _ rfl _ rfl _ rfl ?_ ?_ ?_ ?_ ?_; rotate_left; (focus (repeat (first | (with_reducible assumption) | (with_reducible exact At.new _ _) | (with_reducible refine At.row ?_) | (with_reducible refine At.app ?_) | (with_reducible refine At.tick ?_) | (with_reducible refine At.gx ?_) | ((with_reducible refine At.new' ?_); focus (simp; done)) | (with_reducible refine At.alloc ?_) | (with_reducible refine At.drew ?_) | (with_reducible exact Is.new _ _ _) | (with_reducible refine Is.row ?_) | (with_reducible refine Is.gx ?_) | ((with_reducible refine Is.new' ?_); focus (simp; done)) | (with_reducible refine Is.alloc ?_) | (with_reducible refine Is.drew ?_)))); (focus (with_reducible (first | exact hl | exact hl1 | exact hl2 | exact hl3 | exact hl4 | exact zeroF_len))); (focus (with_reducible (first | exact hl | exact hl1 | exact hl2 | exact hl3 | exact hl4 | exact zeroF_len)))) | (go_at_call 23; refine (HN.out _ ?_ ?_).mono ?_; (focus (repeat (first | (with_reducible exact hT) | (with_reducible assumption) | (with_reducible refine Tab.gx ?_ _) | (with_reducible refine Tab.alloc ?_ _)))); (focus (repeat (first | (with_reducible exact hH) | (with_reducible refine Held.gx ?_) | (with_reducible refine Held.alloc ?_)))); rintro e w' ⟨rfl, z, rfl⟩))
  go_loopw [29] (fun i wr => i = .int .i64 0 ∧ wr = ((gx w z).alloc (.cells (fc F) 32)).alloc (.cells (fc F) 32)) (fun i _ => (intOf i).toNat)
  case atStart => exact ⟨rfl, rfl⟩
  case round =>
    obtain ⟨rfl, rfl⟩ := hrel
    go_wp2_with (first | go_skip | (refine load_fr rfl _ rfl _ rfl ?_ ?_ ?_ ?_; rotate_left; (focus (repeat (first | (with_reducible assumption) | (with_reducible exact At.new _ _) | (with_reducible refine At.row ?_) | (with_reducible refine At.app ?_) | (with_reducible refine At.tick ?_) | (with_reducible refine At.gx ?_) | ((with_reducible refine At.new' ?_); focus (simp; done)) | (with_reducible refine At.alloc ?_) | (with_reducible refine At.drew ?_) | (with_reducible exact Is.new _ _ _) | (with_reducible refine Is.row ?_) | (with_reducible refine Is.gx ?_) | ((with_reducible refine Is.new' ?_); focus (simp; done)) | (with_reducible refine Is.alloc ?_) | (with_reducible refine Is.drew ?_)))); (focus (with_reducible (first | exact hl | exact hl1 | exact hl2 | exact hl3 | exact hl4 | exact zeroF_len)))) | (refine store_fr rfl _ _ rfl _ rfl _ rfl ?_ ?_ ?_ ?_ ?_; rotate_left; (focus (repeat (first | (with_reducible assumption) | (with_reducible exact At.new _ _) | (with_reducible refine At.row ?_) | (with_reducible refine At.app ?_) | (with_reducible refine At.tick ?_) | (with_reducible refine At.gx ?_) | ((with_reducible refine At.new' ?_); focus (simp; done)) | (with_reducible refine At.alloc ?_) | (with_reducible refine At.drew ?_) | (with_reducible exact Is.new _ _ _) | (with_reducible refine Is.row ?_) | (with_reducible refine Is.gx ?_) | ((with_reducible refine Is.new' ?_); focus (simp; done)) | (with_reducible refine Is.alloc ?_) | (with_reducible refine Is.drew ?_)))); (focus (with_reducible (first | exact hl | exact hl1 | exact hl2 | exact hl3 | exact hl4 | exact zeroF_len))); (focus (with_reducible (first | exact hl | exact hl1 | exact hl2 | exact hl3 | exact hl4 | exact zeroF_len)))) | (go_at_call 42; refine (Distance_any F F g1 g1 _).mono ?_; rintro e w' ⟨rfl, z1, rfl⟩) | (go_at_call 30; refine (Flaws_len F g1 _ ?_).mono ?_; (focus (repeat (first | (with_reducible exact hT) | (with_reducible assumption) | (with_reducible refine Tab.gx ?_ _) | (with_reducible refine Tab.alloc ?_ _)))); rw [hFl.out]; rintro e w' ⟨A5, c5, z5, rfl, rfl⟩) | (go_at_call 22; refine (framed_any _ ?_).mono ?_; (focus (repeat (first | (with_reducible exact hT) | (with_reducible assumption) | (with_reducible refine Tab.gx ?_ _) | (with_reducible refine Tab.alloc ?_ _)))); rintro e w' ⟨rfl, z, rfl⟩))
    go_ret
    exact ⟨rfl, (by repeat (first | (with_reducible exact Gx.refl _) | (with_reducible assumption) | (with_reducible refine Gx.gx ?_) | (with_reducible refine Gx.alloc ?_) | (with_reducible refine Gx.drew ?_) | (with_reducible refine Gx.drewN ?_) | (with_reducible refine Gx.setRow ?_ (by simp)) | (with_reducible refine Gx.setCell ?_ (by simp))))⟩

theorem flipsLaw (number : Int) (D : List Int) (A : Option Addr) (c : Nat) (B : List Int) (A2 : Option Addr) (c2 : Nat) (hnc : B.length ≤ c2) (hcm : c2 ≤ maxLen) (w : World) (hT : Tab w) (hH : Held D A w)
    (hc : 0 < B.length → ∃ b o, A2 = some ⟨b, o, none⟩ ∧ ∀ j, j < B.length → w.cell? ⟨b, o + j, none⟩ = some (.int .i64 (gw B j))) :
    Calls Tryd.prog 7 #[.int .i64 number, .slice A D.length c, .slice A2 B.length c2] w fun e w' => e = .returned (.bool true) ∧ ∃ x, w' = gx w x := by
  simp only [maxLen] at hcm
  by_cases hE : newE number D = 0
  · by_cases h3 : B.length ≤ 3
    · rcases Nat.eq_zero_or_pos B.length with h0 | h0
      · rw [h0]
        exact flips_none number D _ rfl (snd_of (made_of hE).1.fr (made_of hE).1.narrow (made_of hE).1.sound) A c A2 c2 w hT hH hE
      · obtain ⟨b, o, rfl, hcc⟩ := hc h0
        exact flips_good number D _ rfl (snd_of (made_of hE).1.fr (made_of hE).1.narrow (made_of hE).1.sound) A c B b o B.length c2 rfl h3 h0 hnc w hT hH hE hcc
    · exact flips_bad number D A c A2 B.length c2 (by omega) w hT hH (.inr (by omega))
  · exact flips_bad number D A c A2 B.length c2 (by omega) w hT hH (.inl hE)
end Go.Proofs.YtemgjiajpgepiaaDoor
