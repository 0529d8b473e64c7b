/-
  Medians, as mathematics.
-/
import Derived.Test.YtmpokfbliacmoaaDoorSPureS
namespace Go.Proofs.YtmpokfbliacmoaaDoor

/-- Numbers in order. -/
def ins (x : Int) : List Int → List Int
  | [] => [x]
  | y :: l => if x < y then x :: y :: l else y :: ins x l
def srt : List Int → List Int
  | [] => []
  | x :: l => ins x (srt l)
theorem ins_perm (x : Int) : ∀ l, (ins x l).Perm (x :: l)
  | [] => List.Perm.refl _
  | y :: l => by
    show (if x < y then x :: y :: l else y :: ins x l).Perm _
    split
    · exact List.Perm.refl _
    · exact ((ins_perm x l).cons y).trans (List.Perm.swap x y l)
theorem ins_sorted (x : Int) : ∀ {l : List Int}, l.Pairwise (· ≤ ·) → (ins x l).Pairwise (· ≤ ·)
  | [], _ => List.pairwise_singleton _ _
  | y :: l, h => by
    obtain ⟨h1, h2⟩ := List.pairwise_cons.1 h
    show (if x < y then x :: y :: l else y :: ins x l).Pairwise (· ≤ ·)
    split
    · rename_i hlt
      refine List.pairwise_cons.2 ⟨fun z hz => ?_, h⟩
      rcases List.mem_cons.1 hz with e | e
      · subst e; omega
      · have := h1 z e; omega
    · rename_i hge
      refine List.pairwise_cons.2 ⟨fun z hz => ?_, ins_sorted x h2⟩
      rcases List.mem_cons.1 ((ins_perm x l).mem_iff.1 hz) with e | e
      · subst e; omega
      · exact h1 z e
theorem srt_perm : ∀ l : List Int, (srt l).Perm l
  | [] => List.Perm.refl _
  | x :: l => (ins_perm x (srt l)).trans ((srt_perm l).cons x)
theorem srt_sorted : ∀ l : List Int, (srt l).Pairwise (· ≤ ·)
  | [] => List.Pairwise.nil
  | x :: l => ins_sorted x (srt_sorted l)
theorem srt_len (l : List Int) : (srt l).length = l.length := (srt_perm l).length_eq
/-- There is one list of some numbers in order. -/
theorem sorted_uniq : ∀ {l r : List Int}, l.Perm r → l.Pairwise (· ≤ ·) → r.Pairwise (· ≤ ·) → l = r
  | [], r, hp, _, _ => by rw [List.nil_perm.1 hp]
  | x :: l, r, hp, hl, hr => by
    obtain ⟨h1, h2⟩ := List.pairwise_cons.1 hl
    cases r with
    | nil => exact absurd hp.length_eq (by simp)
    | cons y r =>
      obtain ⟨h3, h4⟩ := List.pairwise_cons.1 hr
      have hxy : x = y := by
        have a : x ∈ y :: r := hp.mem_iff.1 (List.mem_cons_self ..)
        have b : y ∈ x :: l := hp.mem_iff.2 (List.mem_cons_self ..)
        rcases List.mem_cons.1 a with e | e
        · exact e
        · rcases List.mem_cons.1 b with e' | e'
          · exact e'.symm
          · have := h1 y e'; have := h3 x e; omega
      subst hxy
      rw [sorted_uniq (List.Perm.cons_inv hp) h2 h4]
theorem srt_uniq {l r : List Int} (hp : r.Perm l) (hr : r.Pairwise (· ≤ ·)) : r = srt l := sorted_uniq (hp.trans (srt_perm l).symm) hr (srt_sorted l)
theorem srt_in {l : List Int} {k : Nat} (hk : k < l.length) : (srt l).getD k 0 ∈ l := by
  have h : k < (srt l).length := by rw [srt_len]; exact hk
  rw [List.getD, List.getElem?_eq_getElem h]
  exact (srt_perm l).mem_iff.1 (List.getElem_mem h)
/-- The numbers near the i-th of the solid samples L, and the one in their middle. -/
def nearA (h i : Nat) : Nat := i - h
def nearB (len h i : Nat) : Nat := min len (i + h + 1)
def nearL (g : Nat → Sm) (L : List Nat) (h i : Nat) : List Int := (List.range (nearB L.length h i - nearA h i)).map fun k => (g (L.getD (nearA h i + k) 0)).n
theorem nearL_len (g : Nat → Sm) (L : List Nat) (h i : Nat) : (nearL g L h i).length = nearB L.length h i - nearA h i := by unfold nearL; simp
theorem near_some {L : List Nat} {h i : Nat} (hi : i < L.length) : nearA h i ≤ i ∧ i < nearB L.length h i ∧ nearB L.length h i ≤ L.length := by unfold nearA nearB; omega
def midN (g : Nat → Sm) (L : List Nat) (h i : Nat) : Int := (srt (nearL g L h i)).getD ((nearB L.length h i - nearA h i - 1) / 2) 0
theorem midN_in {g : Nat → Sm} {L : List Nat} {h i : Nat} (hi : i < L.length) : ∃ k, k < L.length ∧ midN g L h i = (g (L.getD k 0)).n := by
  obtain ⟨h1, h2, h3⟩ := near_some (h := h) hi
  have hm : midN g L h i ∈ nearL g L h i := srt_in (by rw [nearL_len]; omega)
  unfold nearL at hm
  obtain ⟨k, hk, e⟩ := List.mem_map.1 hm
  rw [List.mem_range] at hk
  exact ⟨nearA h i + k, by omega, e.symm⟩
/-- The first k of the solid samples have the numbers in the middle. -/
def medF (g : Nat → Sm) (L : List Nat) (h : Nat) : Nat → Nat → Sm
  | 0 => g
  | k + 1 => fun i => if i = L.getD k 0 then ⟨(medF g L h k i).t, midN g L h k, (medF g L h k i).m⟩ else medF g L h k i
theorem medF_succ (g : Nat → Sm) (L : List Nat) (h k : Nat) : medF g L h (k + 1) = fun i => if i = L.getD k 0 then ⟨(medF g L h k i).t, midN g L h k, (medF g L h k i).m⟩ else medF g L h k i := rfl
theorem medF_tm (g : Nat → Sm) (L : List Nat) (h : Nat) : ∀ k i, (medF g L h k i).t = (g i).t ∧ (medF g L h k i).m = (g i).m
  | 0, i => ⟨rfl, rfl⟩
  | k + 1, i => by
    obtain ⟨h1, h2⟩ := medF_tm g L h k i
    rw [medF_succ]
    dsimp only
    split
    · exact ⟨h1, h2⟩
    · exact ⟨h1, h2⟩
theorem medF_n (g : Nat → Sm) (L : List Nat) (h : Nat) : ∀ k i, k ≤ L.length → (medF g L h k i).n = (g i).n ∨ ∃ j, j < L.length ∧ (medF g L h k i).n = (g (L.getD j 0)).n
  | 0, i, _ => .inl rfl
  | k + 1, i, hk => by
    rw [medF_succ]
    dsimp only
    split
    · obtain ⟨j, h1, h2⟩ := midN_in (g := g) (h := h) (i := k) (L := L) (by omega)
      exact .inr ⟨j, h1, h2⟩
    · exact medF_n g L h k i (by omega)
/-- What is wrong with a series and a width. -/
def medE (den : Int) (g : Nat → Sm) (n : Nat) (wd : Int) : Int := if serE den g n ≠ 0 then serE den g n else if 1 ≤ wd ∧ wd ≤ 101 ∧ wd.tmod 2 ≠ 0 then 0 else 1
theorem medE_1 {den : Int} {g : Nat → Sm} {n : Nat} {wd : Int} (h : serE den g n ≠ 0) : medE den g n wd = serE den g n := by unfold medE; rw [if_pos h]
theorem medE_2 {den : Int} {g : Nat → Sm} {n : Nat} {wd : Int} (h : serE den g n = 0) (h2 : ¬ (1 ≤ wd ∧ wd ≤ 101 ∧ wd.tmod 2 ≠ 0)) : medE den g n wd = 1 := by unfold medE; rw [if_neg (fun k => k h), if_neg h2]
theorem medE_3 {den : Int} {g : Nat → Sm} {n : Nat} {wd : Int} (h : serE den g n = 0) (h2 : 1 ≤ wd ∧ wd ≤ 101 ∧ wd.tmod 2 ≠ 0) : medE den g n wd = 0 := by unfold medE; rw [if_neg (fun k => k h), if_pos h2]
attribute [irreducible] medE
end Go.Proofs.YtmpokfbliacmoaaDoor
