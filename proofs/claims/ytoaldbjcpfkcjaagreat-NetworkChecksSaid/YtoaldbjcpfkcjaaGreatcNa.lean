/- Connected things: the equivalence that pairs generate, the classes of indices, groups in order. Plain mathematics. -/
import Derived.Test.YtoaldbjcpfkcjaaGreatRows
namespace Go.Proofs.YtoaldbjcpfkcjaaGreat

/-- Whether pairs connect two keys. -/
def eqv {κ : Type} [DecidableEq κ] : List (κ × κ) → κ → κ → Bool
 | [], k, l => decide (k = l)
 | p :: es, k, l => eqv es k l || (eqv es k p.1 && eqv es p.2 l) || (eqv es k p.2 && eqv es p.1 l)

section
variable {κ : Type} [DecidableEq κ]
theorem eqv_refl : ∀ (es : List (κ × κ)) (k : κ), eqv es k k = true
 | [], k => by simp [eqv]
 | _ :: es, k => by simp [eqv, eqv_refl es k]
theorem eqv_symm : ∀ (es : List (κ × κ)) {k l : κ}, eqv es k l = true → eqv es l k = true
 | [], k, l, h => by simp [eqv] at h ⊢; exact h.symm
 | p :: es, k, l, h => by
  have s := fun {a b : κ} => eqv_symm es (k := a) (l := b)
  simp only [eqv, Bool.or_eq_true, Bool.and_eq_true] at h ⊢
  rcases h with (h | ⟨h1, h2⟩) | ⟨h1, h2⟩
  ·exact .inl (.inl (s h))
  ·exact .inr ⟨s h2, s h1⟩
  ·exact .inl (.inr ⟨s h2, s h1⟩)
theorem eqv_trans : ∀ (es : List (κ × κ)) {k l m : κ}, eqv es k l = true → eqv es l m = true → eqv es k m = true
 | [], k, l, m, h, g => by simp [eqv] at h g ⊢; exact h.trans g
 | p :: es, k, l, m, h, g => by
  have t := fun {a b c : κ} => eqv_trans es (k := a) (l := b) (m := c)
  have s := fun {a b : κ} => eqv_symm es (k := a) (l := b)
  simp only [eqv, Bool.or_eq_true, Bool.and_eq_true] at h g ⊢
  rcases h with (h | ⟨h1, h2⟩) | ⟨h1, h2⟩ <;> rcases g with (g | ⟨g1, g2⟩) | ⟨g1, g2⟩
  ·exact .inl (.inl (t h g))
  ·exact .inl (.inr ⟨t h g1, g2⟩)
  ·exact .inr ⟨t h g1, g2⟩
  ·exact .inl (.inr ⟨h1, t h2 g⟩)
  ·exact .inl (.inr ⟨h1, g2⟩)
  ·exact .inl (.inl (t h1 g2))
  ·exact .inr ⟨h1, t h2 g⟩
  ·exact .inl (.inl (t h1 g2))
  ·exact .inr ⟨h1, g2⟩
theorem eqv_edge : ∀ {es : List (κ × κ)} {p : κ × κ}, p ∈ es → eqv es p.1 p.2 = true
 | q :: es, p, h => by
  simp only [eqv, Bool.or_eq_true, Bool.and_eq_true]
  rcases List.mem_cons.1 h with rfl | h
  ·exact .inl (.inr ⟨eqv_refl es _, eqv_refl es _⟩)
  ·exact .inl (.inl (eqv_edge h))
theorem eqv_least {T : κ → κ → Prop} (r : ∀ a, T a a) (s : ∀ a b, T a b → T b a) (t : ∀ a b c, T a b → T b c → T a c) : ∀ {es : List (κ × κ)}, (∀ p ∈ es, T p.1 p.2) → ∀ {k l : κ}, eqv es k l = true → T k l
 | [], _, k, l, h => by simp [eqv] at h; rw [h]; exact r l
 | p :: es, hp, k, l, h => by
  have ih := fun {a b : κ} => eqv_least r s t (es := es) (fun q hq => hp q (.tail _ hq)) (k := a) (l := b)
  have hpp := hp p (.head _)
  simp only [eqv, Bool.or_eq_true, Bool.and_eq_true] at h
  rcases h with (h | ⟨h1, h2⟩) | ⟨h1, h2⟩
  ·exact ih h
  ·exact t _ _ _ (ih h1) (t _ _ _ hpp (ih h2))
  ·exact t _ _ _ (ih h1) (t _ _ _ (s _ _ hpp) (ih h2))
end

/-- An equivalence of indices. -/
structure Equ (C : Nat → Nat → Bool) : Prop where
 r : ∀ i, C i i = true
 s : ∀ {i j}, C i j = true → C j i = true
 t : ∀ {i j k}, C i j = true → C j k = true → C i k = true

/-- The least of each class among the first n. -/
def reps (n : Nat) (C : Nat → Nat → Bool) : List Nat := (List.range n).filter fun i => (List.range i).all fun j => !C j i
/-- The classes of the first n, in the order of their least. -/
def cls (n : Nat) (C : Nat → Nat → Bool) : List (List Nat) := (reps n C).map fun i => (List.range n).filter fun k => C i k

theorem reps_mem {n : Nat} {C : Nat → Nat → Bool} {i : Nat} : i ∈ reps n C ↔ i < n ∧ ∀ j, j < i → C j i = false := by
 unfold reps; simp
theorem reps_nodup (n : Nat) (C : Nat → Nat → Bool) : (reps n C).Nodup := List.nodup_range.filter _
theorem nodup_at {α : Type} {L : List α} (h : L.Nodup) {i j : Nat} {x : α} (hi : L[i]? = some x) (hj : L[j]? = some x) : i = j := by
 obtain ⟨a1, a2⟩ := List.getElem?_eq_some_iff.1 hi
 obtain ⟨b1, b2⟩ := List.getElem?_eq_some_iff.1 hj
 have := List.pairwise_iff_getElem.1 h
 rcases Nat.lt_trichotomy i j with q | q | q
 ·exact absurd (a2.trans b2.symm) (this i j a1 b1 q)
 ·exact q
 ·exact absurd (b2.trans a2.symm) (this j i b1 a1 q)
theorem reps_succ (n : Nat) (C : Nat → Nat → Bool) : reps (n + 1) C = reps n C ++ if (List.range n).all (fun j => !C j n) then [n] else [] := by
 unfold reps; rw [List.range_succ, List.filter_append]; congr 1; rw [List.filter_cons]; simp
theorem filter_succ (n : Nat) (p : Nat → Bool) : (List.range (n + 1)).filter p = (List.range n).filter p ++ if p n then [n] else [] := by
 rw [List.range_succ, List.filter_append]; congr 1; rw [List.filter_cons]; simp
/-- Each index has a least one. -/
theorem rep_of {n : Nat} {C : Nat → Nat → Bool} (E : Equ C) {i : Nat} (h : i < n) : ∃ j ∈ reps n C, C j i = true ∧ j ≤ i := by
 induction i using Nat.strongRecOn with
 | ind i ih =>
  by_cases hq : ∀ j, j < i → C j i = false
  ·exact ⟨i, reps_mem.2 ⟨h, hq⟩, E.r i, Nat.le_refl _⟩
  ·obtain ⟨j, hq⟩ := Classical.not_forall.1 hq
   obtain ⟨hj, hc⟩ := Classical.not_imp.1 hq
   obtain ⟨k, h1, h2, h3⟩ := ih j hj (by omega)
   exact ⟨k, h1, E.t h2 (by simpa using hc), by omega⟩
theorem rep_one {n : Nat} {C : Nat → Nat → Bool} (E : Equ C) {i j : Nat} (hi : i ∈ reps n C) (hj : j ∈ reps n C) (h : C i j = true) : i = j := by
 have a := reps_mem.1 hi
 have b := reps_mem.1 hj
 rcases Nat.lt_trichotomy i j with q | q | q
 ·have := b.2 i q; rw [h] at this; cases this
 ·exact q
 ·have := a.2 j q; rw [E.s h] at this; cases this

theorem cls_new {k : Nat} {C : Nat → Nat → Bool} (E : Equ C) (h : ∀ i, i < k → C i k = false) : reps (k + 1) C = reps k C ++ [k] ∧ cls (k + 1) C = cls k C ++ [[k]] := by
 have e : reps (k + 1) C = reps k C ++ [k] := by
  rw [reps_succ, if_pos]; simpa using h
 refine ⟨e, ?_⟩
 unfold cls
 rw [e, List.map_append]
 congr 1
 ·refine List.map_congr_left fun i hi => ?_
  rw [filter_succ, h i (reps_mem.1 hi).1]; simp
 ·simp only [List.map_cons, List.map_nil]
  rw [filter_succ, E.r k]
  have : (List.range k).filter (C k) = [] := by
   rw [List.filter_eq_nil_iff]
   intro i hi
   have := h i (List.mem_range.1 hi)
   intro q; rw [E.s q] at this; cases this
  simp [this]
theorem cls_old {k j i : Nat} {C : Nat → Nat → Bool} (E : Equ C) (hj : (reps k C)[j]? = some i) (h : C i k = true) : reps (k + 1) C = reps k C ∧ cls (k + 1) C = (cls k C).modify j (· ++ [k]) := by
 have him := List.mem_of_getElem? hj
 have hik := (reps_mem.1 him).1
 have e : reps (k + 1) C = reps k C := by
  rw [reps_succ, if_neg]; · simp
  simp only [List.all_eq_true, List.mem_range, Bool.not_eq_true']
  intro q
  have := q i hik
  rw [h] at this; cases this
 refine ⟨e, ?_⟩
 unfold cls
 rw [e]
 apply List.ext_getElem?
 intro m
 rw [List.getElem?_modify, List.getElem?_map, List.getElem?_map]
 cases hm : (reps k C)[m]? with
 | none => simp
 | some q =>
  simp only [Option.map_some]
  by_cases hmj : j = m
  ·subst hmj
   rw [hj] at hm
   cases hm
   simp [filter_succ, h]
  ·simp only [hmj, if_false]
   rw [filter_succ]
   have : C q k = false := by
    cases hq : C q k
    ·rfl
    ·exfalso
     have := rep_one E him (List.mem_of_getElem? hm) (E.t h (E.s hq))
     subst this
     exact hmj (nodup_at (reps_nodup k C) hj hm)
   simp [this]
theorem cls_length (n : Nat) (C : Nat → Nat → Bool) : (cls n C).length = (reps n C).length := by unfold cls; simp
/-- The order of lists of numbers: by the first that differ. -/
def lexle : List Int → List Int → Bool
 | [], _ => true
 | _ :: _, [] => false
 | x :: xs, y :: ys => if x = y then lexle xs ys else decide (x < y)
theorem lexle_refl : ∀ l, lexle l l = true
 | [] => rfl
 | x :: xs => by simp [lexle, lexle_refl xs]
theorem lexle_total : ∀ a b, lexle a b = true ∨ lexle b a = true
 | [], _ => .inl rfl
 | _ :: _, [] => .inr rfl
 | x :: xs, y :: ys => by
  unfold lexle
  by_cases h : x = y
  ·subst h; simpa using lexle_total xs ys
  ·rw [if_neg h, if_neg (fun q => h q.symm)]
   simp only [decide_eq_true_eq]; omega
theorem lexle_anti : ∀ {a b}, lexle a b = true → lexle b a = true → a = b
 | [], [], _, _ => rfl
 | [], _ :: _, _, h => by cases h
 | _ :: _, [], h, _ => by cases h
 | x :: xs, y :: ys, h, g => by
  unfold lexle at h g
  by_cases e : x = y
  ·subst e; simp only [if_true] at h g; rw [lexle_anti h g]
  ·rw [if_neg e] at h; rw [if_neg (fun q => e q.symm)] at g
   simp only [decide_eq_true_eq] at h g; omega
theorem lexle_trans : ∀ {a b c}, lexle a b = true → lexle b c = true → lexle a c = true
 | [], _, _, _, _ => rfl
 | _ :: _, [], _, h, _ => by cases h
 | _ :: _, _ :: _, [], _, h => by cases h
 | x :: xs, y :: ys, z :: zs, h, g => by
  unfold lexle at h g ⊢
  by_cases e : x = y
  ·subst e
   simp only [if_true] at h
   by_cases f : x = z
   ·subst f; simp only [if_true] at g ⊢; exact lexle_trans h g
   ·rw [if_neg f] at g ⊢; exact g
  ·rw [if_neg e] at h
   by_cases f : y = z
   ·subst f; rw [if_neg e]; exact h
   ·rw [if_neg f] at g
    simp only [decide_eq_true_eq] at h g
    rw [if_neg (by omega)]; simp only [decide_eq_true_eq]; omega
def sortI (l : List Int) : List Int := l.mergeSort fun x y => decide (x ≤ y)
def sortG (l : List (List Int)) : List (List Int) := l.mergeSort lexle
theorem sortI_sorted (l : List Int) : (sortI l).Pairwise (fun x y => x ≤ y) := by
 have := List.pairwise_mergeSort (le := fun x y : Int => decide (x ≤ y)) (fun a b c h g => by simp only [decide_eq_true_eq] at *; omega) (fun a b => by simp only [Bool.or_eq_true, decide_eq_true_eq]; omega) l
 exact this.imp (fun h => by simpa using h)
theorem sortI_perm (l : List Int) : (sortI l).Perm l := List.mergeSort_perm _ _
theorem sortI_eq {l m : List Int} (h : m.Perm l) (hs : m.Pairwise (fun x y => x ≤ y)) : m = sortI l :=
 List.Perm.eq_of_pairwise (le := fun x y : Int => x ≤ y) (fun _ _ _ _ h g => by omega) hs (sortI_sorted l) (h.trans (sortI_perm l).symm)
theorem sortG_sorted (l : List (List Int)) : (sortG l).Pairwise (fun x y => lexle x y = true) :=
 List.pairwise_mergeSort (le := lexle) (fun _ _ _ h g => lexle_trans h g) (fun a b => by rw [Bool.or_eq_true]; exact lexle_total a b) l
theorem sortG_perm (l : List (List Int)) : (sortG l).Perm l := List.mergeSort_perm _ _
theorem sortG_eq {l m : List (List Int)} (h : m.Perm l) (hs : m.Pairwise (fun x y => lexle x y = true)) : m = sortG l :=
 List.Perm.eq_of_pairwise (le := fun x y => lexle x y = true) (fun _ _ _ _ h g => lexle_anti h g) hs (sortG_sorted l) (h.trans (sortG_perm l).symm)
/-- The groups: the numbers of each class in order, in order. -/
def grp (n : Nat) (C : Nat → Nat → Bool) (ids : Nat → Int) : List (List Int) := sortG ((cls n C).map fun b => sortI (b.map ids))
/-! ### where a number stands in groups -/
end Go.Proofs.YtoaldbjcpfkcjaaGreat
