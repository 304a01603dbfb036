/- Connected things: the equivalence that pairs generate, the classes of indices, groups in order. Plain mathematics. -/
import Derived.Test.YtoaldbjcpfkcjaaGreatRows
namespace Go.Proofs.YtoaldbjcpfkcjaaGreat

/-- Whether pairs connect two keys. -/
def eqv {κ : Type} [DecidableEq κ] : List (κ × κ) → κ → κ → Bool
 | [], k, l => decide (k = l)
 | p :: es, k, l => eqv es k l || (eqv es k p.1 && eqv es p.2 l) || (eqv es k p.2 && eqv es p.1 l)

section
variable {κ : Type} [DecidableEq κ]
theorem eqv_refl : ∀ (es : List (κ × κ)) (k : κ), eqv es k k = true
 | [], k => by simp [eqv]
 | _ :: es, k => by simp [eqv, eqv_refl es k]
theorem eqv_symm : ∀ (es : List (κ × κ)) {k l : κ}, eqv es k l = true → eqv es l k = true
 | [], k, l, h => by simp [eqv] at h ⊢; exact h.symm
 | p :: es, k, l, h => by
  have s := fun {a b : κ} => eqv_symm es (k := a) (l := b)
  simp only [eqv, Bool.or_eq_true, Bool.and_eq_true] at h ⊢
  rcases h with (h | ⟨h1, h2⟩) | ⟨h1, h2⟩
  ·exact .inl (.inl (s h))
  ·exact .inr ⟨s h2, s h1⟩
  ·exact .inl (.inr ⟨s h2, s h1⟩)
theorem eqv_trans : ∀ (es : List (κ × κ)) {k l m : κ}, eqv es k l = true → eqv es l m = true → eqv es k m = true
 | [], k, l, m, h, g => by simp [eqv] at h g ⊢; exact h.trans g
 | p :: es, k, l, m, h, g => by
  have t := fun {a b c : κ} => eqv_trans es (k := a) (l := b) (m := c)
  have s := fun {a b : κ} => eqv_symm es (k := a) (l := b)
  simp only [eqv, Bool.or_eq_true, Bool.and_eq_true] at h g ⊢
  rcases h with (h | ⟨h1, h2⟩) | ⟨h1, h2⟩ <;> rcases g with (g | ⟨g1, g2⟩) | ⟨g1, g2⟩
  ·exact .inl (.inl (t h g))
  ·exact .inl (.inr ⟨t h g1, g2⟩)
  ·exact .inr ⟨t h g1, g2⟩
  ·exact .inl (.inr ⟨h1, t h2 g⟩)
  ·exact .inl (.inr ⟨h1, g2⟩)
  ·exact .inl (.inl (t h1 g2))
  ·exact .inr ⟨h1, t h2 g⟩
  ·exact .inl (.inl (t h1 g2))
  ·exact .inr ⟨h1, g2⟩
theorem eqv_edge : ∀ {es : List (κ × κ)} {p : κ × κ}, p ∈ es → eqv es p.1 p.2 = true
 | q :: es, p, h => by
  simp only [eqv, Bool.or_eq_true, Bool.and_eq_true]
  rcases List.mem_cons.1 h with rfl | h
  ·exact .inl (.inr ⟨eqv_refl es _, eqv_refl es _⟩)
  ·exact .inl (.inl (eqv_edge h))
theorem eqv_least {T : κ → κ → Prop} (r : ∀ a, T a a) (s : ∀ a b, T a b → T b a) (t : ∀ a b c, T a b → T b c → T a c) : ∀ {es : List (κ × κ)}, (∀ p ∈ es, T p.1 p.2) → ∀ {k l : κ}, eqv es k l = true → T k l
 | [], _, k, l, h => by simp [eqv] at h; rw [h]; exact r l
 | p :: es, hp, k, l, h => by
  have ih := fun {a b : κ} => eqv_least r s t (es := es) (fun q hq => hp q (.tail _ hq)) (k := a) (l := b)
  have hpp := hp p (.head _)
  simp only [eqv, Bool.or_eq_true, Bool.and_eq_true] at h
  rcases h with (h | ⟨h1, h2⟩) | ⟨h1, h2⟩
  ·exact ih h
  ·exact t _ _ _ (ih h1) (t _ _ _ hpp (ih h2))
  ·exact t _ _ _ (ih h1) (t _ _ _ (s _ _ hpp) (ih h2))
end

/-- An equivalence of indices. -/
structure Equ (C : Nat → Nat → Bool) : Prop where
 r : ∀ i, C i i = true
 s : ∀ {i j}, C i j = true → C j i = true
 t : ∀ {i j k}, C i j = true → C j k = true → C i k = true

/-- The least of each class among the first n. -/
def reps (n : Nat) (C : Nat → Nat → Bool) : List Nat := (List.range n).filter fun i => (List.range i).all fun j => !C j i
/-- The classes of the first n, in the order of their least. -/
def cls (n : Nat) (C : Nat → Nat → Bool) : List (List Nat) := (reps n C).map fun i => (List.range n).filter fun k => C i k

theorem reps_mem {n : Nat} {C : Nat → Nat → Bool} {i : Nat} : i ∈ reps n C ↔ i < n ∧ ∀ j, j < i → C j i = false := by
 unfold reps; simp
theorem reps_nodup (n : Nat) (C : Nat → Nat → Bool) : (reps n C).Nodup := List.nodup_range.filter _
theorem nodup_at {α : Type} {L : List α} (h : L.Nodup) {i j : Nat} {x : α} (hi : L[i]? = some x) (hj : L[j]? = some x) : i = j := by
 obtain ⟨a1, a2⟩ := List.getElem?_eq_some_iff.1 hi
 obtain ⟨b1, b2⟩ := List.getElem?_eq_some_iff.1 hj
 have := List.pairwise_iff_getElem.1 h
 rcases Nat.lt_trichotomy i j with q | q | q
 ·exact absurd (a2.trans b2.symm) (this i j a1 b1 q)
 ·exact q
 ·exact absurd (b2.trans a2.symm) (this j i b1 a1 q)
theorem reps_succ (n : Nat) (C : Nat → Nat → Bool) : reps (n + 1) C = reps n C ++ if (List.range n).all (fun j => !C j n) then [n] else [] := by
 unfold reps; rw [List.range_succ, List.filter_append]; congr 1; rw [List.filter_cons]; simp
theorem filter_succ (n : Nat) (p : Nat → Bool) : (List.range (n + 1)).filter p = (List.range n).filter p ++ if p n then [n] else [] := by
 rw [List.range_succ, List.filter_append]; congr 1; rw [List.filter_cons]; simp
/-- Each index has a least one. -/
theorem rep_of {n : Nat} {C : Nat → Nat → Bool} (E : Equ C) {i : Nat} (h : i < n) : ∃ j ∈ reps n C, C j i = true ∧ j ≤ i := by
 induction i using Nat.strongRecOn with
 | ind i ih =>
  by_cases hq : ∀ j, j < i → C j i = false
  ·exact ⟨i, reps_mem.2 ⟨h, hq⟩, E.r i, Nat.le_refl _⟩
  ·obtain ⟨j, hq⟩ := Classical.not_forall.1 hq
   obtain ⟨hj, hc⟩ := Classical.not_imp.1 hq
   obtain ⟨k, h1, h2, h3⟩ := ih j hj (by omega)
   exact ⟨k, h1, E.t h2 (by simpa using hc), by omega⟩
theorem rep_one {n : Nat} {C : Nat → Nat → Bool} (E : Equ C) {i j : Nat} (hi : i ∈ reps n C) (hj : j ∈ reps n C) (h : C i j = true) : i = j := by
 have a := reps_mem.1 hi
 have b := reps_mem.1 hj
 rcases Nat.lt_trichotomy i j with q | q | q
 ·have := b.2 i q; rw [h] at this; cases this
 ·exact q
 ·have := a.2 j q; rw [E.s h] at this; cases this

theorem cls_new {k : Nat} {C : Nat → Nat → Bool} (E : Equ C) (h : ∀ i, i < k → C i k = false) : reps (k + 1) C = reps k C ++ [k] ∧ cls (k + 1) C = cls k C ++ [[k]] := by
 have e : reps (k + 1) C = reps k C ++ [k] := by
  rw [reps_succ, if_pos]; simpa using h
 refine ⟨e, ?_⟩
 unfold cls
 rw [e, List.map_append]
 congr 1
 ·refine List.map_congr_left fun i hi => ?_
  rw [filter_succ, h i (reps_mem.1 hi).1]; simp
 ·simp only [List.map_cons, List.map_nil]
  rw [filter_succ, E.r k]
  have : (List.range k).filter (C k) = [] := by
   rw [List.filter_eq_nil_iff]
   intro i hi
   have := h i (List.mem_range.1 hi)
   intro q; rw [E.s q] at this; cases this
  simp [this]
theorem cls_old {k j i : Nat} {C : Nat → Nat → Bool} (E : Equ C) (hj : (reps k C)[j]? = some i) (h : C i k = true) : reps (k + 1) C = reps k C ∧ cls (k + 1) C = (cls k C).modify j (· ++ [k]) := by
 have him := List.mem_of_getElem? hj
 have hik := (reps_mem.1 him).1
 have e : reps (k + 1) C = reps k C := by
  rw [reps_succ, if_neg]; · simp
  simp only [List.all_eq_true, List.mem_range, Bool.not_eq_true']
  intro q
  have := q i hik
  rw [h] at this; cases this
 refine ⟨e, ?_⟩
 unfold cls
 rw [e]
 apply List.ext_getElem?
 intro m
 rw [List.getElem?_modify, List.getElem?_map, List.getElem?_map]
 cases hm : (reps k C)[m]? with
 | none => simp
 | some q =>
  simp only [Option.map_some]
  by_cases hmj : j = m
  ·subst hmj
   rw [hj] at hm
   cases hm
   simp [filter_succ, h]
  ·simp only [hmj, if_false]
   rw [filter_succ]
   have : C q k = false := by
    cases hq : C q k
    ·rfl
    ·exfalso
     have := rep_one E him (List.mem_of_getElem? hm) (E.t h (E.s hq))
     subst this
     exact hmj (nodup_at (reps_nodup k C) hj hm)
   simp [this]
theorem cls_length (n : Nat) (C : Nat → Nat → Bool) : (cls n C).length = (reps n C).length := by unfold cls; simp
theorem cls_congr {n : Nat} {C D : Nat → Nat → Bool} (h : ∀ i j, i < n → j < n → C i j = D i j) : cls n C = cls n D := by
 have e : reps n C = reps n D := by
  unfold reps
  refine List.filter_congr fun i hi => ?_
  rw [Bool.eq_iff_iff]
  simp only [List.all_eq_true, List.mem_range]
  have hi := List.mem_range.1 hi
  constructor
  ·intro q j hj; have := q j hj; rwa [h j i (by omega) hi] at this
  ·intro q j hj; have := q j hj; rwa [h j i (by omega) hi]
 unfold cls
 rw [e]
 refine List.map_congr_left fun i hi => List.filter_congr fun k hk => ?_
 exact h i k (reps_mem.1 hi).1 (List.mem_range.1 hk)

/-- The order of lists of numbers: by the first that differ. -/
def lexle : List Int → List Int → Bool
 | [], _ => true
 | _ :: _, [] => false
 | x :: xs, y :: ys => if x = y then lexle xs ys else decide (x < y)
theorem lexle_refl : ∀ l, lexle l l = true
 | [] => rfl
 | x :: xs => by simp [lexle, lexle_refl xs]
theorem lexle_total : ∀ a b, lexle a b = true ∨ lexle b a = true
 | [], _ => .inl rfl
 | _ :: _, [] => .inr rfl
 | x :: xs, y :: ys => by
  unfold lexle
  by_cases h : x = y
  ·subst h; simpa using lexle_total xs ys
  ·rw [if_neg h, if_neg (fun q => h q.symm)]
   simp only [decide_eq_true_eq]; omega
theorem lexle_anti : ∀ {a b}, lexle a b = true → lexle b a = true → a = b
 | [], [], _, _ => rfl
 | [], _ :: _, _, h => by cases h
 | _ :: _, [], h, _ => by cases h
 | x :: xs, y :: ys, h, g => by
  unfold lexle at h g
  by_cases e : x = y
  ·subst e; simp only [if_true] at h g; rw [lexle_anti h g]
  ·rw [if_neg e] at h; rw [if_neg (fun q => e q.symm)] at g
   simp only [decide_eq_true_eq] at h g; omega
theorem lexle_trans : ∀ {a b c}, lexle a b = true → lexle b c = true → lexle a c = true
 | [], _, _, _, _ => rfl
 | _ :: _, [], _, h, _ => by cases h
 | _ :: _, _ :: _, [], _, h => by cases h
 | x :: xs, y :: ys, z :: zs, h, g => by
  unfold lexle at h g ⊢
  by_cases e : x = y
  ·subst e
   simp only [if_true] at h
   by_cases f : x = z
   ·subst f; simp only [if_true] at g ⊢; exact lexle_trans h g
   ·rw [if_neg f] at g ⊢; exact g
  ·rw [if_neg e] at h
   by_cases f : y = z
   ·subst f; rw [if_neg e]; exact h
   ·rw [if_neg f] at g
    simp only [decide_eq_true_eq] at h g
    rw [if_neg (by omega)]; simp only [decide_eq_true_eq]; omega
def sortI (l : List Int) : List Int := l.mergeSort fun x y => decide (x ≤ y)
def sortG (l : List (List Int)) : List (List Int) := l.mergeSort lexle
theorem sortI_sorted (l : List Int) : (sortI l).Pairwise (fun x y => x ≤ y) := by
 have := List.pairwise_mergeSort (le := fun x y : Int => decide (x ≤ y)) (fun a b c h g => by simp only [decide_eq_true_eq] at *; omega) (fun a b => by simp only [Bool.or_eq_true, decide_eq_true_eq]; omega) l
 exact this.imp (fun h => by simpa using h)
theorem sortI_perm (l : List Int) : (sortI l).Perm l := List.mergeSort_perm _ _
theorem sortI_eq {l m : List Int} (h : m.Perm l) (hs : m.Pairwise (fun x y => x ≤ y)) : m = sortI l :=
 List.Perm.eq_of_pairwise (le := fun x y : Int => x ≤ y) (fun _ _ _ _ h g => by omega) hs (sortI_sorted l) (h.trans (sortI_perm l).symm)
theorem sortI_of_perm {l m : List Int} (h : m.Perm l) : sortI m = sortI l := sortI_eq ((sortI_perm m).trans h) (sortI_sorted m)
theorem sortG_sorted (l : List (List Int)) : (sortG l).Pairwise (fun x y => lexle x y = true) :=
 List.pairwise_mergeSort (le := lexle) (fun _ _ _ h g => lexle_trans h g) (fun a b => by rw [Bool.or_eq_true]; exact lexle_total a b) l
theorem sortG_perm (l : List (List Int)) : (sortG l).Perm l := List.mergeSort_perm _ _
theorem sortG_eq {l m : List (List Int)} (h : m.Perm l) (hs : m.Pairwise (fun x y => lexle x y = true)) : m = sortG l :=
 List.Perm.eq_of_pairwise (le := fun x y => lexle x y = true) (fun _ _ _ _ h g => lexle_anti h g) hs (sortG_sorted l) (h.trans (sortG_perm l).symm)
theorem sortG_of_perm {l m : List (List Int)} (h : m.Perm l) : sortG m = sortG l := sortG_eq ((sortG_perm m).trans h) (sortG_sorted m)

/-- The groups: the numbers of each class in order, in order. -/
def grp (n : Nat) (C : Nat → Nat → Bool) (ids : Nat → Int) : List (List Int) := sortG ((cls n C).map fun b => sortI (b.map ids))
theorem grp_congr {n : Nat} {C D : Nat → Nat → Bool} {f g : Nat → Int} (h : ∀ i j, i < n → j < n → C i j = D i j) (hf : ∀ i, i < n → f i = g i) : grp n C f = grp n D g := by
 unfold grp
 rw [cls_congr h]
 congr 1
 refine List.map_congr_left fun b hb => ?_
 congr 1
 refine List.map_congr_left fun i hi => ?_
 obtain ⟨r, _, rfl⟩ := List.mem_map.1 hb
 exact hf i (List.mem_range.1 (List.mem_filter.1 hi).1)


/-! ### where a number stands in groups -/
/-- The last group that holds a number, and how often the number is held. -/
def lastAt (R : List (List Int)) (x : Int) : Int := (((List.range R.length).filter fun j => ((R[j]?).getD []).contains x).getLast?.map fun j => (j : Int)).getD (-1)
def manyAt (R : List (List Int)) (x : Int) : Nat := (R.map fun b => b.count x).sum
def findP (R : List (List Int)) (x : Int) : Int := if manyAt R x = 1 then lastAt R x else -1
theorem manyAt_perm {R S : List (List Int)} (h : R.Perm S) (x : Int) : manyAt R x = manyAt S x := (h.map _).sum_nat
theorem manyAt_cons (b : List Int) (R : List (List Int)) (x : Int) : manyAt (b :: R) x = b.count x + manyAt R x := by unfold manyAt; simp
theorem le_sum_mem : ∀ {L : List Nat} {x : Nat}, x ∈ L → x ≤ L.sum
 | y :: L, x, h => by
  rw [List.sum_cons]
  rcases List.mem_cons.1 h with rfl | h
  ·omega
  ·have := le_sum_mem h; omega
theorem many_zero {R : List (List Int)} {x : Int} (h : manyAt R x = 0) : ∀ b ∈ R, x ∉ b := by
 intro b hb hx
 have : b.count x ≤ manyAt R x := le_sum_mem (List.mem_map.2 ⟨b, hb, rfl⟩)
 have := List.count_pos_iff.2 hx
 omega
theorem many_one {R : List (List Int)} {x : Int} (h : manyAt R x = 1) : ∃ (j : Nat) (b : List Int), R[j]? = some b ∧ x ∈ b ∧ ∀ (i : Nat) (c : List Int), R[i]? = some c → x ∈ c → i = j := by
 induction R with
 | nil => simp [manyAt] at h
 | cons b R ih =>
  rw [manyAt_cons] at h
  by_cases hb : x ∈ b
  ·have := List.count_pos_iff.2 hb
   refine ⟨0, b, rfl, hb, fun i c hi hc => ?_⟩
   cases i with
   | zero => rfl
   | succ i => exact absurd hc (many_zero (R := R) (by omega) c (List.mem_of_getElem? hi))
  ·have : b.count x = 0 := List.count_eq_zero.2 hb
   obtain ⟨j, c, h1, h2, h3⟩ := ih (by omega)
   refine ⟨j + 1, c, h1, h2, fun i d hi hd => ?_⟩
   cases i with
   | zero => simp at hi; subst hi; exact absurd hd hb
   | succ i => rw [h3 i d hi hd]
theorem lastAt_is {R : List (List Int)} {x : Int} {j : Nat} {b : List Int} (hj : R[j]? = some b) (hx : x ∈ b) (h : ∀ (i : Nat) (c : List Int), R[i]? = some c → x ∈ c → i = j) : lastAt R x = j := by
 have hjl := (List.getElem?_eq_some_iff.1 hj).1
 have key : ((List.range R.length).filter fun i => ((R[i]?).getD []).contains x) = [j] := by
  refine List.Perm.eq_of_pairwise (le := fun a b : Nat => a ≤ b) (fun a b _ _ h g => by omega) ?_ (List.pairwise_singleton _ _) ?_
  ·exact (List.pairwise_le_range).filter _
  ·refine (List.perm_ext_iff_of_nodup (List.nodup_range.filter _) (by simp)).2 fun i => ?_
   simp only [List.mem_filter, List.mem_range, List.contains_iff_mem, List.mem_singleton]
   constructor
   ·rintro ⟨h1, h2⟩
    rw [List.getElem?_eq_getElem h1] at h2
    exact h i _ (List.getElem?_eq_getElem h1) h2
   ·rintro rfl
    exact ⟨hjl, by rw [hj]; exact hx⟩
 unfold lastAt
 rw [key]; rfl

/-- In the groups of the classes each number stands once, and two stand in one group just if they are of one class. -/
theorem grp_many {n : Nat} {C : Nat → Nat → Bool} {ids : Nat → Int} (E : Equ C) (hi : ∀ i j, i < n → j < n → ids i = ids j → i = j) {i : Nat} (h : i < n) : manyAt (grp n C ids) (ids i) = 1 := by
 unfold grp
 rw [manyAt_perm (sortG_perm _)]
 have hc : ∀ r, ((sortI (((List.range n).filter fun k => C r k).map ids))).count (ids i) = if C r i then 1 else 0 := by
  intro r
  rw [(sortI_perm _).count_eq]
  have hn : (((List.range n).filter fun k => C r k).map ids).Nodup := by
   unfold List.Nodup
   rw [List.pairwise_map]
   refine List.Pairwise.imp_of_mem ?_ (List.nodup_range.filter _)
   intro a b ha hb hab e
   exact hab (hi a b (List.mem_range.1 (List.mem_filter.1 ha).1) (List.mem_range.1 (List.mem_filter.1 hb).1) e)
  split
  ·rename_i hr
   have q1 := List.count_pos_iff.2 (List.mem_map.2 ⟨i, List.mem_filter.2 ⟨List.mem_range.2 h, hr⟩, rfl⟩ : ids i ∈ ((List.range n).filter fun k => C r k).map ids)
   have q2 := List.nodup_iff_count.1 hn (ids i)
   omega
  ·rename_i hr
   rw [List.count_eq_zero]
   intro hm
   obtain ⟨k, hk, e⟩ := List.mem_map.1 hm
   obtain ⟨h1, h2⟩ := List.mem_filter.1 hk
   rw [hi k i (List.mem_range.1 h1) h e] at h2
   exact hr h2
 unfold manyAt cls
 rw [List.map_map, List.map_map]
 obtain ⟨r, hr, hri, -⟩ := rep_of (n := n) E h
 have : ∀ L : List Nat, (∀ q ∈ L, q ∈ reps n C) → L.Nodup → (L.map ((fun b => List.count (ids i) b) ∘ (fun b => sortI (List.map ids b)) ∘ fun i => List.filter (fun k => C i k) (List.range n))).sum = if r ∈ L then 1 else 0 := by
  intro L
  induction L with
  | nil => intro _ _; rfl
  | cons q L ih =>
   intro hq hd
   obtain ⟨d1, d2⟩ := List.nodup_cons.1 hd
   rw [List.map_cons, List.sum_cons, ih (fun x hx => hq x (.tail _ hx)) d2]
   simp only [Function.comp]
   rw [hc q]
   by_cases e : q = r
   ·subst e; rw [if_pos hri, if_neg d1, if_pos (List.mem_cons_self ..)]
   ·have : C q i = false := by
     cases hqi : C q i
     ·rfl
     ·exact absurd (rep_one E (hq q (.head _)) hr (E.t hqi (E.s hri))) e
    rw [this]
    have e2 : r ≠ q := fun x => e x.symm
    simp [List.mem_cons, e2]
 have q := this _ (fun _ h => h) (reps_nodup n C)
 rw [if_pos hr] at q
 exact q
theorem grp_block {n : Nat} {C : Nat → Nat → Bool} {ids : Nat → Int} (E : Equ C) (hi : ∀ i j, i < n → j < n → ids i = ids j → i = j) {i k : Nat} (h : i < n) (hk : k < n) {b : List Int} (hb : b ∈ grp n C ids) (hib : ids i ∈ b) : ids k ∈ b ↔ C i k = true := by
 have hb := (sortG_perm _).mem_iff.1 (show b ∈ sortG _ from hb)
 obtain ⟨c, hc, rfl⟩ := List.mem_map.1 hb
 unfold cls at hc
 obtain ⟨r, hr, rfl⟩ := List.mem_map.1 hc
 have key : ∀ q, q < n → (ids q ∈ sortI (((List.range n).filter fun k => C r k).map ids) ↔ C r q = true) := by
  intro q hq
  rw [(sortI_perm _).mem_iff, List.mem_map]
  constructor
  ·rintro ⟨k, hk, e⟩
   obtain ⟨h1, h2⟩ := List.mem_filter.1 hk
   rw [← hi k q (List.mem_range.1 h1) hq e]; exact h2
  ·intro h; exact ⟨q, List.mem_filter.2 ⟨List.mem_range.2 hq, h⟩, rfl⟩
 have h1 := (key i h).1 hib
 rw [key k hk]
 exact ⟨fun h2 => E.t (E.s h1) h2, fun h2 => E.t h1 h2⟩
theorem grp_same {n : Nat} {C : Nat → Nat → Bool} {ids : Nat → Int} (E : Equ C) (hi : ∀ i j, i < n → j < n → ids i = ids j → i = j) {i k : Nat} (h : i < n) (hk : k < n) : findP (grp n C ids) (ids i) = findP (grp n C ids) (ids k) ↔ C i k = true := by
 obtain ⟨j, b, h1, h2, h3⟩ := many_one (grp_many E hi h)
 obtain ⟨m, c, g1, g2, g3⟩ := many_one (grp_many E hi hk)
 unfold findP
 rw [if_pos (grp_many E hi h), if_pos (grp_many E hi hk), lastAt_is h1 h2 h3, lastAt_is g1 g2 g3, ← grp_block E hi h hk (List.mem_of_getElem? h1) h2]
 constructor
 ·intro e
  have : j = m := by omega
  subst this; rw [h1] at g1; cases g1; exact g2
 ·intro e; rw [g3 j b h1 e]
end Go.Proofs.YtoaldbjcpfkcjaaGreat
