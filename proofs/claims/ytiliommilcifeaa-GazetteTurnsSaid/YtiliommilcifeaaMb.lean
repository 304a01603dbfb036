/- What is found, as a part of what a shorter prefix finds; what a greedy match counts. -/
import Derived.Test.YtiliommilcifeaaMa
namespace Go.Proofs.Ytiliommilcifeaa
open Go.Lib

theorem foundK_all (ps : List Pl) (pre : List UInt8) : foundK ps pre = (sortK (ps.map Pl.key)).filter fun k => beg pre k.2.1 := by
  unfold foundK
  rw [sortK_filter, List.filter_map]
  rfl
theorem beg_take {pre nm : List UInt8} {j : Nat} (h : beg pre nm = true) : beg (pre.take j) nm = true := by
  unfold beg at *
  simp only [Bool.and_eq_true, decide_eq_true_eq] at *
  obtain ⟨⟨h1, h2⟩, h3⟩ := h
  refine ⟨⟨h1, by rw [List.length_take]; omega⟩, ?_⟩
  have : (fold nm).take (pre.take j).length = ((fold nm).take pre.length).take j := by
    rw [List.take_take, List.length_take]
  rw [this, h3]
  simp [fold, List.map_take]
theorem beg_fold (pre nm : List UInt8) : beg (fold pre) nm = beg pre nm := by unfold beg; rw [fold_fold, fold_length]
theorem found_fold (ps : List Pl) (pre : List UInt8) : found ps (fold pre) = found ps pre := by
  unfold found foundK
  simp only [beg_fold]
theorem found_part (ps : List Pl) (pre : List UInt8) (j : Nat) : (found ps pre).Sublist (found ps (pre.take j)) := by
  unfold found
  refine List.Sublist.map _ ?_
  rw [foundK_all, foundK_all]
  have : (fun k : Key => beg pre k.2.1) = fun k => (beg pre k.2.1 && beg (pre.take j) k.2.1) := by
    funext k
    cases h : beg pre k.2.1
    · rfl
    · rw [beg_take h]; rfl
  rw [this, ← List.filter_filter]
  exact List.filter_sublist
def namedC (ps : List Pl) : Nat := (ps.filter fun p => decide (p.nm ≠ [])).length
theorem found_all (ps : List Pl) : (found ps []).length = namedC ps := by
  unfold found foundK namedC
  rw [List.length_map, (sortK_perm _).length_eq, List.length_map]
  congr 2
  funext p
  simp [beg, fold]
theorem namedC_next {ps : List Pl} {k : Nat} {p : Pl} (h : ps[k]? = some p) : namedC (ps.take (k + 1)) = if p.nm = [] then namedC (ps.take k) else namedC (ps.take k) + 1 := by
  obtain ⟨h1, h2⟩ := List.getElem?_eq_some_iff.1 h
  unfold namedC
  rw [List.take_succ_eq_append_getElem h1, List.filter_append, List.length_append, h2]
  by_cases e : p.nm = [] <;> simp [e]
theorem namedC_le (ps : List Pl) : namedC ps ≤ ps.length := List.length_filter_le _ _

/-- How far a greedy match comes. -/
def greedy (few : List Int) : List Int → Nat → Nat
  | [], k => k
  | id :: rest, k => greedy few rest (if few[k]? = some id then k + 1 else k)
theorem greedy_all (few : List Int) : ∀ (many : List Int) (k : Nat), k ≤ few.length → (few.drop k).Sublist many → greedy few many k = few.length
  | [], k, hk, h => by
    have := List.sublist_nil.1 h
    have h2 : (few.drop k).length = 0 := by rw [this]; rfl
    rw [List.length_drop] at h2
    unfold greedy; omega
  | id :: rest, k, hk, h => by
    unfold greedy
    by_cases e : few[k]? = some id
    · rw [if_pos e]
      obtain ⟨h1, h2⟩ := List.getElem?_eq_some_iff.1 e
      refine greedy_all few rest (k + 1) (by omega) ?_
      rw [List.drop_eq_getElem_cons h1, h2] at h
      exact List.cons_sublist_cons.1 h
    · rw [if_neg e]
      refine greedy_all few rest k hk ?_
      rcases Nat.lt_or_ge k few.length with q | q
      · rw [List.drop_eq_getElem_cons q] at h ⊢
        cases h with
        | cons _ h => exact h
        | cons_cons _ h => exact absurd (List.getElem?_eq_getElem q) e
      · rw [List.drop_of_length_le q]; exact List.nil_sublist _
theorem greedy_append (few : List Int) : ∀ (xs ys : List Int) (k : Nat), greedy few (xs ++ ys) k = greedy few ys (greedy few xs k)
  | [], _, _ => rfl
  | x :: xs, ys, k => by
    rw [List.cons_append, greedy, greedy_append few xs ys, greedy]
theorem greedy_le (few : List Int) : ∀ (many : List Int) (k : Nat), k ≤ few.length → greedy few many k ≤ few.length
  | [], _, h => h
  | id :: rest, k, h => by
    unfold greedy
    by_cases e : few[k]? = some id
    · rw [if_pos e]
      exact greedy_le few rest (k + 1) (by have := (List.getElem?_eq_some_iff.1 e).1; omega)
    · rw [if_neg e]; exact greedy_le few rest k h
theorem greedy_next {few many : List Int} {i : Nat} {id : Int} (h : many[i]? = some id) : greedy few (many.take (i + 1)) 0 = if few[greedy few (many.take i) 0]? = some id then greedy few (many.take i) 0 + 1 else greedy few (many.take i) 0 := by
  obtain ⟨h1, h2⟩ := List.getElem?_eq_some_iff.1 h
  rw [List.take_succ_eq_append_getElem h1, greedy_append, h2]
  rfl
theorem found_length (ps : List Pl) (pre : List UInt8) : (found ps pre).length ≤ ps.length := by
  unfold found foundK
  rw [List.length_map, (sortK_perm _).length_eq, List.length_map]
  exact List.length_filter_le _ _
end Go.Proofs.Ytiliommilcifeaa
