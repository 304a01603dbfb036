/- Putting one more into a list that is in order, from its end. -/
import Derived.Test.YtoaldbjcpfkcjaaGreatcOg
namespace Go.Proofs.YtoaldbjcpfkcjaaGreat.G
open Go.Lib

section
variable {α : Type}
/-- Where x is put, when those before k are left. -/
def posG (lt : α → α → Bool) (xs : List α) (x : α) : Nat → Nat
 | 0 => 0
 | k + 1 => match xs[k]? with
  | some y => if lt x y then posG lt xs x k else k + 1
  | none => k + 1
theorem posG_le (lt : α → α → Bool) (xs : List α) (x : α) : ∀ k, posG lt xs x k ≤ k
 | 0 => Nat.le_refl _
 | k + 1 => by
  unfold posG
  split
  ·split
   ·exact Nat.le_succ_of_le (posG_le lt xs x k)
   ·exact Nat.le_refl _
  ·exact Nat.le_refl _
theorem posG_yes {lt : α → α → Bool} {xs : List α} {x y : α} {k : Nat} (h : xs[k]? = some y) (hl : lt x y = true) : posG lt xs x (k + 1) = posG lt xs x k := by
 rw [posG, h]; simp [hl]
theorem posG_no {lt : α → α → Bool} {xs : List α} {x y : α} {k : Nat} (h : xs[k]? = some y) (hl : lt x y = false) : posG lt xs x (k + 1) = k + 1 := by
 rw [posG, h]; simp [hl]
theorem posG_spec (lt : α → α → Bool) (xs : List α) (x : α) : ∀ k, (∀ i y, posG lt xs x k ≤ i → i < k → xs[i]? = some y → lt x y = true) ∧ (∀ y, 0 < posG lt xs x k → xs[posG lt xs x k - 1]? = some y → lt x y = false)
 | 0 => ⟨fun i y _ h => by omega, fun y h => by simp [posG] at h⟩
 | k + 1 => by
  cases hk : xs[k]? with
  | none =>
   have e : posG lt xs x (k + 1) = k + 1 := by rw [posG, hk]
   rw [e]
   exact ⟨fun i y h1 h2 => by omega, fun y _ h => by rw [Nat.add_sub_cancel, hk] at h; cases h⟩
  | some z =>
   cases hz : lt x z with
   | true =>
    rw [posG_yes hk hz]
    have ih := posG_spec lt xs x k
    refine ⟨fun i y h1 h2 h3 => ?_, ih.2⟩
    rcases Nat.lt_or_ge i k with q | q
    ·exact ih.1 i y h1 q h3
    ·have : i = k := by omega
     subst this
     rw [hk] at h3; cases h3; exact hz
   | false =>
    rw [posG_no hk hz]
    exact ⟨fun i y h1 h2 => by omega, fun y _ h => by rw [Nat.add_sub_cancel, hk] at h; cases h; exact hz⟩
def insG (lt : α → α → Bool) (xs : List α) (x : α) : List α := xs.take (posG lt xs x xs.length) ++ (x :: xs.drop (posG lt xs x xs.length))
theorem insG_perm (lt : α → α → Bool) (xs : List α) (x : α) : (insG lt xs x).Perm (xs ++ [x]) := by
 unfold insG
 refine List.perm_middle.trans ?_
 rw [List.take_append_drop]
 exact (List.perm_append_singleton x xs).symm
theorem insG_length (lt : α → α → Bool) (xs : List α) (x : α) : (insG lt xs x).length = xs.length + 1 := by
 rw [(insG_perm lt xs x).length_eq]; simp
theorem insG_sorted {le lt : α → α → Bool} (hlt : ∀ x y, lt x y = !le y x) (htot : ∀ x y, le x y = true ∨ le y x = true) (htr : ∀ {x y z}, le x y = true → le y z = true → le x z = true) {xs : List α} (x : α)
  (h : xs.Pairwise (fun a b => le a b = true)) : (insG lt xs x).Pairwise (fun a b => le a b = true) := by
 obtain ⟨s1, s2⟩ := posG_spec lt xs x xs.length
 have hp := posG_le lt xs x xs.length
 unfold insG
 generalize posG lt xs x xs.length = p at *
 rw [List.pairwise_append, List.pairwise_cons]
 have hleft : ∀ a ∈ xs.take p, le a x = true := by
  intro a ha
  obtain ⟨i, hi⟩ := List.getElem?_of_mem ha
  have hip : i < p := by
   have := (List.getElem?_eq_some_iff.1 hi).1
   rw [List.length_take] at this; omega
  rw [List.getElem?_take, if_pos hip] at hi
  obtain ⟨z, hz⟩ : ∃ z, xs[p - 1]? = some z := ⟨_, List.getElem?_eq_getElem (by omega)⟩
  have h1 : le z x = true := by
   have := s2 z (by omega) hz
   rw [hlt] at this
   simpa using this
  rcases Nat.lt_or_ge i (p - 1) with q | q
  ·obtain ⟨i1, i2⟩ := List.getElem?_eq_some_iff.1 hi
   obtain ⟨p1, p2⟩ := List.getElem?_eq_some_iff.1 hz
   have := List.pairwise_iff_getElem.1 h i (p - 1) i1 p1 q
   rw [i2, p2] at this
   exact htr this h1
  ·have : i = p - 1 := by omega
   subst this
   rw [hi] at hz; cases hz; exact h1
 have hright : ∀ b ∈ xs.drop p, le x b = true := by
  intro b hb
  obtain ⟨i, hi⟩ := List.getElem?_of_mem hb
  rw [List.getElem?_drop] at hi
  have := s1 (p + i) b (by omega) (List.getElem?_eq_some_iff.1 hi).1 hi
  rw [hlt] at this
  rcases htot x b with q | q
  ·exact q
  ·rw [q] at this; simp at this
 refine ⟨h.sublist (List.take_sublist _ _), ⟨hright, h.sublist (List.drop_sublist _ _)⟩, fun a ha b hb => ?_⟩
 rcases List.mem_cons.1 hb with rfl | hb
 ·exact hleft a ha
 ·exact htr (hleft a ha) (hright b hb)
end
def ltI (x y : Int) : Bool := decide (y > x)
def putL (xs : List Int) (x : Int) : List Int := insG ltI xs x
theorem putL_sorted {xs : List Int} (x : Int) (h : xs.Pairwise (fun a b => a ≤ b)) : (putL xs x).Pairwise (fun a b => a ≤ b) := by
 have := insG_sorted (le := fun a b : Int => decide (a ≤ b)) (lt := ltI) (fun x y => by unfold ltI; rw [Bool.eq_iff_iff]; simp) (fun x y => by simp only [decide_eq_true_eq]; omega) (fun {x y z} h g => by simp only [decide_eq_true_eq] at *; omega) x (xs := xs) (h.imp (fun q => by simpa using q))
 exact this.imp (fun q => by simpa using q)
theorem putL_perm (xs : List Int) (x : Int) : (putL xs x).Perm (xs ++ [x]) := insG_perm _ _ _
theorem putL_length (xs : List Int) (x : Int) : (putL xs x).length = xs.length + 1 := insG_length _ _ _

end Go.Proofs.YtoaldbjcpfkcjaaGreat.G
