/- Gathering: the classes by the roots of the first stops. Plain mathematics, and what a list of lists of numbers is after an append to one of them. -/
import Derived.Test.YtoaldbjcpfkcjaaGreatcOa
namespace Go.Proofs.YtoaldbjcpfkcjaaGreat
open Go.RowKit Go.Lib Go.Sort Go.Shelf

theorem CC_root {F : Forest} {R : Key → Key} {ws : List Wy} (h : FOk F R (edges ws)) (hk : ∀ i a, lab ws i = some a → F a ≠ none) (i j : Nat) :
  CC ws i j = (decide (i = j) || (match lab ws i, lab ws j with | some a, some b => decide (R a = R b) | _, _ => false)) := by
 unfold CC
 cases ha : lab ws i with
 | none => rfl
 | some a =>
  cases hb : lab ws j with
  | none => rfl
  | some b =>
   congr 1
   rw [Bool.eq_iff_iff, ← h.same a b (hk i a ha) (hk j b hb)]
   simp
def NumOk (ws : List Wy) (R : Key → Key) (k : Nat) (num : Key → Option Nat) : Prop :=
 ∀ r, K64 r → ∀ j, num r = some j ↔ ∃ i a, (reps k (CC ws))[j]? = some i ∧ lab ws i = some a ∧ R a = r
theorem num_not {R : Key → Key} {ws : List Wy} {k : Nat} {num : Key → Option Nat} (hn : NumOk ws R k num) (hl : lab ws k = none) :
  (∀ i, i < k → CC ws i k = false) ∧ NumOk ws R (k + 1) num := by
 have hf : ∀ i, i < k → CC ws i k = false := fun i hi => by rw [CC_none' hl]; exact decide_eq_false (by omega)
 refine ⟨hf, fun r hr j => ?_⟩
 rw [(cls_new (CC_equ ws) hf).1, hn r hr j]
 constructor
 ·rintro ⟨i, a, h1, h2, h3⟩
  exact ⟨i, a, by rw [List.getElem?_append_left (List.getElem?_eq_some_iff.1 h1).1]; exact h1, h2, h3⟩
 ·rintro ⟨i, a, h1, h2, h3⟩
  by_cases hj : j < (reps k (CC ws)).length
  ·rw [List.getElem?_append_left hj] at h1; exact ⟨i, a, h1, h2, h3⟩
  ·rw [List.getElem?_append_right (by omega)] at h1
   have : i = k := by
    rcases List.mem_of_getElem? h1 with _ | ⟨_, q⟩
    ·rfl
    ·cases q
   subst this
   rw [hl] at h2; cases h2
theorem num_known {F : Forest} {R : Key → Key} {ws : List Wy} (h : FOk F R (edges ws)) (hk : ∀ i a, lab ws i = some a → F a ≠ none) {k j : Nat} {num : Key → Option Nat} (hn : NumOk ws R k num) {a : Key} (hl : lab ws k = some a) (hr : K64 (R a)) (hj : num (R a) = some j) :
  (∃ i, (reps k (CC ws))[j]? = some i ∧ CC ws i k = true) ∧ NumOk ws R (k + 1) num := by
 obtain ⟨i, a', h1, h2, h3⟩ := (hn _ hr j).1 hj
 have hc : CC ws i k = true := by rw [CC_root h hk, h2, hl]; simp [h3]
 refine ⟨⟨i, h1, hc⟩, fun r hr j => ?_⟩
 rw [(cls_old (CC_equ ws) h1 hc).1]
 exact hn r hr j
theorem num_new {F : Forest} {R : Key → Key} {ws : List Wy} (h : FOk F R (edges ws)) (hk : ∀ i a, lab ws i = some a → F a ≠ none) {k : Nat} {num : Key → Option Nat} (hn : NumOk ws R k num) {a : Key} (hl : lab ws k = some a) (hr : K64 (R a)) (hj : num (R a) = none) :
  (∀ i, i < k → CC ws i k = false) ∧ NumOk ws R (k + 1) (fun r => if r = R a then some (cls k (CC ws)).length else num r) := by
 have hf : ∀ i, i < k → CC ws i k = false := fun i hi => by
  cases hc : CC ws i k
  ·rfl
  ·exfalso
   obtain ⟨i0, hm, h1, h2⟩ := rep_of (n := k) (CC_equ ws) hi
   have hc0 := (CC_equ ws).t h1 hc
   obtain ⟨j, hjj⟩ := List.mem_iff_getElem?.1 hm
   rw [CC_root h hk, hl] at hc0
   cases hl0 : lab ws i0 with
   | none => rw [hl0] at hc0; simp at hc0; omega
   | some a0 =>
    rw [hl0] at hc0
    simp only [Bool.or_eq_true, decide_eq_true_eq] at hc0
    have : R a0 = R a := hc0.resolve_left (by omega)
    have := (hn _ hr j).2 ⟨i0, a0, hjj, hl0, this⟩
    rw [hj] at this; cases this
 refine ⟨hf, fun r hrr j => ?_⟩
 rw [(cls_new (CC_equ ws) hf).1, cls_length]
 by_cases e : r = R a
 ·subst e
  simp only [if_true]
  constructor
  ·intro q; cases q
   exact ⟨k, a, by rw [List.getElem?_append_right (Nat.le_refl _)]; simp, hl, rfl⟩
  ·rintro ⟨i, b, h1, h2, h3⟩
   by_cases hlt : j < (reps k (CC ws)).length
   ·rw [List.getElem?_append_left hlt] at h1
    have := (hn _ hr j).2 ⟨i, b, h1, h2, h3⟩
    rw [hj] at this; cases this
   ·have h4 := (List.getElem?_eq_some_iff.1 h1).1
    rw [List.length_append] at h4
    simp at h4
    have : j = (reps k (CC ws)).length := by omega
    rw [this]
 ·simp only [e, if_false]
  rw [hn r hrr j]
  constructor
  ·rintro ⟨i, b, h1, h2, h3⟩
   exact ⟨i, b, by rw [List.getElem?_append_left (List.getElem?_eq_some_iff.1 h1).1]; exact h1, h2, h3⟩
  ·rintro ⟨i, b, h1, h2, h3⟩
   by_cases hlt : j < (reps k (CC ws)).length
   ·rw [List.getElem?_append_left hlt] at h1; exact ⟨i, b, h1, h2, h3⟩
   ·rw [List.getElem?_append_right (by omega)] at h1
    have : i = k := by
     rcases List.mem_of_getElem? h1 with _ | ⟨_, q⟩
     ·rfl
     ·cases q
    subst this
    rw [hl] at h2; cases h2
    exact absurd h3.symm e
theorem num_start (ws : List Wy) (R : Key → Key) : NumOk ws R 0 (fun _ => none) := fun r _ j => by
 constructor
 ·intro h; cases h
 ·rintro ⟨i, a, h1, -⟩; simp [reps] at h1
/-- The groups so far, by their numbers. -/
def gat (ws : List Wy) (k : Nat) : List (List Int) := (cls k (CC ws)).map fun b => b.map (idsOf ws)
theorem gat_zero (ws : List Wy) : gat ws 0 = [] := by simp [gat, cls, reps]
theorem gat_new {ws : List Wy} {k : Nat} {a : Wy} (h : ws[k]? = some a) (hf : ∀ i, i < k → CC ws i k = false) : gat ws (k + 1) = gat ws k ++ [[a.id]] := by
 unfold gat
 rw [(cls_new (CC_equ ws) hf).2, List.map_append]
 simp [idsOf, h]
theorem gat_old {ws : List Wy} {k j i : Nat} {a : Wy} (h : ws[k]? = some a) (hj : (reps k (CC ws))[j]? = some i) (hc : CC ws i k = true) : gat ws (k + 1) = (gat ws k).modify j (· ++ [a.id]) := by
 unfold gat
 rw [(cls_old (CC_equ ws) hj hc).2]
 apply List.ext_getElem?
 intro m
 rw [List.getElem?_modify, List.getElem?_map, List.getElem?_modify, List.getElem?_map]
 cases (cls k (CC ws))[m]? with
 | none => simp
 | some b =>
  by_cases hm : j = m <;> simp [hm, idsOf, h]
theorem gat_length (ws : List Wy) (k : Nat) : (gat ws k).length = (cls k (CC ws)).length := by unfold gat; simp
theorem gat_le (ws : List Wy) (k : Nat) : (gat ws k).length ≤ k := by
 rw [gat_length, cls_length]
 have := List.length_filter_le (fun i => (List.range i).all fun j => !CC ws j i) (List.range k)
 unfold reps
 simpa using this
theorem inner_app {b : Nat} {W1 W2 : World} {g n c j : Nat} {us : List Value} {gs : List (List Int)} {u u' : Value} {xs : List Int} {x : Int} (hh : W1.ownsRow b 22 1 (.slice (some ⟨g, 0, none⟩) n c) n us) (hI : Inner b W1 us gs)
  (hu : us[j]? = some u) (hx : gs[j]? = some xs) (ho : OwnN b W2 u' (xs ++ [x])) (hg : W1.grownBy W2 u.ownBlock) (hb : u'.ownBlock = u.ownBlock ∨ u'.ownBlock = some W1.heap.size) :
  (W2.setCell ⟨g, j, none⟩ u').ownsRow b 22 1 (.slice (some ⟨g, 0, none⟩) n c) n (us.set j u') ∧ Inner b (W2.setCell ⟨g, j, none⟩ u') (us.set j u') (gs.modify j (· ++ [x])) := by
 have hjl := (List.getElem?_eq_some_iff.1 hu).1
 have hO := hI.own j u xs hu hx
 have hgo : ∀ k, u.ownBlock = some k → k ≠ g := fun k e e2 => by subst e2; exact kind_ne hh hO rfl e
 have hh2 : W2.ownsRow b 22 1 (.slice (some ⟨g, 0, none⟩) n c) n us := ownsRow_same hh fun k e => hg.block k (World.ownsRow.lt hh k e).2 fun e2 => by
  have e' : g = k := by injection e
  subst e'; exact hgo g e2.symm rfl
 have hn : n = us.length := by have := hh.1; omega
 have keep : ∀ {q : Value} {ys : List Int}, OwnN b W2 q ys → OwnN b (W2.setCell ⟨g, j, none⟩ u') q ys := fun {q ys} hq => ownsRow_same hq fun k e => Below.heap_setCell W2 ⟨g, j, none⟩ u' k (fun e2 => by
  simp only at e2; subst e2; exact kind_ne hh2 hq rfl e)
 refine ⟨?_, ⟨by simp [hI.len], fun i q ys hq hy => keep ?_, fun i i' q q' k hii hq hq' hk => ?_⟩⟩
 ·exact (World.ownsRow.stored hh2 j u').1
 ·by_cases e : i = j
  ·subst e
   rw [List.getElem?_set_self hjl] at hq
   cases hq
   rw [List.getElem?_modify, hx] at hy
   simp at hy
   subst hy
   exact ho
  ·rw [List.getElem?_set_ne (fun h => e h.symm)] at hq
   rw [List.getElem?_modify] at hy
   have hne : ¬ j = i := fun h => e h.symm
   simp [hne] at hy
   have hq0 := hI.own i q ys hq hy
   exact ownsRow_same hq0 fun k ek => hg.block k (World.ownsRow.lt hq0 k ek).2 fun e2 => hI.ne i j q u k e hq hu ek e2.symm
 ·by_cases e : i = j <;> by_cases e' : i' = j
  ·exact absurd (e.trans e'.symm) hii
  ·subst e
   rw [List.getElem?_set_self hjl] at hq
   cases hq
   rw [List.getElem?_set_ne (fun h => e' h.symm)] at hq'
   obtain ⟨ys, hy⟩ : ∃ ys, gs[i']? = some ys := ⟨_, List.getElem?_eq_getElem (by rw [← hI.len]; exact (List.getElem?_eq_some_iff.1 hq').1)⟩
   intro e3
   have h3 := World.ownsRow.lt (hI.own i' q' ys hq' hy) k e3
   rcases hb with hb | hb
   ·rw [hb] at hk; exact hI.ne i i' u q' k hii hu hq' hk e3
   ·rw [hb] at hk; injection hk with hk; omega
  ·subst e'
   rw [List.getElem?_set_self hjl] at hq'
   cases hq'
   rw [List.getElem?_set_ne (fun h => e h.symm)] at hq
   obtain ⟨ys, hy⟩ : ∃ ys, gs[i]? = some ys := ⟨_, List.getElem?_eq_getElem (by rw [← hI.len]; exact (List.getElem?_eq_some_iff.1 hq).1)⟩
   intro e3
   have h3 := World.ownsRow.lt (hI.own i q ys hq hy) k hk
   rcases hb with hb | hb
   ·rw [hb] at e3; exact hI.ne i i' q u k hii hq hu hk e3
   ·rw [hb] at e3; injection e3 with e3; omega
  ·rw [List.getElem?_set_ne (fun h => e h.symm)] at hq
   rw [List.getElem?_set_ne (fun h => e' h.symm)] at hq'
   exact hI.ne i i' q q' k hii hq hq' hk
theorem ownsRow_base {b b' e size n : Nat} {w : World} {v : Value} {xs : List Value} (h : w.ownsRow b e size v n xs) (hb : b' ≤ b) : w.ownsRow b' e size v n xs :=
 ⟨h.1, h.2.imp id (fun ⟨k, cap, cur, h1, h2, h3⟩ => ⟨k, cap, cur, h1, Nat.le_trans hb h2, h3⟩)⟩
theorem OwnG.base {b b' : Nat} {w : World} {v : Value} {gs : List (List Int)} (h : OwnG b w v gs) (hb : b' ≤ b) : OwnG b' w v gs := by
 obtain ⟨us, h1, h2⟩ := h
 exact ⟨us, ownsRow_base h1 hb, ⟨h2.len, fun i u xs hu hx => (h2.own i u xs hu hx).base hb, h2.ne⟩⟩
/-- The stops of a way are within an int. -/
def WK (t : Wy) : Prop := K64 (fstK t) ∧ K64 (lstK t)
def FN (num : Key → Option Nat) : Key → Option Value := fun k => (num k).map fun j => Value.int .i64 (j : Int)
theorem FN_set (num : Key → Option Nat) (k : Key) (j : Nat) : VSet (FN num) k (.int .i64 (j : Int)) = FN (fun r => if r = k then some j else num r) := by
 funext l
 unfold VSet FN
 by_cases e : l = k
 ·simp [e]
 ·simp [e]

end Go.Proofs.YtoaldbjcpfkcjaaGreat
