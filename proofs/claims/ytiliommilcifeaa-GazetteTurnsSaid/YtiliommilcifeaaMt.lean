/- Places whose numbers are their places: what is found names them, in order, each once; neither does the order of the places play a part. -/
import Derived.Test.YtiliommilcifeaaMb
namespace Go.Proofs.Ytiliommilcifeaa
open Go.Lib

theorem found_perm {ps qs : List Pl} (h : ps.Perm qs) (pre : List UInt8) : found ps pre = found qs pre := by
  unfold found foundK
  rw [sortK_of_perm ((h.filter _).map _)]
theorem turn_perm {α : Type} (xs : List α) (k : Nat) : (xs.drop k ++ xs.take k).Perm xs := by
  refine List.perm_append_comm.trans ?_
  rw [List.take_append_drop]
/-- Each place has its place as its number. -/
def Numd (L : List Pl) : Prop := ∀ (i : Nat) (p : Pl), L[i]? = some p → p.id = (i : Int)
theorem found_at {L : List Pl} {pre : List UInt8} (hn : Numd L) {i : Nat} {z : Int} (h : (found L pre)[i]? = some z) : ∃ (j : Nat) (p : Pl), z = (j : Int) ∧ L[j]? = some p ∧ (foundK L pre)[i]? = some p.key := by
  unfold found at h
  rw [List.getElem?_map] at h
  obtain ⟨k, hk, rfl⟩ := Option.map_eq_some_iff.1 h
  have hm : k ∈ (L.filter fun p => beg pre p.nm).map Pl.key := by
    unfold foundK at hk
    exact (sortK_perm _).mem_iff.1 (List.mem_of_getElem? hk)
  obtain ⟨p, hp, rfl⟩ := List.mem_map.1 hm
  have hp2 := (List.mem_filter.1 hp).1
  obtain ⟨j, hj⟩ := List.getElem?_of_mem hp2
  exact ⟨j, p, hn j p hj, hj, hk⟩
theorem found_nodup {L : List Pl} {pre : List UInt8} (hn : Numd L) : (found L pre).Nodup := by
  unfold found foundK
  have h1 : (L.map Pl.id).Nodup := by
    rw [List.nodup_iff_pairwise_ne, List.pairwise_iff_getElem]
    intro i j hi hj hij
    simp only [List.length_map] at hi hj
    rw [List.getElem_map, List.getElem_map, hn i _ (List.getElem?_eq_getElem hi), hn j _ (List.getElem?_eq_getElem hj)]
    omega
  have h2 : ((L.filter fun p => beg pre p.nm).map Pl.id).Nodup := h1.sublist (List.filter_sublist.map _)
  have h3 : ((sortK ((L.filter fun p => beg pre p.nm).map Pl.key)).map fun k => k.2.2).Perm ((L.filter fun p => beg pre p.nm).map Pl.id) := by
    refine ((sortK_perm _).map _).trans ?_
    rw [List.map_map]
    exact .refl _
  exact h3.nodup_iff.2 h2
theorem found_next {L : List Pl} {pre : List UInt8} (hn : Numd L) {i : Nat} {y z : Int} (hy : (found L pre)[i]? = some y) (hz : (found L pre)[i + 1]? = some z) :
    ∃ (a b : Nat) (p q : Pl), y = (a : Int) ∧ z = (b : Int) ∧ L[a]? = some p ∧ L[b]? = some q ∧ ¬ p.w < q.w ∧ (p.w = q.w → decide (cmpN q.nm p.nm < 0) = false ∧ (p.nm = q.nm → ¬ p.id ≥ q.id)) := by
  obtain ⟨a, p, rfl, ha, hka⟩ := found_at hn hy
  obtain ⟨b, q, rfl, hb, hkb⟩ := found_at hn hz
  refine ⟨a, b, p, q, rfl, rfl, ha, hb, ?_⟩
  have hs : leK p.key q.key = true := by
    have h := sortK_sorted ((L.filter fun p => beg pre p.nm).map Pl.key)
    rw [List.pairwise_iff_getElem] at h
    obtain ⟨i1, i2⟩ := List.getElem?_eq_some_iff.1 hka
    obtain ⟨j1, j2⟩ := List.getElem?_eq_some_iff.1 hkb
    have := h i (i + 1) i1 j1 (by omega)
    unfold foundK at i2 j2
    rw [i2, j2] at this
    exact this
  have hne : p.id ≠ q.id := by
    have h := found_nodup (pre := pre) hn
    rw [List.nodup_iff_pairwise_ne, List.pairwise_iff_getElem] at h
    obtain ⟨i1, i2⟩ := List.getElem?_eq_some_iff.1 hy
    obtain ⟨j1, j2⟩ := List.getElem?_eq_some_iff.1 hz
    have := h i (i + 1) i1 j1 (by omega)
    rw [i2, j2] at this
    rw [hn a p ha, hn b q hb]; exact this
  unfold leK at hs
  rw [decide_eq_true_eq] at hs
  unfold cmpK Pl.key at hs
  simp only at hs
  by_cases hw : p.w = q.w
  · rw [if_pos hw] at hs
    refine ⟨by omega, fun _ => ?_⟩
    by_cases hc : cmpN p.nm q.nm = 0
    · rw [if_pos hc] at hs
      refine ⟨by rw [cmpN_neg, hc]; rfl, fun _ => ?_⟩
      unfold cmpI at hs
      split at hs
      · omega
      · split at hs <;> omega
    · rw [if_neg hc] at hs
      refine ⟨decide_eq_false (by rw [cmpN_neg]; omega), fun e => absurd (by rw [e]; exact cmpN_refl _) hc⟩
  · rw [if_neg hw] at hs
    refine ⟨?_, fun e => absurd e hw⟩
    unfold cmpI at hs
    split at hs
    · omega
    · split at hs <;> omega
theorem numd_perm_fine {L : List Pl} {k : Nat} : (L.drop k ++ L.take k).length = L.length := (turn_perm L k).length_eq
end Go.Proofs.Ytiliommilcifeaa
