/- What the examples are. -/
import Derived.Test.YtoaldbjcpfkcjaaGreatfWb
namespace Go.Proofs.YtoaldbjcpfkcjaaGreat
open Go.RowKit Go.Lib

/-- The ways of the examples. -/
def exA : Wy := exw 1 0 0 10 0
def exB : Wy := exw 2 10 0 10 10
def exC : Wy := exw 3 5 (-5) 5 5
def exD : Wy := { exw 4 5 (-5) 5 5 with lv := 1 }
theorem val1 : checkN [exA, exB] = 0 := by decide +kernel
theorem val2 : checkN [exA, exC] = 16 := by decide +kernel
theorem val3 : checkN [exA, exD] = 0 := by decide +kernel
theorem val4 : joinP exA exB = true := by decide +kernel
theorem val5 : joinP exA exD = false := by decide +kernel
theorem val6 : crossW exA exC = false := by decide +kernel
theorem val7 : crossW exA exD = true := by decide +kernel
theorem val9 : grpW [exB, exD, exA] = [[1, 2], [4]] := by
 unfold grpW grp
 rw [show cls [exB, exD, exA].length (CC [exB, exD, exA]) = [[0, 2], [1]] by decide +kernel]
 rw [show ([[0, 2], [1]] : List (List Nat)).map (fun b => sortI (b.map (idsOf [exB, exD, exA]))) = [sortI [2, 1], sortI [4]] from rfl]
 rw [← sortI_eq (l := [2, 1]) (m := [1, 2]) (List.Perm.swap _ _ _) (by decide), ← sortI_eq (l := [4]) (m := [4]) (List.Perm.refl _) (by decide)]
 exact (sortG_eq (List.Perm.refl _) (by decide +kernel)).symm
theorem RowW.block {W : World} {b c : Nat} {us : List Value} {es : List Wy} (h : Cells W b (flatW us es)) (hl : us.length = es.length) (hu : ∀ p ∈ us.zip es, RowP W p.1 p.2.ln) (h1 : es.length ≤ c) (h2 : (c : Int) ≤ 9223372036854775807) : RowW W (.slice (some ⟨b, 0, none⟩) es.length c) es := by
 refine ⟨_, c, rfl, h1, h2, .inr ⟨b, 0, rfl, fun i e he => ?_⟩⟩
 obtain ⟨u, hue⟩ : ∃ u, us[i]? = some u := ⟨_, List.getElem?_eq_getElem (by rw [hl]; exact (List.getElem?_eq_some_iff.1 he).1)⟩
 obtain ⟨a0, a1, a2, a3, a4, a5, a6, a7⟩ := flatW_at hue he
 have hz : (us.zip es)[i]? = some (u, e) := by rw [List.getElem?_zip_eq_some]; exact ⟨hue, he⟩
 have k := fun {j : Nat} {v : Value} (q : (flatW us es)[j]? = some v) => (h.get j q).1
 simp only [Nat.zero_add]
 exact ⟨u, hu _ (List.mem_of_getElem? hz), k a0, k a1, k a2, k a3, k a4, k a5, k a6, k a7⟩
theorem rowG_two {W : World} {b : Nat} {u v : Value} {xs ys : List Int} (h : Cells W b [u, v]) (hu : RowN W u xs) (hv : RowN W v ys) : RowG W (.slice (some ⟨b, 0, none⟩) 2 2) [xs, ys] := by
 refine ⟨_, 2, rfl, by simp, by decide, .inr ⟨b, 0, rfl, fun i zs hz => ?_⟩⟩
 match i, hz with
 | 0, hz => cases hz; exact ⟨u, hu, (h.get 0 rfl).1⟩
 | 1, hz => cases hz; exact ⟨v, hv, (h.get 1 rfl).1⟩
 | i + 2, hz => simp at hz
theorem exK : ∀ t ∈ [exB, exD, exA], WK t := by
 intro t ht
 simp only [List.mem_cons, List.not_mem_nil, or_false] at ht
 rcases ht with rfl | rfl | rfl <;> (unfold WK K64 I64; decide +kernel)
theorem rowN_two {W : World} {b : Nat} {x y : Int} (h : Cells W b [.int .i64 x, .int .i64 y]) : RowN W (.slice (some ⟨b, 0, none⟩) 2 2) [x, y] := by
 refine ⟨_, 2, rfl, by simp, by decide, .inr ⟨b, 0, rfl, fun i z hz => ?_⟩⟩
 match i, hz with
 | 0, hz => cases hz; exact (h.get 0 rfl).1
 | 1, hz => cases hz; exact (h.get 1 rfl).1
 | i + 2, hz => simp at hz
theorem rowN_oneC {W : World} {b : Nat} {x : Int} (h : Cells W b [.int .i64 x]) : RowN W (.slice (some ⟨b, 0, none⟩) 1 1) [x] := by
 refine ⟨_, 1, rfl, by simp, by decide, .inr ⟨b, 0, rfl, fun i z hz => ?_⟩⟩
 match i, hz with
 | 0, hz => cases hz; exact (h.get 0 rfl).1
 | i + 1, hz => simp at hz

end Go.Proofs.YtoaldbjcpfkcjaaGreat
