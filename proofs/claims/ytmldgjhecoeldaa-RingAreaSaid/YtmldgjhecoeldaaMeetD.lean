/- How many points two segments have in common: the words. -/
import Derived.Test.YtmldgjhecoeldaaOnD
namespace Go.Proofs.Ytmldgjhecoeldaa
open Go.RowKit Go.Lib

/-- How many points two segments have in common, by the sides of their ends. -/
def meetS (sA sB sC sD o : Int) : Int := if sA = 0 ∧ sB = 0 ∧ sC = 0 ∧ sD = 0 then o else if sA * sB ≤ 0 ∧ sC * sD ≤ 0 then 1 else 0
def meetOf (a0 a1 b0 b1 c0 c1 d0 d1 : Int) : Int :=
  if inl 1152921504606846976 a0 a1 = true ∧ inl 1152921504606846976 b0 b1 = true ∧ inl 1152921504606846976 c0 c1 = true ∧ inl 1152921504606846976 d0 d1 = true then
    meetS (sideOf c0 c1 d0 d1 a0 a1) (sideOf c0 c1 d0 d1 b0 b1) (sideOf a0 a1 b0 b1 c0 c1) (sideOf a0 a1 b0 b1 d0 d1) (ovl a0 a1 b0 b1 c0 c1 d0 d1) else 0
section
variable {a0 a1 b0 b1 c0 c1 d0 d1 : Int}
theorem meet_no0 (h : inl 1152921504606846976 a0 a1 = false) : 0 = meetOf a0 a1 b0 b1 c0 c1 d0 d1 := by unfold meetOf; rw [if_neg (by rw [h]; simp)]
theorem meet_no1 (h : inl 1152921504606846976 b0 b1 = false) : 0 = meetOf a0 a1 b0 b1 c0 c1 d0 d1 := by unfold meetOf; rw [if_neg (by rw [h]; simp)]
theorem meet_no2 (h : inl 1152921504606846976 c0 c1 = false) : 0 = meetOf a0 a1 b0 b1 c0 c1 d0 d1 := by unfold meetOf; rw [if_neg (by rw [h]; simp)]
theorem meet_no3 (h : inl 1152921504606846976 d0 d1 = false) : 0 = meetOf a0 a1 b0 b1 c0 c1 d0 d1 := by unfold meetOf; rw [if_neg (by rw [h]; simp)]
theorem meet_yes (h : inl 1152921504606846976 a0 a1 = true) (k : inl 1152921504606846976 b0 b1 = true) (l : inl 1152921504606846976 c0 c1 = true) (m : inl 1152921504606846976 d0 d1 = true) {sA sB sC sD o : Int} (eA : sideOf c0 c1 d0 d1 a0 a1 = sA) (eB : sideOf c0 c1 d0 d1 b0 b1 = sB) (eC : sideOf a0 a1 b0 b1 c0 c1 = sC) (eD : sideOf a0 a1 b0 b1 d0 d1 = sD) (eo : ovl a0 a1 b0 b1 c0 c1 d0 d1 = o) : meetOf a0 a1 b0 b1 c0 c1 d0 d1 = meetS sA sB sC sD o := by
  unfold meetOf; rw [if_pos ⟨h, k, l, m⟩, eA, eB, eC, eD, eo]
end
theorem sideOf_bd (a0 a1 b0 b1 p0 p1 : Int) : -1 ≤ sideOf a0 a1 b0 b1 p0 p1 ∧ sideOf a0 a1 b0 b1 p0 p1 ≤ 1 := by
  unfold sideOf
  split
  · exact sign_bd _
  · omega
theorem sideOf_same (a0 a1 p0 p1 : Int) : sideOf a0 a1 a0 a1 p0 p1 = 0 := by
  unfold sideOf crs
  split
  · rw [Int.sub_self, Int.sub_self, Int.zero_mul, Int.zero_mul]; rfl
  · rfl
theorem prod_bd {s t : Int} (hs : -1 ≤ s ∧ s ≤ 1) (ht : -1 ≤ t ∧ t ≤ 1) : -1 ≤ s * t ∧ s * t ≤ 1 := by
  have h1 : s = -1 ∨ s = 0 ∨ s = 1 := by omega
  have h2 : t = -1 ∨ t = 0 ∨ t = 1 := by omega
  rcases h1 with rfl | rfl | rfl <;> rcases h2 with rfl | rfl | rfl <;> decide
theorem self_pos {s : Int} (hs : -1 ≤ s ∧ s ≤ 1) (h : s ≠ 0) : s * s = 1 := by
  have h1 : s = -1 ∨ s = 0 ∨ s = 1 := by omega
  rcases h1 with rfl | rfl | rfl
  · rfl
  · exact absurd rfl h
  · rfl
theorem ord_t {a b c d : Int} (h : lexlt c d a b = true) : lexmin a b c d = (c, d) ∧ lexmax a b c d = (a, b) := lex_ge (lexlt_no.2 (by rw [lexlt_iff] at h; omega))
theorem ord_f {a b c d : Int} (h : lexlt c d a b = false) : lexmin a b c d = (a, b) ∧ lexmax a b c d = (c, d) := by
  cases k : lexlt a b c d
  · rw [lexlt_no] at h k
    obtain rfl : a = c := by omega
    obtain rfl : b = d := by omega
    exact ⟨(lex_ge (lexlt_no.2 (by omega))).1, (lex_ge (lexlt_no.2 (by omega))).2⟩
  · exact lex_lt k
theorem lexmin_comm (a b c d : Int) : lexmin a b c d = lexmin c d a b := by
  cases h : lexlt c d a b
  · rw [(ord_f h).1, (lex_ge h).1]
  · rw [(ord_t h).1, (lex_lt h).1]

end Go.Proofs.Ytmldgjhecoeldaa
