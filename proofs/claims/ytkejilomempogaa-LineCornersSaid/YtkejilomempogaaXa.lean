/- Two segments that meet have boxes that meet. -/
import Derived.Test.YtkejilomempogaaKit
namespace Go.Proofs.Ytkejilomempogaa
open Go.RowKit Go.Lib Geo

theorem reach_pos {A B C D a b c d m : Int} (h1 : D - C = A - B) (h2 : D * c - C * d = A * b - B * a) (hA : 0 ≤ A) (hB : B ≤ 0) (hC : C ≤ 0) (hD : 0 ≤ D) (hE : 0 < A - B) (ha : a ≤ m) (hb : b ≤ m) (hc : m + 1 ≤ c) (hd : m + 1 ≤ d) : False := by
  have p1 : 0 ≤ D * (c - (m + 1)) := Int.mul_nonneg hD (by omega)
  have p2 : 0 ≤ (-C) * (d - (m + 1)) := Int.mul_nonneg (by omega) (by omega)
  have p3 : 0 ≤ A * (m - b) := Int.mul_nonneg hA (by omega)
  have p4 : 0 ≤ (-B) * (m - a) := Int.mul_nonneg (by omega) (by omega)
  have e : D * (c - (m + 1)) + (-C) * (d - (m + 1)) + A * (m - b) + (-B) * (m - a) = D * c - C * d - (A * b - B * a) + (A - B) * m - (D - C) * m - (D - C) := by grind
  rw [h1, h2] at e
  omega
theorem reach {A B C D a b c d : Int} (h1 : D - C = A - B) (h2 : D * c - C * d = A * b - B * a) (hs1 : (0 ≤ A ∧ B ≤ 0) ∨ (A ≤ 0 ∧ 0 ≤ B)) (hs2 : (0 ≤ C ∧ D ≤ 0) ∨ (C ≤ 0 ∧ 0 ≤ D))
    (hne : ¬ (A = 0 ∧ B = 0 ∧ C = 0 ∧ D = 0)) : min c d ≤ max a b := by
  refine Int.not_lt.1 fun hlt => ?_
  rcases Int.lt_trichotomy (A - B) 0 with hE | hE | hE
  · exact reach_pos (A := -A) (B := -B) (C := -C) (D := -D) (a := a) (b := b) (c := c) (d := d) (m := max a b) (by omega) (by grind) (by omega) (by omega) (by omega) (by omega) (by omega) (by omega) (by omega) (by omega) (by omega)
  · exact hne (by omega)
  · exact reach_pos (m := max a b) h1 h2 (by omega) (by omega) (by omega) (by omega) hE (by omega) (by omega) (by omega) (by omega)
theorem opp_of {x y : Int} (h : x.sign * y.sign ≤ 0) : (0 ≤ x ∧ y ≤ 0) ∨ (x ≤ 0 ∧ 0 ≤ y) := by
  rcases Int.lt_trichotomy x 0 with hx | hx | hx <;> rcases Int.lt_trichotomy y 0 with hy | hy | hy
  · rw [Int.sign_eq_neg_one_of_neg hx, Int.sign_eq_neg_one_of_neg hy] at h; omega
  · omega
  · omega
  · omega
  · omega
  · omega
  · omega
  · omega
  · rw [Int.sign_eq_one_of_pos hx, Int.sign_eq_one_of_pos hy] at h; omega
/-- The boxes of two segments meet. -/
def bnear (a0 a1 b0 b1 c0 c1 d0 d1 : Int) : Prop := min a0 b0 ≤ max c0 d0 ∧ min c0 d0 ≤ max a0 b0 ∧ min a1 b1 ≤ max c1 d1 ∧ min c1 d1 ≤ max a1 b1
theorem bnear_cross {a0 a1 b0 b1 c0 c1 d0 d1 : Int} (hs1 : (0 ≤ cr c0 c1 d0 d1 a0 a1 ∧ cr c0 c1 d0 d1 b0 b1 ≤ 0) ∨ (cr c0 c1 d0 d1 a0 a1 ≤ 0 ∧ 0 ≤ cr c0 c1 d0 d1 b0 b1))
    (hs2 : (0 ≤ cr a0 a1 b0 b1 c0 c1 ∧ cr a0 a1 b0 b1 d0 d1 ≤ 0) ∨ (cr a0 a1 b0 b1 c0 c1 ≤ 0 ∧ 0 ≤ cr a0 a1 b0 b1 d0 d1))
    (hne : ¬ (cr c0 c1 d0 d1 a0 a1 = 0 ∧ cr c0 c1 d0 d1 b0 b1 = 0 ∧ cr a0 a1 b0 b1 c0 c1 = 0 ∧ cr a0 a1 b0 b1 d0 d1 = 0)) : bnear a0 a1 b0 b1 c0 c1 d0 d1 := by
  have h1 : cr a0 a1 b0 b1 d0 d1 - cr a0 a1 b0 b1 c0 c1 = cr c0 c1 d0 d1 a0 a1 - cr c0 c1 d0 d1 b0 b1 := by unfold cr; grind
  have hx : cr a0 a1 b0 b1 d0 d1 * c0 - cr a0 a1 b0 b1 c0 c1 * d0 = cr c0 c1 d0 d1 a0 a1 * b0 - cr c0 c1 d0 d1 b0 b1 * a0 := by unfold cr; grind
  have hy : cr a0 a1 b0 b1 d0 d1 * c1 - cr a0 a1 b0 b1 c0 c1 * d1 = cr c0 c1 d0 d1 a0 a1 * b1 - cr c0 c1 d0 d1 b0 b1 * a1 := by unfold cr; grind
  have n2 : ¬ (cr a0 a1 b0 b1 c0 c1 = 0 ∧ cr a0 a1 b0 b1 d0 d1 = 0 ∧ cr c0 c1 d0 d1 a0 a1 = 0 ∧ cr c0 c1 d0 d1 b0 b1 = 0) := by omega
  exact ⟨reach (by omega) (by omega) hs2 hs1 n2, reach h1 hx hs1 hs2 hne, reach (by omega) (by omega) hs2 hs1 n2, reach h1 hy hs1 hs2 hne⟩
theorem ov_some {ka kb kc kd : Int} (h : ov ka kb kc kd ≠ 0) : ((kc ≤ ka ∧ ka ≤ kd) ∨ (kd ≤ ka ∧ ka ≤ kc)) ∨ ((kc ≤ kb ∧ kb ≤ kd) ∨ (kd ≤ kb ∧ kb ≤ kc)) ∨ ((ka ≤ kc ∧ kc ≤ kb) ∨ (kb ≤ kc ∧ kc ≤ ka)) ∨ ((ka ≤ kd ∧ kd ≤ kb) ∨ (kb ≤ kd ∧ kd ≤ ka)) := by
  unfold ov at h
  split at h
  · omega
  · split at h
    · omega
    · exact absurd rfl h
theorem bnear_of_meet {a0 a1 b0 b1 c0 c1 d0 d1 : Int} (ha : In a0 a1) (hb : In b0 b1) (hc : In c0 c1) (hd : In d0 d1) (h : meetOf a0 a1 b0 b1 c0 c1 d0 d1 ≠ 0) : bnear a0 a1 b0 b1 c0 c1 d0 d1 := by
  rw [meet_of ha hb hc hd] at h
  unfold meetS at h
  split at h
  · rename_i hz
    obtain ⟨z1, z2, z3, z4⟩ := hz
    rw [Int.sign_eq_zero_iff_zero] at z1 z2 z3 z4
    have e := ov_some h
    rw [← box_key hc.sm hd.sm ha.sm z1, ← box_key hc.sm hd.sm hb.sm z2, ← box_key ha.sm hb.sm hc.sm z3, ← box_key ha.sm hb.sm hd.sm z4] at e
    unfold bx bt at e
    unfold bnear
    omega
  · rename_i hz
    split at h
    · rename_i hp
      refine bnear_cross (opp_of hp.1) (opp_of hp.2) (fun hq => hz ?_)
      simp only [Int.sign_eq_zero_iff_zero]
      exact hq
    · exact absurd rfl h

end Go.Proofs.Ytkejilomempogaa
