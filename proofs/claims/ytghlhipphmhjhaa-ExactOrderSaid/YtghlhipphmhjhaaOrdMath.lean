/- Cmp is an order of right ratios: plain facts on integers. -/
import Derived.Test.YtghlhipphmhjhaaFuns
namespace Go.Proofs.Ytghlhipphmhjhaa

theorem cmp_right {n d m e : Int} (h : 1 ≤ d) (k : 1 ≤ e) : cmpOf n d m e = (n * e - m * d).sign := (cmpOf_yes h k).symm

theorem cmp_flip {n d m e : Int} (h : 1 ≤ d) (k : 1 ≤ e) : cmpOf m e n d = -cmpOf n d m e := by
  rw [cmp_right h k, cmp_right k h, ← Int.sign_neg]; congr 1; omega
theorem cmp_self {n d : Int} (h : 1 ≤ d) : cmpOf n d n d = 0 := by rw [cmp_right h h, Int.sub_self]; rfl
theorem cmp_whole (n m : Int) : cmpOf n 1 m 1 = (n - m).sign := by rw [cmp_right (by omega) (by omega)]; congr 1; omega
theorem cmp_not {n d m e : Int} (h : d < 1) : cmpOf n d m e = 0 := (cmpOf_no1 h).symm

theorem sign_pos_mul {a x : Int} (h : 0 < a) : (a * x).sign = x.sign := by rw [Int.sign_mul, Int.sign_eq_one_of_pos h, Int.one_mul]

/-- Three right ratios, and what Cmp says of each two of them. -/
theorem cmp_three {n0 d0 n1 d1 n2 d2 : Int} (h0 : 1 ≤ d0) (h1 : 1 ≤ d1) (h2 : 1 ≤ d2) (a b c : Int) (ha : a = cmpOf n0 d0 n1 d1) (hb : b = cmpOf n1 d1 n2 d2) (hc : c = cmpOf n0 d0 n2 d2) :
    (a = 0 ∧ b = 0 ∧ c = 0) ∨ (a = 0 ∧ b = 1 ∧ c = 1) ∨ (a = 0 ∧ b = -1 ∧ c = -1) ∨ (a = 1 ∧ b = 1 ∧ c = 1) ∨ (a = 1 ∧ b = 0) ∨ (a = 1 ∧ b = -1) ∨ (a = -1 ∧ b = -1 ∧ c = -1) ∨ (a = -1 ∧ b = 0) ∨ (a = -1 ∧ b = 1) := by
  rw [cmp_right h0 h1] at ha
  rw [cmp_right h1 h2] at hb
  rw [cmp_right h0 h2] at hc
  have key : d1 * (n0 * d2 - n2 * d0) = d2 * (n0 * d1 - n1 * d0) + d0 * (n1 * d2 - n2 * d1) := by
    simp only [Int.mul_sub]
    rw [show d1 * (n0 * d2) = d2 * (n0 * d1) by ac_rfl, show d1 * (n2 * d0) = d0 * (n2 * d1) by ac_rfl, show d2 * (n1 * d0) = d0 * (n1 * d2) by ac_rfl]
    omega
  rw [← sign_pos_mul (show 0 < d1 by omega), key] at hc
  rw [← sign_pos_mul (show 0 < d2 by omega)] at ha
  rw [← sign_pos_mul (show 0 < d0 by omega)] at hb
  generalize d2 * (n0 * d1 - n1 * d0) = X at *
  generalize d0 * (n1 * d2 - n2 * d1) = Y at *
  clear key
  rcases sign_is X with ⟨x1, y1⟩ | ⟨x1, y1⟩ | ⟨x1, y1⟩ <;> rcases sign_is Y with ⟨x2, y2⟩ | ⟨x2, y2⟩ | ⟨x2, y2⟩ <;> rcases sign_is (X + Y) with ⟨x3, y3⟩ | ⟨x3, y3⟩ | ⟨x3, y3⟩ <;>
    rw [y1] at ha <;> rw [y2] at hb <;> rw [y3] at hc <;> subst ha <;> subst hb <;> subst hc <;> first | (exfalso; omega) | simp

end Go.Proofs.Ytghlhipphmhjhaa
