/- Spots that are points, and other numbers for the same place. -/
import Derived.Test.YtmldgjhecoeldaaLBs
import Derived.Test.YtmldgjhecoeldaaRRy
import Derived.Test.YtmldgjhecoeldaaRaS
namespace Go.Proofs.Ytmldgjhecoeldaa
open Go.RowKit Go.Lib

theorem sign_scale {k : Int} (hk : 0 < k) (c : Int) : (k * c).sign = c.sign := by rw [Int.sign_mul, Int.sign_eq_one_of_pos hk, Int.one_mul]
theorem abS_scale {m y p1 : Int} (hm : 1 ≤ m) : abS (m * y) m p1 = decide (p1 < y) := by
  unfold abS
  rw [← cmpOf_yes hm (by omega : (1 : Int) ≤ 1), show m * y * 1 - p1 * m = m * (y - p1) by grind, sign_scale (by omega)]
  have : 0 < (y - p1).sign ↔ p1 < y := by rw [show (0 < (y - p1).sign) ↔ (-(y - p1)).sign < 0 by rw [Int.sign_neg]; omega, sign_lt]; omega
  exact decide_eq_decide.2 this
theorem mul_b99 {m a : Int} (hm : 1 ≤ m ∧ m ≤ 50) (ha : -99 ≤ a ∧ a ≤ 99) : -(99 * m) ≤ m * a ∧ m * a ≤ 99 * m := by
  have h1 := Int.mul_le_mul_of_nonneg_left ha.2 (by omega : (0 : Int) ≤ m)
  have h2 := Int.mul_le_mul_of_nonneg_left ha.1 (by omega : (0 : Int) ≤ m)
  omega
theorem side_scale {m n a0 a1 b0 b1 p0 p1 : Int} (hm : 1 ≤ m ∧ m ≤ 50) (hn : 1 ≤ n ∧ n ≤ 50) (h0 : -99 ≤ a0 ∧ a0 ≤ 99) (h1 : -99 ≤ a1 ∧ a1 ≤ 99) (h2 : -99 ≤ b0 ∧ b0 ≤ 99) (h3 : -99 ≤ b1 ∧ b1 ≤ 99) (h4 : -99 ≤ p0 ∧ p0 ≤ 99) (h5 : -99 ≤ p1 ∧ p1 ≤ 99) :
    sideS (m * a0) (m * a1) m (n * b0) (n * b1) n p0 p1 1 = sideOf a0 a1 b0 b1 p0 p1 := by
  have k0 := mul_b99 hm h0
  have k1 := mul_b99 hm h1
  have k2 := mul_b99 hn h2
  have k3 := mul_b99 hn h3
  have g1 : sbd (m * a0) (m * a1) m = true := by rw [sbd_iff]; unfold SB; omega
  have g2 : sbd (n * b0) (n * b1) n = true := by rw [sbd_iff]; unfold SB; omega
  have g3 : sbd p0 p1 1 = true := by rw [sbd_iff]; unfold SB; omega
  have f1 : inl 1152921504606846976 a0 a1 = true := by rw [inl_iff]; omega
  have f2 : inl 1152921504606846976 b0 b1 = true := by rw [inl_iff]; omega
  have f3 : inl 1152921504606846976 p0 p1 = true := by rw [inl_iff]; omega
  rw [← sideS_yes _ _ _ _ _ _ _ _ _ g1 g2 g3, ← sideOf_yes _ _ _ _ _ _ f1 f2 f3]
  have hk : 0 < m * m * n := Int.mul_pos (Int.mul_pos (by omega) (by omega)) (by omega)
  rw [← sign_scale hk ((b0 - a0) * (p1 - a1) - (b1 - a1) * (p0 - a0))]
  congr 1
  grind
theorem ray_scale {m n a0 a1 b0 b1 p0 p1 : Int} (hm : 1 ≤ m ∧ m ≤ 50) (hn : 1 ≤ n ∧ n ≤ 50) (h0 : -99 ≤ a0 ∧ a0 ≤ 99) (h1 : -99 ≤ a1 ∧ a1 ≤ 99) (h2 : -99 ≤ b0 ∧ b0 ≤ 99) (h3 : -99 ≤ b1 ∧ b1 ≤ 99) (h4 : -99 ≤ p0 ∧ p0 ≤ 99) (h5 : -99 ≤ p1 ∧ p1 ≤ 99) :
    rayS (m * a0) (m * a1) m (n * b0) (n * b1) n p0 p1 = rayOf a0 a1 b0 b1 p0 p1 := by
  have e1 : upS (m * a0) (m * a1) m (n * b0) (n * b1) n p0 p1 = upP a0 a1 b0 b1 p0 p1 := by
    unfold upS upP
    rw [abS_scale hm.1, abS_scale hn.1, side_scale hm hn h0 h1 h2 h3 h4 h5]
  have e2 : upS (n * b0) (n * b1) n (m * a0) (m * a1) m p0 p1 = upP b0 b1 a0 a1 p0 p1 := by
    unfold upS upP
    rw [abS_scale hm.1, abS_scale hn.1, side_scale hn hm h2 h3 h0 h1 h4 h5]
  unfold rayS rayOf
  rw [e1, e2]
theorem ray_flip (a0 a1 b0 b1 p0 p1 : Int) : rayOf b0 b1 a0 a1 p0 p1 = -rayOf a0 a1 b0 b1 p0 p1 := by
  unfold rayOf
  by_cases h : upP a0 a1 b0 b1 p0 p1 = true
  · have h2 : upP b0 b1 a0 a1 p0 p1 = false := by
      unfold upP at h ⊢
      simp only [Bool.and_eq_true, Bool.not_eq_true', decide_eq_false_iff_not, decide_eq_true_eq] at h
      have : decide (p1 < b1) = true := decide_eq_true h.2.1
      rw [this]; rfl
    rw [if_pos h, if_neg (by rw [h2]; simp), if_pos h]
  · rw [if_neg h]
    by_cases k : upP b0 b1 a0 a1 p0 p1 = true
    · rw [if_pos k, if_pos k, if_neg h]; rfl
    · rw [if_neg k, if_neg k, if_neg h]; rfl
theorem tmod_99 (x : Int) : -99 ≤ x.tmod 100 ∧ x.tmod 100 ≤ 99 := by have := tmod_abs x 100 (by omega); omega

end Go.Proofs.Ytmldgjhecoeldaa
