/- Within: it grows with n; for 0 it is On; for -1 it is false; and true for what is far enough. -/
import Derived.Test.YtkejilomempogaaXm
namespace Go.Proofs.Ytkejilomempogaa
open Go.RowKit Go.Lib Geo

theorem sq_nn (x : Int) : 0 ≤ x * x := by
  rcases Int.le_total 0 x with h | h
  · exact Int.mul_nonneg h h
  · have := Int.mul_nonneg (show 0 ≤ -x by omega) (show 0 ≤ -x by omega)
    rw [Int.neg_mul_neg] at this; exact this
theorem sq_zero {x y : Int} (h : x * x + y * y ≤ 0) : x = 0 ∧ y = 0 := by
  have h1 := sq_nn x
  have h2 := sq_nn y
  have e1 : x * x = 0 := by omega
  have e2 : y * y = 0 := by omega
  exact ⟨(Int.mul_eq_zero.1 e1).elim id id, (Int.mul_eq_zero.1 e2).elim id id⟩
theorem sign_le (x : Int) : x.sign ≤ 0 ↔ x ≤ 0 := by
  rcases Int.lt_trichotomy x 0 with h | h | h
  · rw [Int.sign_eq_neg_one_of_neg h]; omega
  · subst h; simp
  · rw [Int.sign_eq_one_of_pos h]; omega
theorem segW_mono {a0 a1 b0 b1 p0 p1 n m : Int} (h : n ≤ m) (hs : segW a0 a1 b0 b1 p0 p1 n = true) : segW a0 a1 b0 b1 p0 p1 m = true := by
  unfold segW at *
  split at hs
  · rename_i h1; rw [if_pos h1]; exact decide_eq_true (by have := of_decide_eq_true hs; omega)
  · rename_i h1; rw [if_neg h1]
    split at hs
    · rename_i h2; rw [if_pos h2]; exact decide_eq_true (by have := of_decide_eq_true hs; omega)
    · rename_i h2; rw [if_neg h2]
      have h3 := of_decide_eq_true hs
      rw [sign_le] at h3
      refine decide_eq_true ?_
      rw [sign_le]
      have hL : 0 ≤ (b0 - a0) * (b0 - a0) + (b1 - a1) * (b1 - a1) := Int.add_nonneg (sq_nn _) (sq_nn _)
      generalize (b0 - a0) * (b0 - a0) + (b1 - a1) * (b1 - a1) = L at *
      have := Int.mul_le_mul_of_nonneg_right h hL
      omega
theorem segW_neg {a0 a1 b0 b1 p0 p1 : Int} : segW a0 a1 b0 b1 p0 p1 (-1) = false := by
  unfold segW
  split
  · exact decide_eq_false (by have h1 := sq_nn (p0 - a0); have h2 := sq_nn (p1 - a1); omega)
  · rename_i h1
    split
    · exact decide_eq_false (by have h1 := sq_nn (p0 - b0); have h2 := sq_nn (p1 - b1); omega)
    · refine decide_eq_false ?_
      rw [sign_le]
      intro h3
      have h4 := sq_nn (2 * ((b0 - a0) * (p1 - a1) - (b1 - a1) * (p0 - a0)))
      obtain ⟨e0, e1⟩ := sq_zero (x := b0 - a0) (y := b1 - a1) (by omega)
      rw [e0, e1] at h1
      simp at h1
theorem bt_of_sign {L d f u x y : Int} (hL : 0 < L) (hd : 0 < d) (hf : f < 0) (h1 : d * u = x * L) (h2 : f * u = y * L) : (0 ≤ u → 0 ≤ x ∧ y ≤ 0) ∧ (u ≤ 0 → x ≤ 0 ∧ 0 ≤ y) := by
  refine ⟨fun hu => ?_, fun hu => ?_⟩
  · have p1 := Int.mul_nonneg (show 0 ≤ d by omega) hu
    have p2 := Int.mul_nonneg (show 0 ≤ -f by omega) hu
    rw [Int.neg_mul] at p2
    refine ⟨Int.not_lt.1 fun h => ?_, Int.not_lt.1 fun h => ?_⟩
    · have := Int.mul_neg_of_neg_of_pos h hL; omega
    · have := Int.mul_pos h hL; omega
  · have p1 := Int.mul_nonneg (show 0 ≤ d by omega) (show 0 ≤ -u by omega)
    have p2 := Int.mul_nonneg (show 0 ≤ -f by omega) (show 0 ≤ -u by omega)
    rw [Int.mul_neg] at p1
    rw [Int.neg_mul_neg] at p2
    refine ⟨Int.not_lt.1 fun h => ?_, Int.not_lt.1 fun h => ?_⟩
    · have := Int.mul_pos h hL; omega
    · have := Int.mul_neg_of_neg_of_pos h hL; omega
theorem mul_bt {a b p : Int} (h : bt p a b) : 0 ≤ (b - a) * (p - a) ∧ (b - a) * (p - b) ≤ 0 ∧ ((b - a) * (p - a) = 0 → p = a) ∧ ((b - a) * (p - b) = 0 → p = b) := by
  rcases h with ⟨h1, h2⟩ | ⟨h1, h2⟩
  · have p1 := Int.mul_nonneg (show 0 ≤ b - a by omega) (show 0 ≤ p - a by omega)
    have p2 := Int.mul_nonneg (show 0 ≤ b - a by omega) (show 0 ≤ b - p by omega)
    have e : (b - a) * (p - b) = -((b - a) * (b - p)) := by grind
    refine ⟨p1, by omega, fun hz => ?_, fun hz => ?_⟩ <;> rcases Int.mul_eq_zero.1 hz with hz | hz <;> omega
  · have p1 := Int.mul_nonneg (show 0 ≤ a - b by omega) (show 0 ≤ a - p by omega)
    have p2 := Int.mul_nonneg (show 0 ≤ a - b by omega) (show 0 ≤ p - b by omega)
    have e1 : (b - a) * (p - a) = (a - b) * (a - p) := by grind
    have e : (b - a) * (p - b) = -((a - b) * (p - b)) := by grind
    refine ⟨by omega, by omega, fun hz => ?_, fun hz => ?_⟩ <;> rcases Int.mul_eq_zero.1 hz with hz | hz <;> omega
theorem segW_on (a0 a1 b0 b1 p0 p1 : Int) : segW a0 a1 b0 b1 p0 p1 0 = on a0 a1 b0 b1 p0 p1 := by
  rw [Bool.eq_iff_iff, on_mem]
  unfold segW
  split
  · rename_i h1
    rw [decide_eq_true_iff]
    constructor
    · intro h
      obtain ⟨e0, e1⟩ := sq_zero (x := p0 - a0) (y := p1 - a1) (by omega)
      obtain rfl : p0 = a0 := by omega
      obtain rfl : p1 = a1 := by omega
      exact ⟨by unfold cr; grind, by unfold bx bt; omega⟩
    · rintro ⟨-, k0, k1⟩
      have m0 := mul_bt k0
      have m1 := mul_bt k1
      obtain rfl := m0.2.2.1 (by omega)
      obtain rfl := m1.2.2.1 (by omega)
      simp
  · rename_i h1
    split
    · rename_i h2
      rw [decide_eq_true_iff]
      constructor
      · intro h
        obtain ⟨e0, e1⟩ := sq_zero (x := p0 - b0) (y := p1 - b1) (by omega)
        obtain rfl : p0 = b0 := by omega
        obtain rfl : p1 = b1 := by omega
        exact ⟨by unfold cr; grind, by unfold bx bt; omega⟩
      · rintro ⟨-, k0, k1⟩
        have m0 := mul_bt k0
        have m1 := mul_bt k1
        obtain rfl := m0.2.2.2 (by omega)
        obtain rfl := m1.2.2.2 (by omega)
        simp
    · rename_i h2
      rw [decide_eq_true_iff, sign_le]
      have ec : cr a0 a1 b0 b1 p0 p1 = (b0 - a0) * (p1 - a1) - (b1 - a1) * (p0 - a0) := by unfold cr; rfl
      constructor
      · intro h
        have hz : cr a0 a1 b0 b1 p0 p1 = 0 := by
          rw [ec]
          have := (sq_zero (x := 2 * ((b0 - a0) * (p1 - a1) - (b1 - a1) * (p0 - a0))) (y := 0) (by omega)).1
          omega
        refine ⟨hz, ?_⟩
        rw [ec] at hz
        have hL : 0 < (b0 - a0) * (b0 - a0) + (b1 - a1) * (b1 - a1) := by
          refine Int.not_le.1 fun hle => h1 ?_
          obtain ⟨e0, e1⟩ := sq_zero hle
          rw [e0, e1]; simp
        have x0 : ((b0 - a0) * (p0 - a0) + (b1 - a1) * (p1 - a1)) * (b0 - a0) = (p0 - a0) * ((b0 - a0) * (b0 - a0) + (b1 - a1) * (b1 - a1)) := by grind
        have x1 : ((b0 - a0) * (p0 - a0) + (b1 - a1) * (p1 - a1)) * (b1 - a1) = (p1 - a1) * ((b0 - a0) * (b0 - a0) + (b1 - a1) * (b1 - a1)) := by grind
        have y0 : ((b0 - a0) * (p0 - b0) + (b1 - a1) * (p1 - b1)) * (b0 - a0) = (p0 - b0) * ((b0 - a0) * (b0 - a0) + (b1 - a1) * (b1 - a1)) := by grind
        have y1 : ((b0 - a0) * (p0 - b0) + (b1 - a1) * (p1 - b1)) * (b1 - a1) = (p1 - b1) * ((b0 - a0) * (b0 - a0) + (b1 - a1) * (b1 - a1)) := by grind
        have r0 := bt_of_sign hL (by omega) (by omega) x0 y0
        have r1 := bt_of_sign hL (by omega) (by omega) x1 y1
        unfold bx bt
        rcases Int.le_total 0 (b0 - a0) with u | u <;> rcases Int.le_total 0 (b1 - a1) with t | t
        · have := r0.1 u; have := r1.1 t; omega
        · have := r0.1 u; have := r1.2 t; omega
        · have := r0.2 u; have := r1.1 t; omega
        · have := r0.2 u; have := r1.2 t; omega
      · rintro ⟨hz, -⟩
        rw [ec] at hz
        rw [hz]; simp
theorem sq_le {x : Int} (h : -26 ≤ x ∧ x ≤ 26) : x * x ≤ 676 := by
  have := (mul_le64 (A := 26) (B := 26) h h).2
  omega
theorem segW_far {a0 a1 b0 b1 p0 p1 : Int} (ha : (0 ≤ a0 ∧ a0 ≤ 12) ∧ (0 ≤ a1 ∧ a1 ≤ 12)) (hb : (0 ≤ b0 ∧ b0 ≤ 12) ∧ (0 ≤ b1 ∧ b1 ≤ 12)) (hp : (-14 ≤ p0 ∧ p0 ≤ 14) ∧ (-14 ≤ p1 ∧ p1 ≤ 14)) : segW a0 a1 b0 b1 p0 p1 7200 = true := by
  have e1 := sq_le (x := p0 - a0) (by omega)
  have e2 := sq_le (x := p1 - a1) (by omega)
  have e3 := sq_le (x := p0 - b0) (by omega)
  have e4 := sq_le (x := p1 - b1) (by omega)
  unfold segW
  split
  · exact decide_eq_true (by omega)
  · split
    · exact decide_eq_true (by omega)
    · refine decide_eq_true ?_
      rw [sign_le]
      have hL : 0 ≤ (b0 - a0) * (b0 - a0) + (b1 - a1) * (b1 - a1) := Int.add_nonneg (sq_nn _) (sq_nn _)
      have lag : (2 * ((b0 - a0) * (p1 - a1) - (b1 - a1) * (p0 - a0))) * (2 * ((b0 - a0) * (p1 - a1) - (b1 - a1) * (p0 - a0))) = 4 * ((p0 - a0) * (p0 - a0) + (p1 - a1) * (p1 - a1)) * ((b0 - a0) * (b0 - a0) + (b1 - a1) * (b1 - a1)) - 4 * (((b0 - a0) * (p0 - a0) + (b1 - a1) * (p1 - a1)) * ((b0 - a0) * (p0 - a0) + (b1 - a1) * (p1 - a1))) := by grind
      have hd := sq_nn ((b0 - a0) * (p0 - a0) + (b1 - a1) * (p1 - a1))
      have hm := Int.mul_le_mul_of_nonneg_right (show 4 * ((p0 - a0) * (p0 - a0) + (p1 - a1) * (p1 - a1)) ≤ 7200 by omega) hL
      omega

end Go.Proofs.Ytkejilomempogaa
