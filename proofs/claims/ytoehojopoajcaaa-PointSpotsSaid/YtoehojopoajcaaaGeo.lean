/- The plain geometry of point: sides, boxes, the order on a line, and what two segments have in common. -/
import Derived.Test.YtoehojopoajcaaaRows
namespace Go.Proofs.Ytoehojopoajcaaa.Geo

/-- The cross product that says the side. -/
def cr (a b c d e f : Int) : Int := (c - a) * (f - b) - (d - b) * (e - a)

theorem mul_pos' {a b : Int} (h : 0 < a) (k : 0 < b) : 0 < a * b := Int.mul_pos h k
theorem mul_nn {a b : Int} (h : 0 ≤ a) (k : 0 ≤ b) : 0 ≤ a * b := Int.mul_nonneg h k

/-- A number lies between two others. -/
def bt (x a b : Int) : Prop := (a ≤ x ∧ x ≤ b) ∨ (b ≤ x ∧ x ≤ a)
instance (x a b : Int) : Decidable (bt x a b) := by unfold bt; exact inferInstance
/-- A point lies in the box of two others. -/
def bx (a b c d e f : Int) : Prop := bt e a c ∧ bt f b d
instance (a b c d e f : Int) : Decidable (bx a b c d e f) := by unfold bx; exact inferInstance

/-- A product of two, a step from 0 to 1 of the way. -/
theorem between {dx dy t u : Int} (h : dx * u = dy * t) (hd : 0 < dx) (h0 : 0 ≤ t) (h1 : t ≤ dx) : (0 ≤ dy → 0 ≤ u ∧ u ≤ dy) ∧ (dy ≤ 0 → dy ≤ u ∧ u ≤ 0) := by
  constructor
  · intro k
    have e1 : 0 ≤ dy * t := mul_nn k h0
    have e2 : 0 ≤ dy * (dx - t) := mul_nn k (by omega)
    rw [Int.mul_sub] at e2
    constructor
    · by_cases hu : 0 ≤ u
      · exact hu
      · have := mul_pos' hd (show 0 < -u by omega)
        rw [Int.mul_neg] at this; omega
    · by_cases hu : u ≤ dy
      · exact hu
      · have := mul_pos' hd (show 0 < u - dy by omega)
        rw [Int.mul_sub, Int.mul_comm dx dy] at this; omega
  · intro k
    have e1 : 0 ≤ (-dy) * t := mul_nn (by omega) h0
    have e2 : 0 ≤ (-dy) * (dx - t) := mul_nn (by omega) (by omega)
    rw [Int.mul_sub] at e2
    rw [Int.neg_mul] at e1 e2
    rw [Int.neg_mul] at e2
    constructor
    · by_cases hu : dy ≤ u
      · exact hu
      · have := mul_pos' hd (show 0 < dy - u by omega)
        rw [Int.mul_sub, Int.mul_comm dx dy] at this; omega
    · by_cases hu : u ≤ 0
      · exact hu
      · have := mul_pos' hd (show 0 < u by omega)
        omega

/-- The order by X, and then by Y. -/
def le2 (a b c d : Int) : Prop := a < c ∨ (a = c ∧ b ≤ d)
instance (a b c d : Int) : Decidable (le2 a b c d) := by unfold le2; exact inferInstance

/-- On a line, lying between in the order is lying in the box. -/
theorem box_of_order1 {a b c d e f : Int} (h : cr a b c d e f = 0) (h1 : le2 a b e f) (h2 : le2 e f c d) : bx a b c d e f := by
  unfold le2 at h1 h2
  have hx : a ≤ e ∧ e ≤ c := by omega
  refine ⟨Or.inl hx, ?_⟩
  by_cases hac : a = c
  · have : b ≤ f ∧ f ≤ d := by omega
    exact Or.inl this
  · have h' : (c - a) * (f - b) = (d - b) * (e - a) := by unfold cr at h; omega
    have := between h' (by omega) (show 0 ≤ e - a by omega) (by omega)
    unfold bt
    by_cases k : 0 ≤ d - b
    · have := this.1 k; omega
    · have := this.2 (by omega); omega

theorem order_of_box1 {a b c d e f : Int} (h : cr a b c d e f = 0) (hac : le2 a b c d) (k : bx a b c d e f) : le2 a b e f ∧ le2 e f c d := by
  unfold bx bt at k
  unfold le2 at hac ⊢
  by_cases e1 : a = c
  · subst e1; omega
  · have hlt : a < c := by omega
    have h' : (c - a) * (f - b) = (d - b) * (e - a) := by unfold cr at h; omega
    refine ⟨?_, ?_⟩
    · by_cases e2 : a = e
      · subst e2
        rw [Int.sub_self, Int.mul_zero] at h'
        have : f - b = 0 := by
          rcases Int.mul_eq_zero.1 h' with h | h
          · omega
          · exact h
        omega
      · omega
    · by_cases e2 : e = c
      · subst e2
        rw [Int.mul_comm (d - b)] at h'
        have := Int.eq_of_mul_eq_mul_left (show e - a ≠ 0 by omega) h'
        omega
      · omega

theorem bx_swap {a b c d e f : Int} : bx a b c d e f ↔ bx c d a b e f := by unfold bx bt; omega
theorem cr_swap (a b c d e f : Int) : cr c d a b e f = -cr a b c d e f := by unfold cr; grind

/-- On a line: between in the order, whichever comes first, is in the box. -/
theorem box_iff {a b c d e f : Int} (h : cr a b c d e f = 0) : bx a b c d e f ↔ (le2 a b e f ∧ le2 e f c d) ∨ (le2 c d e f ∧ le2 e f a b) := by
  have h2 : cr c d a b e f = 0 := by rw [cr_swap, h]; rfl
  constructor
  · intro k
    by_cases o : le2 a b c d
    · exact Or.inl (order_of_box1 h o k)
    · exact Or.inr (order_of_box1 h2 (by unfold le2 at o ⊢; omega) (bx_swap.1 k))
  · rintro (⟨h3, h4⟩ | ⟨h3, h4⟩)
    · exact box_of_order1 h h3 h4
    · exact bx_swap.2 (box_of_order1 h2 h3 h4)

theorem cr_turn (a b c d e f : Int) : cr (-b) a (-d) c (-f) e = cr a b c d e f := by unfold cr; grind
theorem cr_move (a b c d e f x y : Int) : cr (a + x) (b + y) (c + x) (d + y) (e + x) (f + y) = cr a b c d e f := by unfold cr; grind
theorem cr_next (a b c d e f : Int) : cr c d e f a b = cr a b c d e f := by unfold cr; grind
theorem cr_two (a b c d e f : Int) : cr (2 * a) (2 * b) (2 * c) (2 * d) (2 * e) (2 * f) = 4 * cr a b c d e f := by unfold cr; grind
theorem bx_turn {a b c d e f : Int} : bx (-b) a (-d) c (-f) e ↔ bx a b c d e f := by unfold bx bt; omega
theorem bx_move {a b c d e f x y : Int} : bx (a + x) (b + y) (c + x) (d + y) (e + x) (f + y) ↔ bx a b c d e f := by unfold bx bt; omega
theorem bx_two {a b c d e f : Int} : bx (2 * a) (2 * b) (2 * c) (2 * d) (2 * e) (2 * f) ↔ bx a b c d e f := by unfold bx bt; omega

end Go.Proofs.Ytoehojopoajcaaa.Geo
