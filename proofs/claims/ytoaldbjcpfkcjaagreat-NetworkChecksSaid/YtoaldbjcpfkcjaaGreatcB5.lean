/- The plain geometry of point: sides, boxes, the order on a line, and what two segments have in common. The plain geometry of point, on: what two segments have in common does not hang on how they are written. Side, On and Meet in plain geometry: they do not hang on how things are turned, moved or written. A turn and a translation, in plain geometry. Whole points that two segments have in common, and how often they meet. Rays: how a segment passes a point, what a quarter of a turn changes of it, and sums along a ring. Sums. Rings between a lower and an upper line: their areas, rays and points. Which points are on a ring between two lines, and in it. Two segments that meet have boxes that meet. A ring between two lines does not meet itself. Rings that begin with another point, and rings in the other direction. The theorem of Pick for rings between two lines. -/
import Derived.Test.YtoaldbjcpfkcjaaGreatRows
import Derived.Test.YtoaldbjcpfkcjaaGreatcB1
namespace Go.Proofs.YtoaldbjcpfkcjaaGreat.Geo

/-- The cross product that says the side. -/
def cr (a b c d e f : Int) : Int := (c - a) * (f - b) - (d - b) * (e - a)

theorem mul_pos' {a b : Int} (h : 0 < a) (k : 0 < b) : 0 < a * b := Int.mul_pos h k
theorem mul_nn {a b : Int} (h : 0 ≤ a) (k : 0 ≤ b) : 0 ≤ a * b := Int.mul_nonneg h k

/-- A number lies between two others. -/
def bt (x a b : Int) : Prop := (a ≤ x ∧ x ≤ b) ∨ (b ≤ x ∧ x ≤ a)
instance (x a b : Int) : Decidable (bt x a b) := by unfold bt; exact inferInstance
/-- A point lies in the box of two others. -/
def bx (a b c d e f : Int) : Prop := bt e a c ∧ bt f b d
instance (a b c d e f : Int) : Decidable (bx a b c d e f) := by unfold bx; exact inferInstance

/-- A product of two, a step from 0 to 1 of the way. -/
theorem between {dx dy t u : Int} (h : dx * u = dy * t) (hd : 0 < dx) (h0 : 0 ≤ t) (h1 : t ≤ dx) : (0 ≤ dy → 0 ≤ u ∧ u ≤ dy) ∧ (dy ≤ 0 → dy ≤ u ∧ u ≤ 0) := by
 constructor
 ·intro k
  have e1 : 0 ≤ dy * t := mul_nn k h0
  have e2 : 0 ≤ dy * (dx - t) := mul_nn k (by omega)
  rw [Int.mul_sub] at e2
  constructor
  ·by_cases hu : 0 ≤ u
   ·exact hu
   ·have := mul_pos' hd (show 0 < -u by omega)
    rw [Int.mul_neg] at this; omega
  ·by_cases hu : u ≤ dy
   ·exact hu
   ·have := mul_pos' hd (show 0 < u - dy by omega)
    rw [Int.mul_sub, Int.mul_comm dx dy] at this; omega
 ·intro k
  have e1 : 0 ≤ (-dy) * t := mul_nn (by omega) h0
  have e2 : 0 ≤ (-dy) * (dx - t) := mul_nn (by omega) (by omega)
  rw [Int.mul_sub] at e2
  rw [Int.neg_mul] at e1 e2
  rw [Int.neg_mul] at e2
  constructor
  ·by_cases hu : dy ≤ u
   ·exact hu
   ·have := mul_pos' hd (show 0 < dy - u by omega)
    rw [Int.mul_sub, Int.mul_comm dx dy] at this; omega
  ·by_cases hu : u ≤ 0
   ·exact hu
   ·have := mul_pos' hd (show 0 < u by omega)
    omega

/-- The order by X, and then by Y. -/
def le2 (a b c d : Int) : Prop := a < c ∨ (a = c ∧ b ≤ d)
instance (a b c d : Int) : Decidable (le2 a b c d) := by unfold le2; exact inferInstance

/-- On a line, lying between in the order is lying in the box. -/
theorem box_of_order1 {a b c d e f : Int} (h : cr a b c d e f = 0) (h1 : le2 a b e f) (h2 : le2 e f c d) : bx a b c d e f := by
 unfold le2 at h1 h2
 have hx : a ≤ e ∧ e ≤ c := by omega
 refine ⟨Or.inl hx, ?_⟩
 by_cases hac : a = c
 ·have : b ≤ f ∧ f ≤ d := by omega
  exact Or.inl this
 ·have h' : (c - a) * (f - b) = (d - b) * (e - a) := by unfold cr at h; omega
  have := between h' (by omega) (show 0 ≤ e - a by omega) (by omega)
  unfold bt
  by_cases k : 0 ≤ d - b
  ·have := this.1 k; omega
  ·have := this.2 (by omega); omega

theorem order_of_box1 {a b c d e f : Int} (h : cr a b c d e f = 0) (hac : le2 a b c d) (k : bx a b c d e f) : le2 a b e f ∧ le2 e f c d := by
 unfold bx bt at k
 unfold le2 at hac ⊢
 by_cases e1 : a = c
 ·subst e1; omega
 ·have hlt : a < c := by omega
  have h' : (c - a) * (f - b) = (d - b) * (e - a) := by unfold cr at h; omega
  refine ⟨?_, ?_⟩
  ·by_cases e2 : a = e
   ·subst e2
    rw [Int.sub_self, Int.mul_zero] at h'
    have : f - b = 0 := by
     rcases Int.mul_eq_zero.1 h' with h | h
     ·omega
     ·exact h
    omega
   ·omega
  ·by_cases e2 : e = c
   ·subst e2
    rw [Int.mul_comm (d - b)] at h'
    have := Int.eq_of_mul_eq_mul_left (show e - a ≠ 0 by omega) h'
    omega
   ·omega

theorem bx_swap {a b c d e f : Int} : bx a b c d e f ↔ bx c d a b e f := by unfold bx bt; omega
theorem cr_swap (a b c d e f : Int) : cr c d a b e f = -cr a b c d e f := by unfold cr; grind

/-- On a line: between in the order, whichever comes first, is in the box. -/
theorem box_iff {a b c d e f : Int} (h : cr a b c d e f = 0) : bx a b c d e f ↔ (le2 a b e f ∧ le2 e f c d) ∨ (le2 c d e f ∧ le2 e f a b) := by
 have h2 : cr c d a b e f = 0 := by rw [cr_swap, h]; rfl
 constructor
 ·intro k
  by_cases o : le2 a b c d
  ·exact Or.inl (order_of_box1 h o k)
  ·exact Or.inr (order_of_box1 h2 (by unfold le2 at o ⊢; omega) (bx_swap.1 k))
 ·rintro (⟨h3, h4⟩ | ⟨h3, h4⟩)
  ·exact box_of_order1 h h3 h4
  ·exact bx_swap.2 (box_of_order1 h2 h3 h4)

end Go.Proofs.YtoaldbjcpfkcjaaGreat.Geo

namespace Go.Proofs.YtoaldbjcpfkcjaaGreat.Geo

/-- Three vectors on a line. -/
theorem par {u0 u1 v0 v1 w0 w1 : Int} (h : u0 * v1 = u1 * v0) (k : u0 * w1 = u1 * w0) (hu : u0 ≠ 0 ∨ u1 ≠ 0) : v0 * w1 = v1 * w0 := by
 rcases hu with hu | hu
 ·have : u0 * (v0 * w1 - v1 * w0) = 0 := by grind
  rcases Int.mul_eq_zero.1 this with h | h
  ·exact absurd h hu
  ·omega
 ·have : u1 * (v0 * w1 - v1 * w0) = 0 := by grind
  rcases Int.mul_eq_zero.1 this with h | h
  ·exact absurd h hu
  ·omega

/-- A point that two segments have in common: each one's ends lie on different sides of the other one. -/
theorem opp {a0 a1 b0 b1 p0 p1 c0 c1 d0 d1 : Int} (h : cr a0 a1 b0 b1 p0 p1 = 0) (k : bx a0 a1 b0 b1 p0 p1) (hp : cr c0 c1 d0 d1 p0 p1 = 0) : ¬ (0 < cr c0 c1 d0 d1 a0 a1 ∧ 0 < cr c0 c1 d0 d1 b0 b1) ∧ ¬ (cr c0 c1 d0 d1 a0 a1 < 0 ∧ cr c0 c1 d0 d1 b0 b1 < 0) := by
 have i0 : (b0 - a0 - (p0 - a0)) * cr c0 c1 d0 d1 a0 a1 + (p0 - a0) * cr c0 c1 d0 d1 b0 b1 = 0 := by unfold cr at *; grind
 have i1 : (b1 - a1 - (p1 - a1)) * cr c0 c1 d0 d1 a0 a1 + (p1 - a1) * cr c0 c1 d0 d1 b0 b1 = 0 := by unfold cr at *; grind
 have same : b0 = a0 → b1 = a1 → cr c0 c1 d0 d1 a0 a1 = 0 := by
  intro e f
  have e0 : p0 = a0 := by unfold bx bt at k; omega
  have e1 : p1 = a1 := by unfold bx bt at k; omega
  rw [← e0, ← e1]; exact hp
 generalize cr c0 c1 d0 d1 a0 a1 = fa at *
 generalize cr c0 c1 d0 d1 b0 b1 = fb at *
 have key : ∀ s t : Int, (0 ≤ s ∧ 0 ≤ t) ∨ (s ≤ 0 ∧ t ≤ 0) → s * fa + t * fb = 0 → (s ≠ 0 ∨ t ≠ 0) → ¬ (0 < fa ∧ 0 < fb) ∧ ¬ (fa < 0 ∧ fb < 0) := by
  intro s t hst he hne
  have pos : ∀ s t fa fb : Int, 0 ≤ s → 0 ≤ t → s * fa + t * fb = 0 → (s ≠ 0 ∨ t ≠ 0) → ¬ (0 < fa ∧ 0 < fb) := by
   intro s t fa fb hs ht he hne ⟨h1, h2⟩
   have e1 := mul_nn hs (Int.le_of_lt h1)
   have e2 := mul_nn ht (Int.le_of_lt h2)
   rcases hne with h | h
   ·have := mul_pos' (show 0 < s by omega) h1; omega
   ·have := mul_pos' (show 0 < t by omega) h2; omega
  rcases hst with ⟨h1, h2⟩ | ⟨h1, h2⟩
  ·refine ⟨pos s t fa fb h1 h2 he hne, fun ⟨h3, h4⟩ => pos s t (-fa) (-fb) h1 h2 (by rw [Int.mul_neg, Int.mul_neg]; omega) hne ⟨by omega, by omega⟩⟩
  ·refine ⟨fun ⟨h3, h4⟩ => pos (-s) (-t) fa fb (by omega) (by omega) (by rw [Int.neg_mul, Int.neg_mul]; omega) (by omega) ⟨h3, h4⟩, fun ⟨h3, h4⟩ => pos (-s) (-t) (-fa) (-fb) (by omega) (by omega) (by rw [Int.neg_mul_neg, Int.neg_mul_neg]; omega) (by omega) ⟨by omega, by omega⟩⟩
 unfold bx bt at k
 by_cases e0 : b0 = a0
 ·by_cases e1 : b1 = a1
  ·have := same e0 e1; omega
  ·exact key _ _ (by omega) i1 (by omega)
 ·exact key _ _ (by omega) i0 (by omega)

/-- Two points that two segments have in common: all lies on one line. -/
theorem flat {a0 a1 b0 b1 c0 c1 d0 d1 p0 p1 q0 q1 : Int} (hne : ¬ (p0 = q0 ∧ p1 = q1)) (h1 : cr a0 a1 b0 b1 p0 p1 = 0) (h2 : cr a0 a1 b0 b1 q0 q1 = 0) (k1 : bx a0 a1 b0 b1 p0 p1) (k2 : bx a0 a1 b0 b1 q0 q1) (h3 : cr c0 c1 d0 d1 p0 p1 = 0) (h4 : cr c0 c1 d0 d1 q0 q1 = 0) :
  cr c0 c1 d0 d1 a0 a1 = 0 ∧ cr c0 c1 d0 d1 b0 b1 = 0 := by
 have hab : b0 - a0 ≠ 0 ∨ b1 - a1 ≠ 0 := by unfold bx bt at k1 k2; omega
 have e1 : (b0 - a0) * (q1 - p1) = (b1 - a1) * (q0 - p0) := by unfold cr at *; grind
 have e2 : (b0 - a0) * (p1 - a1) = (b1 - a1) * (p0 - a0) := by unfold cr at *; grind
 have e3 : (b0 - a0) * (p1 - b1) = (b1 - a1) * (p0 - b0) := by unfold cr at *; grind
 have e4 : (q0 - p0) * (d1 - c1) = (q1 - p1) * (d0 - c0) := by unfold cr at *; grind
 have f1 := par e1 e2 hab
 have f2 := par e1 e3 hab
 have hu : q0 - p0 ≠ 0 ∨ q1 - p1 ≠ 0 := by omega
 have g1 := par e4 f1 hu
 have g2 := par e4 f2 hu
 constructor
 ·unfold cr at *; grind
 ·unfold cr at *; grind

/-- The order, as numbers. -/
def key (x y : Int) : Int := x * 4611686018427387904 + y
def Sm (x : Int) : Prop := -1152921504606846976 ≤ x ∧ x ≤ 1152921504606846976
theorem key_lt {a b c d : Int} (hb : Sm b) (hd : Sm d) : lexlt a b c d = true ↔ key a b < key c d := by rw [lexlt_iff]; unfold key; unfold Sm at hb hd; omega
theorem key_eq {a b c d : Int} (hb : Sm b) (hd : Sm d) : (a = c ∧ b = d) ↔ key a b = key c d := by unfold key; unfold Sm at hb hd; omega
theorem key_le {a b c d : Int} (hb : Sm b) (hd : Sm d) : le2 a b c d ↔ key a b ≤ key c d := by unfold le2 key; unfold Sm at hb hd; omega

theorem key_min {a b c d : Int} (hb : Sm b) (hd : Sm d) : key (lexmin a b c d).1 (lexmin a b c d).2 = min (key a b) (key c d) ∧ Sm (lexmin a b c d).2 := by
 cases h : lexlt a b c d
 ·rw [(lex_ge h).1]
  have : ¬ key a b < key c d := fun k => by rw [(key_lt hb hd).2 k] at h; cases h
  exact ⟨by simp only; omega, hd⟩
 ·rw [(lex_lt h).1]
  have := (key_lt hb hd).1 h
  exact ⟨by simp only; omega, hb⟩
theorem key_max {a b c d : Int} (hb : Sm b) (hd : Sm d) : key (lexmax a b c d).1 (lexmax a b c d).2 = max (key a b) (key c d) ∧ Sm (lexmax a b c d).2 := by
 cases h : lexlt a b c d
 ·rw [(lex_ge h).2]
  have : ¬ key a b < key c d := fun k => by rw [(key_lt hb hd).2 k] at h; cases h
  exact ⟨by simp only; omega, hb⟩
 ·rw [(lex_lt h).2]
  have := (key_lt hb hd).1 h
  exact ⟨by simp only; omega, hd⟩

/-- How many points two intervals have in common. -/
def ov (ka kb kc kd : Int) : Int := if max (min ka kb) (min kc kd) = min (max ka kb) (max kc kd) then 1 else if max (min ka kb) (min kc kd) < min (max ka kb) (max kc kd) then 2 else 0

theorem ovl_key {a0 a1 b0 b1 c0 c1 d0 d1 : Int} (ha : Sm a1) (hb : Sm b1) (hc : Sm c1) (hd : Sm d1) : ovl a0 a1 b0 b1 c0 c1 d0 d1 = ov (key a0 a1) (key b0 b1) (key c0 c1) (key d0 d1) := by
 obtain ⟨m1, s1⟩ := key_min (a := a0) (c := b0) ha hb
 obtain ⟨m2, s2⟩ := key_min (a := c0) (c := d0) hc hd
 obtain ⟨m3, s3⟩ := key_max (a := a0) (c := b0) ha hb
 obtain ⟨m4, s4⟩ := key_max (a := c0) (c := d0) hc hd
 obtain ⟨m5, s5⟩ := key_max (a := (lexmin a0 a1 b0 b1).1) (c := (lexmin c0 c1 d0 d1).1) s1 s2
 obtain ⟨m6, s6⟩ := key_min (a := (lexmax a0 a1 b0 b1).1) (c := (lexmax c0 c1 d0 d1).1) s3 s4
 rw [m1, m2] at m5
 rw [m3, m4] at m6
 unfold ovl ovl2 ov
 change key (lowP a0 a1 b0 b1 c0 c1 d0 d1).1 (lowP a0 a1 b0 b1 c0 c1 d0 d1).2 = _ at m5
 change key (highP a0 a1 b0 b1 c0 c1 d0 d1).1 (highP a0 a1 b0 b1 c0 c1 d0 d1).2 = _ at m6
 change Sm (lowP a0 a1 b0 b1 c0 c1 d0 d1).2 at s5
 change Sm (highP a0 a1 b0 b1 c0 c1 d0 d1).2 at s6
 generalize lowP a0 a1 b0 b1 c0 c1 d0 d1 = L at *
 generalize highP a0 a1 b0 b1 c0 c1 d0 d1 = H at *
 rw [← m5, ← m6]
 have e1 : (L = H) ↔ key L.1 L.2 = key H.1 H.2 := by rw [← key_eq s5 s6]; exact Prod.ext_iff
 have e2 : (lexlt L.1 L.2 H.1 H.2 = true) ↔ key L.1 L.2 < key H.1 H.2 := key_lt s5 s6
 by_cases h1 : L = H
 ·rw [if_pos h1, if_pos (e1.1 h1)]
 ·rw [if_neg h1, if_neg (fun k => h1 (e1.2 k))]
  by_cases h2 : lexlt L.1 L.2 H.1 H.2 = true
  ·rw [if_pos h2, if_pos (e2.1 h2)]
  ·rw [if_neg h2, if_neg (fun k => h2 (e2.2 k))]

/-- Between two numbers. -/
theorem box_key {a b c d e f : Int} (hb : Sm b) (hd : Sm d) (hf : Sm f) (h : cr a b c d e f = 0) : bx a b c d e f ↔ (key a b ≤ key e f ∧ key e f ≤ key c d) ∨ (key c d ≤ key e f ∧ key e f ≤ key a b) := by
 rw [box_iff h, key_le hb hf, key_le hf hd, key_le hd hf, key_le hf hb]

theorem ov_pt (ka kb kp : Int) : ov ka kb kp kp = 1 ↔ (ka ≤ kp ∧ kp ≤ kb) ∨ (kb ≤ kp ∧ kp ≤ ka) := by
 unfold ov
 by_cases h : max (min ka kb) (min kp kp) = min (max ka kb) (max kp kp)
 ·rw [if_pos h]; simp only [true_iff]; omega
 ·rw [if_neg h]
  by_cases k : max (min ka kb) (min kp kp) < min (max ka kb) (max kp kp)
  ·rw [if_pos k]; omega
  ·rw [if_neg k]; omega

/-- Whether a point lies on a segment, as overlap says it and as the box does. -/
theorem on_iff {a0 a1 b0 b1 p0 p1 : Int} (ha : Sm a1) (hb : Sm b1) (hp : Sm p1) (h : cr a0 a1 b0 b1 p0 p1 = 0) : ovl a0 a1 b0 b1 p0 p1 p0 p1 = 1 ↔ bx a0 a1 b0 b1 p0 p1 := by
 rw [ovl_key ha hb hp hp, ov_pt, box_key ha hb hp h]

end Go.Proofs.YtoaldbjcpfkcjaaGreat.Geo

namespace Go.Proofs.YtoaldbjcpfkcjaaGreat.Geo

/-- A point that is bounded. -/
def In (x y : Int) : Prop := inl 1152921504606846976 x y = true
theorem in_iff {x y : Int} : In x y ↔ (-1152921504606846976 ≤ x ∧ x ≤ 1152921504606846976 ∧ -1152921504606846976 ≤ y ∧ y ≤ 1152921504606846976) := inl_iff
theorem In.sm {x y : Int} (h : In x y) : Sm y := by rw [in_iff] at h; exact ⟨h.2.2.1, h.2.2.2⟩

theorem side_in {a0 a1 b0 b1 p0 p1 : Int} (ha : In a0 a1) (hb : In b0 b1) (hp : In p0 p1) : sideOf a0 a1 b0 b1 p0 p1 = (cr a0 a1 b0 b1 p0 p1).sign := by
 unfold sideOf; rw [if_pos ⟨ha, hb, hp⟩]; rfl
theorem side_zero {a0 a1 b0 b1 p0 p1 : Int} (ha : In a0 a1) (hb : In b0 b1) (hp : In p0 p1) : sideOf a0 a1 b0 b1 p0 p1 = 0 ↔ cr a0 a1 b0 b1 p0 p1 = 0 := by
 rw [side_in ha hb hp]; exact Int.sign_eq_zero_iff_zero

/-- Whether p is a point of the segment. -/
def on (a0 a1 b0 b1 p0 p1 : Int) : Bool := decide (cr a0 a1 b0 b1 p0 p1 = 0 ∧ bx a0 a1 b0 b1 p0 p1)
theorem on_in {a0 a1 b0 b1 p0 p1 : Int} (ha : In a0 a1) (hb : In b0 b1) (hp : In p0 p1) : onOf a0 a1 b0 b1 p0 p1 = on a0 a1 b0 b1 p0 p1 := by
 unfold onOf on
 rw [show inl 1152921504606846976 a0 a1 = true from ha, show inl 1152921504606846976 b0 b1 = true from hb, show inl 1152921504606846976 p0 p1 = true from hp]
 simp only [Bool.true_and]
 rw [← Bool.decide_and]
 refine decide_eq_decide.2 ?_
 rw [side_zero ha hb hp]
 constructor
 ·rintro ⟨h, k⟩
  exact ⟨h, (on_iff ha.sm hb.sm hp.sm h).1 k⟩
 ·rintro ⟨h, k⟩
  exact ⟨h, (on_iff ha.sm hb.sm hp.sm h).2 k⟩
theorem bt_minmax (x a b : Int) : (min a b ≤ x ∧ x ≤ max a b) ↔ bt x a b := by unfold bt; omega
/-- The reference says the same of it. -/
theorem on_same (a0 a1 b0 b1 p0 p1 : Int) : ronOf a0 a1 b0 b1 p0 p1 = onOf a0 a1 b0 b1 p0 p1 := by
 cases ha : inl 1152921504606846976 a0 a1
 ·unfold ronOf onOf; rw [ha]; rfl
 ·cases hb : inl 1152921504606846976 b0 b1
  ·unfold ronOf onOf; rw [ha, hb]; rfl
  ·cases hp : inl 1152921504606846976 p0 p1
   ·unfold ronOf onOf; rw [ha, hb, hp]; rfl
   ·rw [on_in ha hb hp]
    unfold ronOf on btw
    rw [ha, hb, hp]
    simp only [Bool.true_and]
    rw [← Bool.decide_and, ← Bool.decide_and]
    refine decide_eq_decide.2 ?_
    rw [side_zero ha hb hp, bt_minmax, bt_minmax]
    unfold bx
    constructor
    ·rintro ⟨h, k, l⟩; exact ⟨l, h, k⟩
    ·rintro ⟨l, h, k⟩; exact ⟨h, k, l⟩

/-- How many different points two segments of one line have in common, by which ends lie on the other one, and which ends are the same. -/
def cnt (pa pb pc pd eab eac ead ebc ebd ecd : Bool) : Int :=
 if (pa || pb || pc || pd) = true then (if (pa && pb && !eab || pa && pc && !eac || pa && pd && !ead || pb && pc && !ebc || pb && pd && !ebd || pc && pd && !ecd) = true then 2 else 1) else 0
/-- Two points are the same. -/
def eq2 (a b c d : Int) : Bool := decide (a = c ∧ b = d)
def cntG (a0 a1 b0 b1 c0 c1 d0 d1 : Int) : Int :=
 cnt (decide (bx c0 c1 d0 d1 a0 a1)) (decide (bx c0 c1 d0 d1 b0 b1)) (decide (bx a0 a1 b0 b1 c0 c1)) (decide (bx a0 a1 b0 b1 d0 d1)) (eq2 a0 a1 b0 b1) (eq2 a0 a1 c0 c1) (eq2 a0 a1 d0 d1) (eq2 b0 b1 c0 c1) (eq2 b0 b1 d0 d1) (eq2 c0 c1 d0 d1)

theorem ov_cnt (ka kb kc kd : Int) : ov ka kb kc kd = cnt (decide ((kc ≤ ka ∧ ka ≤ kd) ∨ (kd ≤ ka ∧ ka ≤ kc))) (decide ((kc ≤ kb ∧ kb ≤ kd) ∨ (kd ≤ kb ∧ kb ≤ kc))) (decide ((ka ≤ kc ∧ kc ≤ kb) ∨ (kb ≤ kc ∧ kc ≤ ka))) (decide ((ka ≤ kd ∧ kd ≤ kb) ∨ (kb ≤ kd ∧ kd ≤ ka)))
  (decide (ka = kb)) (decide (ka = kc)) (decide (ka = kd)) (decide (kb = kc)) (decide (kb = kd)) (decide (kc = kd)) := by
 unfold ov cnt
 simp only [Bool.or_eq_true, Bool.and_eq_true, Bool.not_eq_true', decide_eq_true_eq, decide_eq_false_iff_not]
 rcases Int.lt_trichotomy (max (min ka kb) (min kc kd)) (min (max ka kb) (max kc kd)) with h | h | h
 ·rw [if_neg (by omega), if_pos h, if_pos (by omega), if_pos (by omega)]
 ·rw [if_pos h, if_pos (by omega), if_neg (by omega)]
 ·rw [if_neg (by omega), if_neg (by omega), if_neg (by omega)]

theorem ovl_cnt {a0 a1 b0 b1 c0 c1 d0 d1 : Int} (ha : Sm a1) (hb : Sm b1) (hc : Sm c1) (hd : Sm d1) (eA : cr c0 c1 d0 d1 a0 a1 = 0) (eB : cr c0 c1 d0 d1 b0 b1 = 0) (eC : cr a0 a1 b0 b1 c0 c1 = 0) (eD : cr a0 a1 b0 b1 d0 d1 = 0) :
  ovl a0 a1 b0 b1 c0 c1 d0 d1 = cntG a0 a1 b0 b1 c0 c1 d0 d1 := by
 rw [ovl_key ha hb hc hd, ov_cnt]
 unfold cntG eq2
 have p1 := box_key hc hd ha eA
 have p2 := box_key hc hd hb eB
 have p3 := box_key ha hb hc eC
 have p4 := box_key ha hb hd eD
 simp only [p1, p2, p3, p4, key_eq ha hb, key_eq ha hc, key_eq ha hd, key_eq hb hc, key_eq hb hd, key_eq hc hd]

theorem meetS_congr {sA sB sC sD o p : Int} (h : sA = 0 → sB = 0 → sC = 0 → sD = 0 → o = p) : meetS sA sB sC sD o = meetS sA sB sC sD p := by
 unfold meetS
 by_cases k : sA = 0 ∧ sB = 0 ∧ sC = 0 ∧ sD = 0
 ·rw [if_pos k, if_pos k, h k.1 k.2.1 k.2.2.1 k.2.2.2]
 ·rw [if_neg k, if_neg k]

/-- Meet, in plain geometry. -/
def meetG (a0 a1 b0 b1 c0 c1 d0 d1 : Int) : Int := meetS (cr c0 c1 d0 d1 a0 a1).sign (cr c0 c1 d0 d1 b0 b1).sign (cr a0 a1 b0 b1 c0 c1).sign (cr a0 a1 b0 b1 d0 d1).sign (cntG a0 a1 b0 b1 c0 c1 d0 d1)
theorem meet_in {a0 a1 b0 b1 c0 c1 d0 d1 : Int} (ha : In a0 a1) (hb : In b0 b1) (hc : In c0 c1) (hd : In d0 d1) : meetOf a0 a1 b0 b1 c0 c1 d0 d1 = meetG a0 a1 b0 b1 c0 c1 d0 d1 := by
 unfold meetOf meetG
 rw [if_pos ⟨ha, hb, hc, hd⟩, side_in hc hd ha, side_in hc hd hb, side_in ha hb hc, side_in ha hb hd]
 refine meetS_congr fun h1 h2 h3 h4 => ?_
 exact ovl_cnt ha.sm hb.sm hc.sm hd.sm (Int.sign_eq_zero_iff_zero.1 h1) (Int.sign_eq_zero_iff_zero.1 h2) (Int.sign_eq_zero_iff_zero.1 h3) (Int.sign_eq_zero_iff_zero.1 h4)

end Go.Proofs.YtoaldbjcpfkcjaaGreat.Geo

namespace Go.Proofs.YtoaldbjcpfkcjaaGreat.Geo
open Go.RowKit Go.Lib

theorem four {m : Nat} (h : m ≤ 3) : m = 0 ∨ m = 1 ∨ m = 2 ∨ m = 3 := by omega
theorem w1 {x : Int} (h : -9223372036854775807 ≤ x ∧ x ≤ 9223372036854775807) : wrap64 (-x) = -x := IntWalk.wrap64_in _ (by omega)
theorem in_small {x y : Int} (h : -20000 ≤ x ∧ x ≤ 20000 ∧ -20000 ≤ y ∧ y ≤ 20000) : In x y := by rw [in_iff]; omega

end Go.Proofs.YtoaldbjcpfkcjaaGreat.Geo

namespace Go.Proofs.YtoaldbjcpfkcjaaGreat.Geo

theorem on_mem {a0 a1 b0 b1 p0 p1 : Int} : on a0 a1 b0 b1 p0 p1 = true ↔ cr a0 a1 b0 b1 p0 p1 = 0 ∧ bx a0 a1 b0 b1 p0 p1 := by unfold on; exact decide_eq_true_iff
theorem on_left (a b c d : Int) : on a b c d a b = true := on_mem.2 ⟨by unfold cr; grind, by unfold bx bt; omega⟩
theorem on_right (a b c d : Int) : on a b c d c d = true := on_mem.2 ⟨by unfold cr; grind, by unfold bx bt; omega⟩

theorem sign_prod {x y : Int} (h : ¬ (0 < x ∧ 0 < y) ∧ ¬ (x < 0 ∧ y < 0)) : x.sign * y.sign ≤ 0 := by
 rcases Int.lt_trichotomy x 0 with k | k | k <;> rcases Int.lt_trichotomy y 0 with l | l | l
 ·exact absurd ⟨k, l⟩ h.2
 ·rw [l]; simp
 ·rw [Int.sign_eq_neg_one_of_neg k, Int.sign_eq_one_of_pos l]; decide
 ·rw [k]; simp
 ·rw [k]; simp
 ·rw [k]; simp
 ·rw [Int.sign_eq_one_of_pos k, Int.sign_eq_neg_one_of_neg l]; decide
 ·rw [l]; simp
 ·exact absurd ⟨k, l⟩ h.1

theorem ov_one {ka kb kc kd kp : Int} (h : (ka ≤ kp ∧ kp ≤ kb) ∨ (kb ≤ kp ∧ kp ≤ ka)) (k : (kc ≤ kp ∧ kp ≤ kd) ∨ (kd ≤ kp ∧ kp ≤ kc)) : 1 ≤ ov ka kb kc kd := by
 unfold ov
 by_cases e : max (min ka kb) (min kc kd) = min (max ka kb) (max kc kd)
 ·rw [if_pos e]; omega
 ·rw [if_neg e, if_pos (by omega)]; omega
theorem ov_two {ka kb kc kd kp kq : Int} (h : (ka ≤ kp ∧ kp ≤ kb) ∨ (kb ≤ kp ∧ kp ≤ ka)) (k : (kc ≤ kp ∧ kp ≤ kd) ∨ (kd ≤ kp ∧ kp ≤ kc)) (h' : (ka ≤ kq ∧ kq ≤ kb) ∨ (kb ≤ kq ∧ kq ≤ ka)) (k' : (kc ≤ kq ∧ kq ≤ kd) ∨ (kd ≤ kq ∧ kq ≤ kc)) (hne : kp ≠ kq) : ov ka kb kc kd = 2 := by
 unfold ov
 rw [if_neg (by omega), if_pos (by omega)]
theorem ov_bd (ka kb kc kd : Int) : 0 ≤ ov ka kb kc kd ∧ ov ka kb kc kd ≤ 2 := by
 unfold ov
 by_cases e : max (min ka kb) (min kc kd) = min (max ka kb) (max kc kd)
 ·rw [if_pos e]; omega
 ·rw [if_neg e]
  by_cases k : max (min ka kb) (min kc kd) < min (max ka kb) (max kc kd)
  ·rw [if_pos k]; omega
  ·rw [if_neg k]; omega

section
variable {a0 a1 b0 b1 c0 c1 d0 d1 : Int} (ha : In a0 a1) (hb : In b0 b1) (hc : In c0 c1) (hd : In d0 d1)
include ha hb hc hd
theorem meet_of : meetOf a0 a1 b0 b1 c0 c1 d0 d1 = meetS (cr c0 c1 d0 d1 a0 a1).sign (cr c0 c1 d0 d1 b0 b1).sign (cr a0 a1 b0 b1 c0 c1).sign (cr a0 a1 b0 b1 d0 d1).sign (ov (key a0 a1) (key b0 b1) (key c0 c1) (key d0 d1)) := by
 unfold meetOf
 rw [if_pos ⟨ha, hb, hc, hd⟩, side_in hc hd ha, side_in hc hd hb, side_in ha hb hc, side_in ha hb hd, ovl_key ha.sm hb.sm hc.sm hd.sm]
theorem meet_bd : 0 ≤ meetOf a0 a1 b0 b1 c0 c1 d0 d1 ∧ meetOf a0 a1 b0 b1 c0 c1 d0 d1 ≤ 2 := by
 rw [meet_of ha hb hc hd]
 unfold meetS
 split
 ·exact ov_bd _ _ _ _
 ·split <;> decide
theorem meet_one {p0 p1 : Int} (hp : In p0 p1) (h : on a0 a1 b0 b1 p0 p1 = true) (k : on c0 c1 d0 d1 p0 p1 = true) : 1 ≤ meetOf a0 a1 b0 b1 c0 c1 d0 d1 := by
 rw [on_mem] at h k
 rw [meet_of ha hb hc hd]
 unfold meetS
 split
 ·exact ov_one ((box_key ha.sm hb.sm hp.sm h.1).1 h.2) ((box_key hc.sm hd.sm hp.sm k.1).1 k.2)
 ·rw [if_pos ⟨sign_prod (opp h.1 h.2 k.1), sign_prod (opp k.1 k.2 h.1)⟩]; decide
theorem meet_more {p0 p1 q0 q1 : Int} (hp : In p0 p1) (hq : In q0 q1) (hne : ¬ (p0 = q0 ∧ p1 = q1)) (h : on a0 a1 b0 b1 p0 p1 = true) (k : on c0 c1 d0 d1 p0 p1 = true) (h' : on a0 a1 b0 b1 q0 q1 = true) (k' : on c0 c1 d0 d1 q0 q1 = true) : meetOf a0 a1 b0 b1 c0 c1 d0 d1 = 2 := by
 rw [on_mem] at h k h' k'
 rw [meet_of ha hb hc hd]
 obtain ⟨e1, e2⟩ := flat hne h.1 h'.1 h.2 h'.2 k.1 k'.1
 obtain ⟨e3, e4⟩ := flat hne k.1 k'.1 k.2 k'.2 h.1 h'.1
 rw [e1, e2, e3, e4]
 unfold meetS
 rw [if_pos (by decide)]
 exact ov_two ((box_key ha.sm hb.sm hp.sm h.1).1 h.2) ((box_key hc.sm hd.sm hp.sm k.1).1 k.2) ((box_key ha.sm hb.sm hq.sm h'.1).1 h'.2) ((box_key hc.sm hd.sm hq.sm k'.1).1 k'.2) (fun e => hne ((key_eq hp.sm hq.sm).2 e))
/-- Two segments that meet infinitely often: an end of one lies on both. -/
theorem meet_end (h : meetOf a0 a1 b0 b1 c0 c1 d0 d1 = 2) : ∃ p0 p1, (p0 = a0 ∧ p1 = a1 ∨ p0 = b0 ∧ p1 = b1 ∨ p0 = c0 ∧ p1 = c1 ∨ p0 = d0 ∧ p1 = d1) ∧ on a0 a1 b0 b1 p0 p1 = true ∧ on c0 c1 d0 d1 p0 p1 = true := by
 rw [meet_of ha hb hc hd] at h
 unfold meetS at h
 split at h
 ·next e =>
  obtain ⟨e1, e2, e3, e4⟩ := e
  have e1 := Int.sign_eq_zero_iff_zero.1 e1
  have e2 := Int.sign_eq_zero_iff_zero.1 e2
  have e3 := Int.sign_eq_zero_iff_zero.1 e3
  have e4 := Int.sign_eq_zero_iff_zero.1 e4
  have o1 := on_left a0 a1 b0 b1
  have o2 := on_right a0 a1 b0 b1
  have o3 := on_left c0 c1 d0 d1
  have o4 := on_right c0 c1 d0 d1
  have m1 := on_mem (a0 := c0) (a1 := c1) (b0 := d0) (b1 := d1) (p0 := a0) (p1 := a1)
  have m2 := on_mem (a0 := c0) (a1 := c1) (b0 := d0) (b1 := d1) (p0 := b0) (p1 := b1)
  have m3 := on_mem (a0 := a0) (a1 := a1) (b0 := b0) (b1 := b1) (p0 := c0) (p1 := c1)
  have m4 := on_mem (a0 := a0) (a1 := a1) (b0 := b0) (b1 := b1) (p0 := d0) (p1 := d1)
  rw [box_key hc.sm hd.sm ha.sm e1] at m1
  rw [box_key hc.sm hd.sm hb.sm e2] at m2
  rw [box_key ha.sm hb.sm hc.sm e3] at m3
  rw [box_key ha.sm hb.sm hd.sm e4] at m4
  generalize key a0 a1 = ka at *
  generalize key b0 b1 = kb at *
  generalize key c0 c1 = kc at *
  generalize key d0 d1 = kd at *
  have : ((kc ≤ ka ∧ ka ≤ kd) ∨ (kd ≤ ka ∧ ka ≤ kc)) ∨ ((kc ≤ kb ∧ kb ≤ kd) ∨ (kd ≤ kb ∧ kb ≤ kc)) ∨ ((ka ≤ kc ∧ kc ≤ kb) ∨ (kb ≤ kc ∧ kc ≤ ka)) ∨ ((ka ≤ kd ∧ kd ≤ kb) ∨ (kb ≤ kd ∧ kd ≤ ka)) := by
   unfold ov at h
   by_cases f : max (min ka kb) (min kc kd) = min (max ka kb) (max kc kd)
   ·rw [if_pos f] at h; omega
   ·rw [if_neg f] at h
    by_cases g : max (min ka kb) (min kc kd) < min (max ka kb) (max kc kd)
    ·omega
    ·rw [if_neg g] at h; omega
  rcases this with g | g | g | g
  ·exact ⟨a0, a1, Or.inl ⟨rfl, rfl⟩, o1, m1.2 ⟨e1, g⟩⟩
  ·exact ⟨b0, b1, Or.inr (Or.inl ⟨rfl, rfl⟩), o2, m2.2 ⟨e2, g⟩⟩
  ·exact ⟨c0, c1, Or.inr (Or.inr (Or.inl ⟨rfl, rfl⟩)), m3.2 ⟨e3, g⟩, o3⟩
  ·exact ⟨d0, d1, Or.inr (Or.inr (Or.inr ⟨rfl, rfl⟩)), m4.2 ⟨e4, g⟩, o4⟩
 ·split at h <;> omega
end

/-- How many of the whole points that were looked at are common ones. -/
structure Cnt (f : Int → Int → Bool) (i k n : Int) : Prop where
 lo : 0 ≤ n
 hi : n ≤ 25 * i + k + 312
 seen : ∀ x y, -12 ≤ x → -12 ≤ y → y ≤ 12 → (x < i ∨ x = i ∧ y < k) → f x y = true → 1 ≤ n
 one : 1 ≤ n → ∃ x y, (-12 ≤ x ∧ x ≤ i ∧ -12 ≤ y ∧ y ≤ 12) ∧ (x < i ∨ x = i ∧ y < k) ∧ f x y = true
 two : 2 ≤ n → ∃ x y u v, (-12 ≤ x ∧ x ≤ i ∧ -12 ≤ y ∧ y ≤ 12) ∧ (-12 ≤ u ∧ u ≤ i ∧ -12 ≤ v ∧ v ≤ 12) ∧ ¬ (x = u ∧ y = v) ∧ f x y = true ∧ f u v = true

theorem Cnt.start (f : Int → Int → Bool) : Cnt f (-12) (-12) 0 :=
 ⟨by omega, by omega, fun x y h1 h2 h3 h4 => by omega, fun h => by omega, fun h => by omega⟩
theorem Cnt.yes {f : Int → Int → Bool} {i k n : Int} (h : Cnt f i k n) (hi : -12 ≤ i) (hk : -12 ≤ k ∧ k ≤ 12) (e : f i k = true) : Cnt f i (k + 1) (n + 1) := by
 refine ⟨by have := h.lo; omega, by have := h.hi; omega, fun x y _ _ _ _ _ => by have := h.lo; omega, fun _ => ⟨i, k, by omega, by omega, e⟩, fun h2 => ?_⟩
 obtain ⟨x, y, b, l, g⟩ := h.one (by omega)
 exact ⟨x, y, i, k, b, by omega, by omega, g, e⟩
theorem Cnt.no {f : Int → Int → Bool} {i k n : Int} (h : Cnt f i k n) (e : f i k = false) : Cnt f i (k + 1) n := by
 refine ⟨h.lo, by have := h.hi; omega, fun x y a b c d g => ?_, fun h1 => ?_, h.two⟩
 ·by_cases hx : x = i ∧ y = k
  ·rw [hx.1, hx.2, e] at g; cases g
  ·exact h.seen x y a b c (by omega) g
 ·obtain ⟨x, y, b, l, g⟩ := h.one h1
  exact ⟨x, y, b, by omega, g⟩
theorem Cnt.next {f : Int → Int → Bool} {i n : Int} (h : Cnt f i 13 n) : Cnt f (i + 1) (-12) n := by
 refine ⟨h.lo, by have := h.hi; omega, fun x y a b c d g => h.seen x y a b c (by omega) g, fun h1 => ?_, fun h2 => ?_⟩
 ·obtain ⟨x, y, b, l, g⟩ := h.one h1
  exact ⟨x, y, by omega, by omega, g⟩
 ·obtain ⟨x, y, u, v, b, b', e, g, g'⟩ := h.two h2
  exact ⟨x, y, u, v, by omega, by omega, e, g, g'⟩

def Lt (x : Int) : Prop := -12 ≤ x ∧ x ≤ 12
theorem Lt.inn {x y : Int} (h : Lt x) (k : Lt y) : In x y := by unfold Lt at h k; exact in_small (by omega)

/-- What the law says of the count. -/
theorem Cnt.all {a0 a1 b0 b1 c0 c1 d0 d1 n : Int} (ha : Lt a0 ∧ Lt a1) (hb : Lt b0 ∧ Lt b1) (hc : Lt c0 ∧ Lt c1) (hd : Lt d0 ∧ Lt d1)
  (h : Cnt (fun x y => on a0 a1 b0 b1 x y && on c0 c1 d0 d1 x y) 13 (-12) n) :
  min n 2 ≤ meetOf a0 a1 b0 b1 c0 c1 d0 d1 ∧ (2 ≤ meetOf a0 a1 b0 b1 c0 c1 d0 d1 → 0 < n) ∧ 0 ≤ meetOf a0 a1 b0 b1 c0 c1 d0 d1 ∧ meetOf a0 a1 b0 b1 c0 c1 d0 d1 ≤ 2 := by
 have iA := ha.1.inn ha.2
 have iB := hb.1.inn hb.2
 have iC := hc.1.inn hc.2
 have iD := hd.1.inn hd.2
 have bd := meet_bd iA iB iC iD
 refine ⟨?_, fun h2 => ?_, bd⟩
 ·by_cases h2 : 2 ≤ n
  ·obtain ⟨x, y, u, v, b, b', e, g, g'⟩ := h.two h2
   simp only [Bool.and_eq_true] at g g'
   have := meet_more iA iB iC iD (in_small (x := x) (y := y) (by omega)) (in_small (x := u) (y := v) (by omega)) e g.1 g.2 g'.1 g'.2
   omega
  ·by_cases h1 : 1 ≤ n
   ·obtain ⟨x, y, b, l, g⟩ := h.one h1
    simp only [Bool.and_eq_true] at g
    have := meet_one iA iB iC iD (in_small (x := x) (y := y) (by omega)) g.1 g.2
    omega
   ·omega
 ·obtain ⟨x, y, e, g1, g2⟩ := meet_end iA iB iC iD (by omega)
  unfold Lt at ha hb hc hd
  have := h.seen x y (by omega) (by omega) (by omega) (by omega) (by simp only [g1, g2, Bool.and_self])
  omega

end Go.Proofs.YtoaldbjcpfkcjaaGreat.Geo

namespace Go.Proofs.YtoaldbjcpfkcjaaGreat
open Geo

/-- A segment passes to the left of a point. -/
def ry (a0 a1 b0 b1 p0 p1 : Int) : Int := if a1 ≤ p1 ∧ p1 < b1 ∧ cr a0 a1 b0 b1 p0 p1 < 0 then 1 else if b1 ≤ p1 ∧ p1 < a1 ∧ cr b0 b1 a0 a1 p0 p1 < 0 then -1 else 0
/-- A segment passes above a point. -/
def ru (a0 a1 b0 b1 p0 p1 : Int) : Int := if a0 ≤ p0 ∧ p0 < b0 ∧ cr a0 a1 b0 b1 p0 p1 < 0 then 1 else if b0 ≤ p0 ∧ p0 < a0 ∧ cr b0 b1 a0 a1 p0 p1 < 0 then -1 else 0
/-- A point is in the quarter to the left of another one, and above it. -/
def hq (x0 x1 p0 p1 : Int) : Int := if x0 ≤ p0 ∧ p1 < x1 then 1 else 0

theorem cr_uv (u0 u1 v0 v1 p0 p1 : Int) : cr (p0 + u0) (p1 + u1) (p0 + v0) (p1 + v1) p0 p1 = u0 * v1 - u1 * v0 := by unfold cr; grind

theorem mul_sg (x y : Int) : (0 < x → 0 < y → 0 < x * y) ∧ (x < 0 → y < 0 → 0 < x * y) ∧ (0 < x → y < 0 → x * y < 0) ∧ (x < 0 → 0 < y → x * y < 0) ∧ (x = 0 → x * y = 0) ∧ (y = 0 → x * y = 0) :=
 ⟨fun h k => Int.mul_pos h k, fun h k => Int.mul_pos_of_neg_of_neg h k, fun h k => Int.mul_neg_of_pos_of_neg h k, fun h k => Int.mul_neg_of_neg_of_pos h k, fun h => by rw [h, Int.zero_mul], fun h => by rw [h, Int.mul_zero]⟩

theorem ry_ru {a0 a1 b0 b1 p0 p1 : Int} (h : ¬ (cr a0 a1 b0 b1 p0 p1 = 0 ∧ bx a0 a1 b0 b1 p0 p1)) : ry a0 a1 b0 b1 p0 p1 - ru a0 a1 b0 b1 p0 p1 = hq b0 b1 p0 p1 - hq a0 a1 p0 p1 := by
 obtain ⟨u0, rfl⟩ : ∃ u, a0 = p0 + u := ⟨a0 - p0, by omega⟩
 obtain ⟨u1, rfl⟩ : ∃ u, a1 = p1 + u := ⟨a1 - p1, by omega⟩
 obtain ⟨v0, rfl⟩ : ∃ u, b0 = p0 + u := ⟨b0 - p0, by omega⟩
 obtain ⟨v1, rfl⟩ : ∃ u, b1 = p1 + u := ⟨b1 - p1, by omega⟩
 unfold ry ru hq
 rw [cr_uv] at h
 rw [cr_uv, cr_uv, Int.mul_comm v0 u1, Int.mul_comm v1 u0]
 have h1 := mul_sg u0 v1
 have h2 := mul_sg u1 v0
 unfold bx bt at h
 generalize u0 * v1 = M at *
 generalize u1 * v0 = N at *
 have e1 : (p1 + u1 ≤ p1) ↔ ¬ 0 < u1 := by omega
 have e2 : (p1 + v1 ≤ p1) ↔ ¬ 0 < v1 := by omega
 have e3 : (p0 + u0 ≤ p0) ↔ ¬ 0 < u0 := by omega
 have e4 : (p0 + v0 ≤ p0) ↔ ¬ 0 < v0 := by omega
 have e5 : (p1 < p1 + u1) ↔ 0 < u1 := by omega
 have e6 : (p1 < p1 + v1) ↔ 0 < v1 := by omega
 have e7 : (p0 < p0 + u0) ↔ 0 < u0 := by omega
 have e8 : (p0 < p0 + v0) ↔ 0 < v0 := by omega
 simp only [e1, e2, e3, e4, e5, e6, e7, e8]
 clear e1 e2 e3 e4 e5 e6 e7 e8
 by_cases A : 0 < u0 <;> by_cases B : 0 < u1 <;> by_cases C : 0 < v0 <;> by_cases E : 0 < v1 <;>
  simp only [A, B, C, E, not_true, not_false_eq_true, true_and, false_and, and_true, and_false, if_true, if_false, Int.sub_zero, Int.sub_self, Int.zero_sub] <;> (repeat' split) <;> omega
end Go.Proofs.YtoaldbjcpfkcjaaGreat

namespace Go.Proofs.YtoaldbjcpfkcjaaGreat
open Geo

def sumT (f : Nat → Int) : Nat → Int
 | 0 => 0
 | n + 1 => sumT f n + f n
theorem sumT_congr {f g : Nat → Int} : ∀ {n : Nat}, (∀ k, k < n → f k = g k) → sumT f n = sumT g n := by
 intro n
 induction n with
 | zero => intro _; rfl
 | succ n ih => intro h; rw [sumT, sumT, ih (fun k hk => h k (by omega)), h n (by omega)]
theorem sumT_add (f g : Nat → Int) : ∀ n, sumT (fun k => f k + g k) n = sumT f n + sumT g n := by
 intro n
 induction n with
 | zero => rfl
 | succ n ih => simp only [sumT]; omega
theorem sumT_sub (f g : Nat → Int) : ∀ n, sumT (fun k => f k - g k) n = sumT f n - sumT g n := by
 intro n
 induction n with
 | zero => rfl
 | succ n ih => simp only [sumT]; omega
theorem sumT_zero {f : Nat → Int} {n : Nat} (h : ∀ k, k < n → f k = 0) : sumT f n = 0 := by
 rw [sumT_congr (g := fun _ => 0) h]
 clear h
 induction n with
 | zero => rfl
 | succ n ih => simp only [sumT]; omega
theorem sumT_const (c : Int) (n : Nat) : sumT (fun _ => c) n = n * c := by
 induction n with
 | zero => simp [sumT]
 | succ n ih => rw [sumT, ih]; grind
theorem sumT_first (f : Nat → Int) : ∀ n, sumT f (n + 1) = f 0 + sumT (fun k => f (k + 1)) n := by
 intro n
 induction n with
 | zero => simp [sumT]
 | succ n ih => rw [sumT, ih, sumT]; omega
theorem sumT_split (f : Nat → Int) (a : Nat) : ∀ b, sumT f (a + b) = sumT f a + sumT (fun k => f (a + k)) b := by
 intro b
 induction b with
 | zero => simp [sumT]
 | succ b ih => rw [← Nat.add_assoc, sumT, ih, sumT]; omega
theorem sumT_flip (f : Nat → Int) : ∀ n, sumT (fun k => f (n - 1 - k)) n = sumT f n := by
 intro n
 induction n with
 | zero => rfl
 | succ n ih =>
  rw [sumT_first, sumT, ← ih, Int.add_comm]
  congr 1
  exact sumT_congr fun k hk => by rw [show n + 1 - 1 - (k + 1) = n - 1 - k by omega]
/-- All but one are nothing. -/
theorem sumT_one {f : Nat → Int} {n i : Nat} (hi : i < n) (h : ∀ k, k < n → k ≠ i → f k = 0) : sumT f n = f i := by
 induction n with
 | zero => omega
 | succ n ih =>
  rw [sumT]
  by_cases e : i = n
  ·subst e; rw [sumT_zero (fun k hk => h k (by omega) (by omega))]; omega
  ·rw [ih (by omega) (fun k hk hne => h k (by omega) hne), h n (by omega) (by omega)]; omega

/-- The next index of a ring. -/
def nx (n k : Nat) : Nat := if k + 1 = n then 0 else k + 1
theorem sumT_nx (g : Nat → Int) (n : Nat) : sumT (fun k => g (nx n k)) n = sumT g n := by
 cases n with
 | zero => rfl
 | succ n =>
  rw [sumT_first g, sumT, Int.add_comm]
  congr 1
  ·unfold nx; rw [if_pos rfl]
  ·exact sumT_congr fun k hk => by unfold nx; rw [if_neg (by omega)]

/-- The sum of the rays of a ring's segments, to the left and upwards. -/
def rays (P : Nat → Int × Int) (n : Nat) (p : Int × Int) : Int := sumT (fun k => ry (P k).1 (P k).2 (P (nx n k)).1 (P (nx n k)).2 p.1 p.2) n
def raysU (P : Nat → Int × Int) (n : Nat) (p : Int × Int) : Int := sumT (fun k => ru (P k).1 (P k).2 (P (nx n k)).1 (P (nx n k)).2 p.1 p.2) n
/-- No segment has the point. -/
def Off (P : Nat → Int × Int) (n : Nat) (p : Int × Int) : Prop := ∀ k, k < n → ¬ (cr (P k).1 (P k).2 (P (nx n k)).1 (P (nx n k)).2 p.1 p.2 = 0 ∧ bx (P k).1 (P k).2 (P (nx n k)).1 (P (nx n k)).2 p.1 p.2)

theorem rays_up {P : Nat → Int × Int} {n : Nat} {p : Int × Int} (h : Off P n p) : rays P n p = raysU P n p := by
 have h1 : sumT (fun k => ry (P k).1 (P k).2 (P (nx n k)).1 (P (nx n k)).2 p.1 p.2 - ru (P k).1 (P k).2 (P (nx n k)).1 (P (nx n k)).2 p.1 p.2) n = sumT (fun k => hq (P (nx n k)).1 (P (nx n k)).2 p.1 p.2 - hq (P k).1 (P k).2 p.1 p.2) n :=
  sumT_congr fun k hk => ry_ru (h k hk)
 rw [sumT_sub, sumT_sub, sumT_nx (fun k => hq (P k).1 (P k).2 p.1 p.2)] at h1
 unfold rays raysU
 omega
/-- A quarter of a turn. -/
def tq (p : Int × Int) : Int × Int := (-p.2, p.1)
/- The other direction. -/
theorem cr_sw (a b c d e f : Int) : cr c d a b e f = -cr a b c d e f := by unfold cr; grind
/- Beside the box, nothing passes. -/
theorem ry_zero {a0 a1 b0 b1 p0 p1 : Int} (h : (p1 < a1 ∧ p1 < b1) ∨ (a1 ≤ p1 ∧ b1 ≤ p1)) : ry a0 a1 b0 b1 p0 p1 = 0 := by
 unfold ry; rw [if_neg (by omega), if_neg (by omega)]
theorem cr_left {a0 a1 b0 b1 p0 p1 : Int} (h : p0 ≤ a0 ∧ p0 ≤ b0) (k : a1 ≤ p1 ∧ p1 ≤ b1) : 0 ≤ cr a0 a1 b0 b1 p0 p1 := by
 have h1 := Int.mul_nonneg (show 0 ≤ a0 - p0 by omega) (show 0 ≤ b1 - p1 by omega)
 have h2 := Int.mul_nonneg (show 0 ≤ b0 - p0 by omega) (show 0 ≤ p1 - a1 by omega)
 have : cr a0 a1 b0 b1 p0 p1 = (a0 - p0) * (b1 - p1) + (b0 - p0) * (p1 - a1) := by unfold cr; grind
 omega
theorem ry_left {a0 a1 b0 b1 p0 p1 : Int} (h : p0 ≤ a0 ∧ p0 ≤ b0) : ry a0 a1 b0 b1 p0 p1 = 0 := by
 unfold ry
 rw [if_neg, if_neg]
 ·intro ⟨h1, h2, h3⟩
  have := cr_left (p0 := p0) (p1 := p1) ⟨h.2, h.1⟩ ⟨h1, Int.le_of_lt h2⟩
  omega
 ·intro ⟨h1, h2, h3⟩
  have := cr_left (p0 := p0) (p1 := p1) h ⟨h1, Int.le_of_lt h2⟩
  omega
def lv (x1 p1 : Int) : Int := if p1 < x1 then 1 else 0
theorem cr_right {a0 a1 b0 b1 p0 p1 : Int} (h : a0 < p0 ∧ b0 < p0) (k : a1 ≤ p1 ∧ p1 < b1) : cr a0 a1 b0 b1 p0 p1 < 0 := by
 have h1 := Int.mul_pos (show 0 < p0 - a0 by omega) (show 0 < b1 - p1 by omega)
 have h2 := Int.mul_nonneg (show 0 ≤ p0 - b0 by omega) (show 0 ≤ p1 - a1 by omega)
 have : cr a0 a1 b0 b1 p0 p1 = -((p0 - a0) * (b1 - p1) + (p0 - b0) * (p1 - a1)) := by unfold cr; grind
 omega
theorem ry_right {a0 a1 b0 b1 p0 p1 : Int} (h : a0 < p0 ∧ b0 < p0) : ry a0 a1 b0 b1 p0 p1 = lv b1 p1 - lv a1 p1 := by
 unfold ry lv
 by_cases h1 : a1 ≤ p1 ∧ p1 < b1
 ·rw [if_pos ⟨h1.1, h1.2, cr_right h h1⟩, if_pos h1.2, if_neg (by omega)]; rfl
 ·rw [if_neg (by omega)]
  by_cases h2 : b1 ≤ p1 ∧ p1 < a1
  ·rw [if_pos ⟨h2.1, h2.2, cr_right ⟨h.2, h.1⟩ h2⟩, if_neg (by omega), if_pos h2.2]; rfl
  ·rw [if_neg (by omega)]; split <;> split <;> omega
theorem nx_lt {n k : Nat} (h : k < n) : nx n k < n := by unfold nx; split <;> omega
/-- What lies beside the box of a ring: nothing is on it, and the rays are nothing. -/
theorem beside {P : Nat → Int × Int} {n : Nat} {p : Int × Int} (h : (∀ k, k < n → p.1 < (P k).1) ∨ (∀ k, k < n → (P k).1 < p.1) ∨ (∀ k, k < n → p.2 < (P k).2) ∨ (∀ k, k < n → (P k).2 < p.2)) : Off P n p ∧ rays P n p = 0 := by
 constructor
 ·rintro k hk ⟨-, h2⟩
  have hn := nx_lt hk
  unfold bx bt at h2
  rcases h with h | h | h | h <;> have h3 := h k hk <;> have h4 := h _ hn <;> omega
 ·unfold rays
  rcases h with h | h | h | h
  ·exact sumT_zero fun k hk => ry_left ⟨Int.le_of_lt (h k hk), Int.le_of_lt (h _ (nx_lt hk))⟩
  ·rw [sumT_congr (g := fun k => lv (P (nx n k)).2 p.2 - lv (P k).2 p.2) (fun k hk => ry_right ⟨h k hk, h _ (nx_lt hk)⟩), sumT_sub, sumT_nx (fun k => lv (P k).2 p.2)]; omega
  ·exact sumT_zero fun k hk => ry_zero (.inl ⟨h k hk, h _ (nx_lt hk)⟩)
  ·exact sumT_zero fun k hk => ry_zero (.inr ⟨Int.le_of_lt (h k hk), Int.le_of_lt (h _ (nx_lt hk))⟩)
end Go.Proofs.YtoaldbjcpfkcjaaGreat

namespace Go.Proofs.YtoaldbjcpfkcjaaGreat
open Geo

/-- Columns from left to right, each with a lower and an upper point. -/
structure Mono (m : Nat) (X L H : Nat → Int) : Prop where
 two : 2 ≤ m
 inc : ∀ k, k + 1 < m → X k < X (k + 1)
 lh : ∀ k, k < m → L k < H k
/-- The points of the ring: the lower ones, and then the upper ones from right to left. -/
def mp (m : Nat) (X L H : Nat → Int) (i : Nat) : Int × Int := if i < m then (X i, L i) else (X (2 * m - 1 - i), H (2 * m - 1 - i))

theorem Mono.lt {m : Nat} {X L H : Nat → Int} (M : Mono m X L H) {i : Nat} : ∀ {j : Nat}, i < j → j < m → X i < X j := by
 intro j
 induction j with
 | zero => intro h; omega
 | succ j ih =>
  intro h hj
  have h1 := M.inc j hj
  by_cases e : i = j
  ·subst e; exact h1
  ·exact Int.lt_trans (ih (by omega) (by omega)) h1
theorem Mono.le {m : Nat} {X L H : Nat → Int} (M : Mono m X L H) {i j : Nat} (h : i ≤ j) (hj : j < m) : X i ≤ X j := by
 by_cases e : i = j
 ·subst e; exact Int.le_refl _
 ·exact Int.le_of_lt (M.lt (by omega) hj)

/-- A sum along the ring: the columns, and the two ends. -/
theorem ring_sum {m : Nat} (hm : 2 ≤ m) (X L H : Nat → Int) (F : Int → Int → Int → Int → Int) :
  sumT (fun k => F (mp m X L H k).1 (mp m X L H k).2 (mp m X L H (nx (2 * m) k)).1 (mp m X L H (nx (2 * m) k)).2) (2 * m) =
   sumT (fun k => F (X k) (L k) (X (k + 1)) (L (k + 1)) + F (X (k + 1)) (H (k + 1)) (X k) (H k)) (m - 1) + F (X (m - 1)) (L (m - 1)) (X (m - 1)) (H (m - 1)) + F (X 0) (H 0) (X 0) (L 0) := by
 obtain ⟨n, rfl⟩ : ∃ n, m = n + 1 := ⟨m - 1, by omega⟩
 rw [show 2 * (n + 1) = (n + 1) + (n + 1) by omega, sumT_split, sumT, sumT, sumT_add, Nat.add_sub_cancel]
 have e1 : sumT (fun k => F (mp (n + 1) X L H k).1 (mp (n + 1) X L H k).2 (mp (n + 1) X L H (nx (n + 1 + (n + 1)) k)).1 (mp (n + 1) X L H (nx (n + 1 + (n + 1)) k)).2) n = sumT (fun k => F (X k) (L k) (X (k + 1)) (L (k + 1))) n := by
  refine sumT_congr fun k hk => ?_
  unfold nx mp
  rw [if_neg (show ¬ k + 1 = n + 1 + (n + 1) by omega), if_pos (show k < n + 1 by omega), if_pos (show k + 1 < n + 1 by omega)]
 have e2 : sumT (fun k => F (mp (n + 1) X L H (n + 1 + k)).1 (mp (n + 1) X L H (n + 1 + k)).2 (mp (n + 1) X L H (nx (n + 1 + (n + 1)) (n + 1 + k))).1 (mp (n + 1) X L H (nx (n + 1 + (n + 1)) (n + 1 + k))).2) n = sumT (fun k => F (X (k + 1)) (H (k + 1)) (X k) (H k)) n := by
  rw [← sumT_flip]
  refine sumT_congr fun k hk => ?_
  unfold nx mp
  rw [if_neg (show ¬ n + 1 + (n - 1 - k) + 1 = n + 1 + (n + 1) by omega), if_neg (show ¬ n + 1 + (n - 1 - k) < n + 1 by omega), if_neg (show ¬ n + 1 + (n - 1 - k) + 1 < n + 1 by omega)]
  rw [show 2 * (n + 1) - 1 - (n + 1 + (n - 1 - k)) = k + 1 by omega, show 2 * (n + 1) - 1 - (n + 1 + (n - 1 - k) + 1) = k by omega]
 rw [e1, e2]
 have e3 : F (mp (n + 1) X L H n).1 (mp (n + 1) X L H n).2 (mp (n + 1) X L H (nx (n + 1 + (n + 1)) n)).1 (mp (n + 1) X L H (nx (n + 1 + (n + 1)) n)).2 = F (X n) (L n) (X n) (H n) := by
  unfold nx mp
  rw [if_neg (show ¬ n + 1 = n + 1 + (n + 1) by omega), if_pos (show n < n + 1 by omega), if_neg (show ¬ n + 1 < n + 1 by omega), show 2 * (n + 1) - 1 - (n + 1) = n by omega]
 have e4 : F (mp (n + 1) X L H (n + 1 + n)).1 (mp (n + 1) X L H (n + 1 + n)).2 (mp (n + 1) X L H (nx (n + 1 + (n + 1)) (n + 1 + n))).1 (mp (n + 1) X L H (nx (n + 1 + (n + 1)) (n + 1 + n))).2 = F (X 0) (H 0) (X 0) (L 0) := by
  unfold nx mp
  rw [if_pos (show n + 1 + n + 1 = n + 1 + (n + 1) by omega), if_neg (show ¬ n + 1 + n < n + 1 by omega), if_pos (show 0 < n + 1 by omega), show 2 * (n + 1) - 1 - (n + 1 + n) = 0 by omega]
 rw [e3, e4]
 omega

def cx (a b c d : Int) : Int := a * d - b * c
/-- Twice the area. -/
def area (P : Nat → Int × Int) (n : Nat) : Int := sumT (fun k => cx (P k).1 (P k).2 (P (nx n k)).1 (P (nx n k)).2) n
def trap (X L H : Nat → Int) (k : Nat) : Int := (X (k + 1) - X k) * ((H k + H (k + 1)) - (L k + L (k + 1)))
theorem sumT_tele (g : Nat → Int) : ∀ n, sumT (fun k => g (k + 1) - g k) n = g n - g 0 := by
 intro n
 induction n with
 | zero => simp [sumT]
 | succ n ih => rw [sumT, ih]; omega
theorem area_mono {m : Nat} (hm : 2 ≤ m) (X L H : Nat → Int) : area (mp m X L H) (2 * m) = sumT (trap X L H) (m - 1) := by
 unfold area
 rw [ring_sum hm X L H cx, sumT_congr (g := fun k => trap X L H k - (X (k + 1) * (H (k + 1) - L (k + 1)) - X k * (H k - L k))) (fun k _ => by unfold cx trap; grind), sumT_sub, sumT_tele (fun k => X k * (H k - L k))]
 unfold cx
 grind
/- Rays. -/
/-- Where a point is, in a column: below the lower line, and below the upper one. -/
def cl (X L : Nat → Int) (k : Nat) (p : Int × Int) : Int := cr (X k) (L k) (X (k + 1)) (L (k + 1)) p.1 p.2
def neg (x : Int) : Int := if x < 0 then 1 else 0
theorem ru_none {a0 a1 b0 b1 p0 p1 : Int} (h : (p0 < a0 ∧ p0 < b0) ∨ (a0 ≤ p0 ∧ b0 ≤ p0)) : ru a0 a1 b0 b1 p0 p1 = 0 := by
 unfold ru; rw [if_neg (by omega), if_neg (by omega)]
theorem ru_low {a0 a1 b0 b1 p0 p1 : Int} (h : a0 ≤ p0 ∧ p0 < b0) : ru a0 a1 b0 b1 p0 p1 = neg (cr a0 a1 b0 b1 p0 p1) := by
 unfold ru neg
 by_cases c : cr a0 a1 b0 b1 p0 p1 < 0
 ·rw [if_pos ⟨h.1, h.2, c⟩, if_pos c]
 ·rw [if_neg (by omega), if_neg (by omega), if_neg c]
theorem ru_high {a0 a1 b0 b1 p0 p1 : Int} (h : b0 ≤ p0 ∧ p0 < a0) : ru a0 a1 b0 b1 p0 p1 = -neg (cr b0 b1 a0 a1 p0 p1) := by
 unfold ru neg
 rw [if_neg (by omega)]
 by_cases c : cr b0 b1 a0 a1 p0 p1 < 0
 ·rw [if_pos ⟨h.1, h.2, c⟩, if_pos c]
 ·rw [if_neg (by omega), if_neg c]; rfl
/-- The rays of a point in a column. -/
theorem Mono.ray_in {m : Nat} {X L H : Nat → Int} (M : Mono m X L H) {k : Nat} (hk : k + 1 < m) {p : Int × Int} (h : X k ≤ p.1 ∧ p.1 < X (k + 1)) :
  raysU (mp m X L H) (2 * m) p = neg (cl X L k p) - neg (cl X H k p) := by
 unfold raysU
 rw [ring_sum M.two X L H (fun a b c d => ru a b c d p.1 p.2), ru_none (by omega), ru_none (by omega)]
 rw [sumT_one (i := k) (by omega)]
 ·rw [ru_low h, ru_high h]; unfold cl; omega
 ·intro j hj hne
  rcases Nat.lt_or_ge j k with c | c
  ·have := M.le (i := j + 1) (j := k) (by omega) (by omega)
   have := M.inc j (by omega)
   rw [ru_none (by omega), ru_none (by omega)]; rfl
  ·have := M.le (i := k + 1) (j := j) (by omega) (by omega)
   have := M.inc j (by omega)
   rw [ru_none (by omega), ru_none (by omega)]; rfl
theorem Mono.ray_out {m : Nat} {X L H : Nat → Int} (M : Mono m X L H) {p : Int × Int} (h : p.1 < X 0 ∨ X (m - 1) ≤ p.1) : raysU (mp m X L H) (2 * m) p = 0 := by
 have h2 := M.two
 unfold raysU
 rw [ring_sum h2 X L H (fun a b c d => ru a b c d p.1 p.2), ru_none (by omega), ru_none (by omega), sumT_zero]
 ·rfl
 ·intro j hj
  have := M.inc j (by omega)
  have := M.le (i := 0) (j := j) (by omega) (by omega)
  have := M.le (i := j + 1) (j := m - 1) (by omega) (by omega)
  rw [ru_none (by omega), ru_none (by omega)]; rfl
/-- The lower line is below the upper one. -/
theorem Mono.cl_lt {m : Nat} {X L H : Nat → Int} (M : Mono m X L H) {k : Nat} (hk : k + 1 < m) {p : Int × Int} (h : X k ≤ p.1 ∧ p.1 ≤ X (k + 1)) : cl X H k p < cl X L k p := by
 have h1 := M.inc k hk
 have h2 := M.lh k (by omega)
 have h3 := M.lh (k + 1) hk
 have e : cl X L k p - cl X H k p = (X (k + 1) - p.1) * (H k - L k) + (p.1 - X k) * (H (k + 1) - L (k + 1)) := by unfold cl cr; grind
 have a1 := Int.mul_nonneg (show 0 ≤ X (k + 1) - p.1 by omega) (show 0 ≤ H k - L k by omega)
 have a2 := Int.mul_nonneg (show 0 ≤ p.1 - X k by omega) (show 0 ≤ H (k + 1) - L (k + 1) by omega)
 rcases Int.lt_or_le (X k) p.1 with c | c
 ·have := Int.mul_pos (show 0 < p.1 - X k by omega) (show 0 < H (k + 1) - L (k + 1) by omega); omega
 ·have := Int.mul_pos (show 0 < X (k + 1) - p.1 by omega) (show 0 < H k - L k by omega); omega
end Go.Proofs.YtoaldbjcpfkcjaaGreat

namespace Go.Proofs.YtoaldbjcpfkcjaaGreat
open Geo

theorem btw_line {dx dy t u : Int} (h : dx * u = dy * t) (hd : 0 < dx) (h0 : 0 ≤ t) (h1 : t ≤ dx) : (0 ≤ dy → 0 ≤ u ∧ u ≤ dy) ∧ (dy ≤ 0 → dy ≤ u ∧ u ≤ 0) := by
 have key : ∀ x : Int, x < 0 → dx * x < 0 := fun x hx => Int.mul_neg_of_pos_of_neg hd hx
 have e : dx * (u - dy) = dy * t - dy * dx := by rw [Int.mul_sub, h, Int.mul_comm dx dy]
 have e2 : dy * t - dy * dx = -(dy * (dx - t)) := by grind
 have e3 : dx * (dy - u) = dy * (dx - t) := by grind
 constructor
 ·intro hy
  have a1 := Int.mul_nonneg hy h0
  have a2 := Int.mul_nonneg hy (show 0 ≤ dx - t by omega)
  constructor
  ·rcases Int.lt_or_le u 0 with c | c
   ·have := key u c; omega
   ·exact c
  ·rcases Int.lt_or_le dy u with c | c
   ·have := key (dy - u) (by omega); omega
   ·exact c
 ·intro hy
  have a1 := Int.mul_nonneg (show 0 ≤ -dy by omega) h0
  have a2 := Int.mul_nonneg (show 0 ≤ -dy by omega) (show 0 ≤ dx - t by omega)
  rw [Int.neg_mul] at a1 a2
  constructor
  ·rcases Int.lt_or_le u dy with c | c
   ·have := key (u - dy) (by omega); omega
   ·exact c
  ·rcases Int.lt_or_le 0 u with c | c
   ·have := Int.mul_pos hd c; omega
   ·exact c
theorem bx_of {a b c d e f : Int} (h : cr a b c d e f = 0) (hac : a < c) (k : a ≤ e ∧ e ≤ c) : bx a b c d e f := by
 have h' : (c - a) * (f - b) = (d - b) * (e - a) := by unfold cr at h; omega
 have := btw_line h' (by omega) (by omega) (by omega)
 refine ⟨.inl k, ?_⟩
 unfold bt
 rcases Int.le_total 0 (d - b) with q | q
 ·have := this.1 q; omega
 ·have := this.2 q; omega

section
variable {m : Nat} {X L H : Nat → Int}
theorem seg_low {k : Nat} (hk : k + 1 < m) : mp m X L H k = (X k, L k) ∧ mp m X L H (nx (2 * m) k) = (X (k + 1), L (k + 1)) := by
 unfold nx mp
 rw [if_neg (show ¬ k + 1 = 2 * m by omega), if_pos (show k < m by omega), if_pos hk]
 exact ⟨rfl, rfl⟩
theorem seg_high {k : Nat} (hk : k + 1 < m) : mp m X L H (2 * m - 2 - k) = (X (k + 1), H (k + 1)) ∧ mp m X L H (nx (2 * m) (2 * m - 2 - k)) = (X k, H k) := by
 unfold nx mp
 rw [if_neg (show ¬ 2 * m - 2 - k + 1 = 2 * m by omega), if_neg (show ¬ 2 * m - 2 - k < m by omega), if_neg (by omega), show 2 * m - 1 - (2 * m - 2 - k) = k + 1 by omega, show 2 * m - 1 - (2 * m - 2 - k + 1) = k by omega]
 exact ⟨rfl, rfl⟩
theorem seg_right (hm : 2 ≤ m) : mp m X L H (m - 1) = (X (m - 1), L (m - 1)) ∧ mp m X L H (nx (2 * m) (m - 1)) = (X (m - 1), H (m - 1)) := by
 unfold nx mp
 rw [if_neg (show ¬ m - 1 + 1 = 2 * m by omega), if_pos (show m - 1 < m by omega), if_neg (by omega), show 2 * m - 1 - (m - 1 + 1) = m - 1 by omega]
 exact ⟨rfl, rfl⟩
theorem seg_left (hm : 2 ≤ m) : mp m X L H (2 * m - 1) = (X 0, H 0) ∧ mp m X L H (nx (2 * m) (2 * m - 1)) = (X 0, L 0) := by
 unfold nx mp
 rw [if_pos (show 2 * m - 1 + 1 = 2 * m by omega), if_neg (show ¬ 2 * m - 1 < m by omega), if_pos (by omega), show 2 * m - 1 - (2 * m - 1) = 0 by omega]
 exact ⟨rfl, rfl⟩
/-- What holds of all segments. -/
theorem each {Q : Int × Int → Int × Int → Prop} (hm : 2 ≤ m) (h1 : ∀ k, k + 1 < m → Q (X k, L k) (X (k + 1), L (k + 1))) (h2 : ∀ k, k + 1 < m → Q (X (k + 1), H (k + 1)) (X k, H k)) (h3 : Q (X (m - 1), L (m - 1)) (X (m - 1), H (m - 1))) (h4 : Q (X 0, H 0) (X 0, L 0)) :
  ∀ k, k < 2 * m → Q (mp m X L H k) (mp m X L H (nx (2 * m) k)) := by
 intro k hk
 rcases (show k + 1 < m ∨ k = m - 1 ∨ (m ≤ k ∧ k < 2 * m - 1) ∨ k = 2 * m - 1 by omega) with c | rfl | c | rfl
 ·rw [(seg_low c).1, (seg_low c).2]; exact h1 k c
 ·rw [(seg_right hm).1, (seg_right hm).2]; exact h3
 ·obtain ⟨j, hj, rfl⟩ : ∃ j, j + 1 < m ∧ k = 2 * m - 2 - j := ⟨2 * m - 2 - k, by omega, by omega⟩
  rw [(seg_high hj).1, (seg_high hj).2]; exact h2 j hj
 ·rw [(seg_left hm).1, (seg_left hm).2]; exact h4
end

/-- A point is on a segment. -/
def OnS (a b p : Int × Int) : Prop := cr a.1 a.2 b.1 b.2 p.1 p.2 = 0 ∧ bx a.1 a.2 b.1 b.2 p.1 p.2
theorem off_iff {P : Nat → Int × Int} {n : Nat} {p : Int × Int} : Off P n p ↔ ∀ k, k < n → ¬ OnS (P k) (P (nx n k)) p := Iff.rfl

theorem up_on {x l h p0 p1 : Int} : (OnS (x, l) (x, h) (p0, p1) ↔ p0 = x ∧ bt p1 l h) ∧ (OnS (x, h) (x, l) (p0, p1) ↔ p0 = x ∧ bt p1 l h) := by
 unfold OnS bx cr bt
 simp only [Int.sub_self, Int.zero_mul]
 constructor
 ·constructor
  ·rintro ⟨-, h1, h2⟩; omega
  ·rintro ⟨rfl, h2⟩; refine ⟨by simp, by omega, by omega⟩
 ·constructor
  ·rintro ⟨-, h1, h2⟩; omega
  ·rintro ⟨rfl, h2⟩; refine ⟨by simp, by omega, by omega⟩
theorem cr_start (a b c d f : Int) : cr a b c d a f = (c - a) * (f - b) := by unfold cr; rw [Int.sub_self, Int.mul_zero, Int.sub_zero]
theorem cr_stop (a b c d f : Int) : cr a b c d c f = (c - a) * (f - d) := by unfold cr; grind

section
variable {m : Nat} {X L H : Nat → Int}
/-- Between the ends, a point is on the ring if it is on one of the lines of its column. -/
theorem Mono.off_in (M : Mono m X L H) {k : Nat} (hk : k + 1 < m) {p : Int × Int} (h : X k ≤ p.1 ∧ p.1 < X (k + 1)) (h0 : X 0 < p.1) : Off (mp m X L H) (2 * m) p ↔ cl X L k p ≠ 0 ∧ cl X H k p ≠ 0 := by
 have h2 := M.two
 have hi := M.inc k hk
 constructor
 ·intro hO
  constructor
  ·intro hc
   have := hO k (by omega)
   rw [(seg_low hk).1, (seg_low hk).2] at this
   exact this ⟨hc, bx_of hc hi ⟨h.1, by omega⟩⟩
  ·intro hc
   have := hO (2 * m - 2 - k) (by omega)
   rw [(seg_high hk).1, (seg_high hk).2] at this
   refine this ⟨by rw [cr_sw]; show -(cl X H k p) = 0; omega, ?_⟩
   have := bx_of (show cr (X k) (H k) (X (k + 1)) (H (k + 1)) p.1 p.2 = 0 from hc) hi ⟨h.1, by omega⟩
   unfold bx bt at *; simp only; omega
 ·intro ⟨g1, g2⟩
  refine off_iff.2 (each (Q := fun a b => ¬ OnS a b p) h2 ?_ ?_ ?_ ?_)
  ·rintro j hj ⟨e1, e2, -⟩
   unfold bt at e2
   simp only at e1 e2
   have hj' := M.inc j hj
   rcases Nat.lt_trichotomy j k with c | rfl | c
   ·have := M.le (i := j + 1) (j := k) (by omega) (by omega)
    have e4 : p.1 = X k := by omega
    have e5 : p.1 = X (j + 1) := by omega
    have e3 : j + 1 = k := by
     rcases Nat.lt_or_ge (j + 1) k with c | c
     ·have := M.lt c (by omega); omega
     ·omega
    subst e3
    rw [e5, cr_stop] at e1
    refine g1 ?_
    unfold cl
    rw [e5, cr_start]
    rcases Int.mul_eq_zero.1 e1 with q | q
    ·omega
    ·rw [q, Int.mul_zero]
   ·exact g1 e1
   ·have := M.le (i := k + 1) (j := j) (by omega) (by omega); omega
  ·rintro j hj ⟨e1, e2, -⟩
   unfold bt at e2
   simp only at e1 e2
   rw [cr_sw] at e1
   have hj' := M.inc j hj
   rcases Nat.lt_trichotomy j k with c | rfl | c
   ·have := M.le (i := j + 1) (j := k) (by omega) (by omega)
    have e4 : p.1 = X k := by omega
    have e5 : p.1 = X (j + 1) := by omega
    have e3 : j + 1 = k := by
     rcases Nat.lt_or_ge (j + 1) k with c | c
     ·have := M.lt c (by omega); omega
     ·omega
    subst e3
    rw [e5, cr_stop] at e1
    refine g2 ?_
    unfold cl
    rw [e5, cr_start]
    rcases Int.mul_eq_zero.1 (show (X (j + 1) - X j) * (p.2 - H (j + 1)) = 0 by omega) with q | q
    ·omega
    ·rw [q, Int.mul_zero]
   ·exact g2 (show cr _ _ _ _ _ _ = 0 by omega)
   ·have := M.le (i := k + 1) (j := j) (by omega) (by omega); omega
  ·intro e
   have e1 := (up_on (x := X (m - 1)) (l := L (m - 1)) (h := H (m - 1)) (p0 := p.1) (p1 := p.2)).1.1 e
   have := M.le (i := k + 1) (j := m - 1) (by omega) (by omega)
   omega
  ·intro e
   have e1 := (up_on (x := X 0) (l := L 0) (h := H 0) (p0 := p.1) (p1 := p.2)).2.1 e
   omega
theorem Mono.off_left (M : Mono m X L H) {p : Int × Int} (h0 : p.1 = X 0) : Off (mp m X L H) (2 * m) p ↔ ¬ (L 0 ≤ p.2 ∧ p.2 ≤ H 0) := by
 have h2 := M.two
 have hi := M.lh 0 (by omega)
 constructor
 ·intro hO hc
  have := hO (2 * m - 1) (by omega)
  rw [(seg_left h2).1, (seg_left h2).2] at this
  exact this ((up_on (x := X 0) (l := L 0) (h := H 0) (p0 := p.1) (p1 := p.2)).2.2 ⟨h0, .inl hc⟩)
 ·intro hc
  have hx := M.inc 0 (by omega)
  refine off_iff.2 (each (Q := fun a b => ¬ OnS a b p) h2 ?_ ?_ ?_ ?_)
  ·rintro j hj ⟨e1, e2, -⟩
   unfold bt at e2
   simp only at e1 e2
   have hj' := M.inc j hj
   have := M.le (i := 0) (j := j) (by omega) (by omega)
   obtain rfl : j = 0 := by
    rcases Nat.eq_zero_or_pos j with c | c
    ·exact c
    ·have := M.lt c (by omega); omega
   rw [h0, cr_start] at e1
   rcases Int.mul_eq_zero.1 e1 with q | q <;> omega
  ·rintro j hj ⟨e1, e2, -⟩
   unfold bt at e2
   simp only at e1 e2
   have hj' := M.inc j hj
   have := M.le (i := 0) (j := j) (by omega) (by omega)
   obtain rfl : j = 0 := by
    rcases Nat.eq_zero_or_pos j with c | c
    ·exact c
    ·have := M.lt c (by omega); omega
   rw [h0, cr_stop] at e1
   rcases Int.mul_eq_zero.1 e1 with q | q <;> omega
  ·intro e
   have e1 := (up_on (x := X (m - 1)) (l := L (m - 1)) (h := H (m - 1)) (p0 := p.1) (p1 := p.2)).1.1 e
   have := M.lt (i := 0) (j := m - 1) (by omega) (by omega)
   omega
  ·intro e
   have e1 := (up_on (x := X 0) (l := L 0) (h := H 0) (p0 := p.1) (p1 := p.2)).2.1 e
   unfold bt at e1
   omega
theorem Mono.off_right (M : Mono m X L H) {p : Int × Int} (h0 : p.1 = X (m - 1)) : Off (mp m X L H) (2 * m) p ↔ ¬ (L (m - 1) ≤ p.2 ∧ p.2 ≤ H (m - 1)) := by
 have h2 := M.two
 have hi := M.lh (m - 1) (by omega)
 constructor
 ·intro hO hc
  have := hO (m - 1) (by omega)
  rw [(seg_right h2).1, (seg_right h2).2] at this
  exact this ((up_on (x := X (m - 1)) (l := L (m - 1)) (h := H (m - 1)) (p0 := p.1) (p1 := p.2)).1.2 ⟨h0, .inl hc⟩)
 ·intro hc
  refine off_iff.2 (each (Q := fun a b => ¬ OnS a b p) h2 ?_ ?_ ?_ ?_)
  ·rintro j hj ⟨e1, e2, -⟩
   unfold bt at e2
   simp only at e1 e2
   have hj' := M.inc j hj
   have := M.le (i := j + 1) (j := m - 1) (by omega) (by omega)
   have e3 : j + 1 = m - 1 := by
    rcases Nat.lt_or_ge (j + 1) (m - 1) with c | c
    ·have := M.lt c (by omega); omega
    ·omega
   rw [e3] at e1 hj'
   rw [h0, cr_stop] at e1
   rcases Int.mul_eq_zero.1 e1 with q | q <;> omega
  ·rintro j hj ⟨e1, e2, -⟩
   unfold bt at e2
   simp only at e1 e2
   have hj' := M.inc j hj
   have := M.le (i := j + 1) (j := m - 1) (by omega) (by omega)
   have e3 : j + 1 = m - 1 := by
    rcases Nat.lt_or_ge (j + 1) (m - 1) with c | c
    ·have := M.lt c (by omega); omega
    ·omega
   rw [e3] at e1 hj'
   rw [h0, cr_start] at e1
   rcases Int.mul_eq_zero.1 e1 with q | q <;> omega
  ·intro e
   have e1 := (up_on (x := X (m - 1)) (l := L (m - 1)) (h := H (m - 1)) (p0 := p.1) (p1 := p.2)).1.1 e
   unfold bt at e1
   omega
  ·intro e
   have e1 := (up_on (x := X 0) (l := L 0) (h := H 0) (p0 := p.1) (p1 := p.2)).2.1 e
   have := M.lt (i := 0) (j := m - 1) (by omega) (by omega)
   omega
theorem mp_x (M : Mono m X L H) {k : Nat} (hk : k < 2 * m) : X 0 ≤ (mp m X L H k).1 ∧ (mp m X L H k).1 ≤ X (m - 1) := by
 unfold mp
 split
 ·exact ⟨M.le (by omega) (by omega), M.le (by omega) (by omega)⟩
 ·exact ⟨M.le (by omega) (by omega), M.le (by omega) (by omega)⟩

open Classical in
/-- What a point counts: 1 on the ring, 2 in it. -/
noncomputable def wt (P : Nat → Int × Int) (n : Nat) (p : Int × Int) : Int := if Off P n p then (if rays P n p = 0 then 0 else 2) else 1

theorem Mono.wt_out (M : Mono m X L H) {p : Int × Int} (h : p.1 < X 0 ∨ X (m - 1) < p.1) : wt (mp m X L H) (2 * m) p = 0 := by
 have h2 := M.two
 have := beside (P := mp m X L H) (n := 2 * m) (p := p) (by
  rcases h with h | h
  ·exact .inl fun k hk => by have := mp_x M hk; omega
  ·exact .inr (.inl fun k hk => by have := mp_x M hk; omega))
 unfold wt
 rw [if_pos this.1, if_pos this.2]
theorem Mono.wt_in (M : Mono m X L H) {k : Nat} (hk : k + 1 < m) {p : Int × Int} (h : X k ≤ p.1 ∧ p.1 < X (k + 1)) (h0 : X 0 < p.1) : wt (mp m X L H) (2 * m) p = (cl X L k p).sign - (cl X H k p).sign := by
 have hlt := M.cl_lt hk (p := p) ⟨h.1, by omega⟩
 unfold wt
 by_cases hO : Off (mp m X L H) (2 * m) p
 ·rw [if_pos hO, rays_up hO, M.ray_in hk h]
  have := (M.off_in hk h h0).1 hO
  rcases Int.lt_or_gt_of_ne this.1 with c | c <;> rcases Int.lt_or_gt_of_ne this.2 with d | d
  ·have e : neg (cl X L k p) - neg (cl X H k p) = 0 := by unfold neg; rw [if_pos c, if_pos d]; rfl
   rw [e, if_pos rfl, Int.sign_eq_neg_one_of_neg c, Int.sign_eq_neg_one_of_neg d]; rfl
  ·omega
  ·have e : neg (cl X L k p) - neg (cl X H k p) = -1 := by unfold neg; rw [if_neg (show ¬ cl X L k p < 0 by omega), if_pos d]; rfl
   rw [e, if_neg (by omega), Int.sign_eq_one_of_pos c, Int.sign_eq_neg_one_of_neg d]; rfl
  ·have e : neg (cl X L k p) - neg (cl X H k p) = 0 := by unfold neg; rw [if_neg (show ¬ cl X L k p < 0 by omega), if_neg (show ¬ cl X H k p < 0 by omega)]; rfl
   rw [e, if_pos rfl, Int.sign_eq_one_of_pos c, Int.sign_eq_one_of_pos d]; rfl
 ·rw [if_neg hO]
  have : cl X L k p = 0 ∨ cl X H k p = 0 := by
   refine Decidable.byContradiction fun hc => hO ((M.off_in hk h h0).2 ⟨fun e => hc (.inl e), fun e => hc (.inr e)⟩)
  rcases this with c | c
  ·rw [c, Int.sign_eq_neg_one_of_neg (show cl X H k p < 0 by omega)]; rfl
  ·rw [c, Int.sign_eq_one_of_pos (show 0 < cl X L k p by omega)]; rfl
open Classical in
theorem Mono.wt_left (M : Mono m X L H) {p : Int × Int} (h : p.1 = X 0) : wt (mp m X L H) (2 * m) p = if L 0 ≤ p.2 ∧ p.2 ≤ H 0 then 1 else 0 := by
 have h2 := M.two
 have hx : X 0 < X 1 := M.inc 0 (by omega)
 have hy := M.lh 0 (by omega)
 have hO := M.off_left h
 unfold wt
 by_cases c : L 0 ≤ p.2 ∧ p.2 ≤ H 0
 ·rw [if_pos c, if_neg (fun h => hO.1 h c)]
 ·rw [if_neg c, if_pos (hO.2 c), rays_up (hO.2 c), M.ray_in (k := 0) (by omega) ⟨by omega, by show p.1 < X 1; omega⟩]
  have e : ∀ Y : Nat → Int, cl X Y 0 p = (X 1 - X 0) * (p.2 - Y 0) := fun Y => by unfold cl; rw [h, cr_start]
  rw [e L, e H]
  have e0 : neg ((X 1 - X 0) * (p.2 - L 0)) - neg ((X 1 - X 0) * (p.2 - H 0)) = 0 := by
   unfold neg
   rcases (show p.2 < L 0 ∨ H 0 < p.2 by omega) with d | d
   ·have a1 := Int.mul_neg_of_pos_of_neg (show 0 < X 1 - X 0 by omega) (show p.2 - L 0 < 0 by omega)
    have a2 := Int.mul_neg_of_pos_of_neg (show 0 < X 1 - X 0 by omega) (show p.2 - H 0 < 0 by omega)
    rw [if_pos a1, if_pos a2]; rfl
   ·have a1 := Int.mul_pos (show 0 < X 1 - X 0 by omega) (show 0 < p.2 - L 0 by omega)
    have a2 := Int.mul_pos (show 0 < X 1 - X 0 by omega) (show 0 < p.2 - H 0 by omega)
    rw [if_neg (by omega), if_neg (by omega)]; rfl
  rw [e0, if_pos rfl]
open Classical in
theorem Mono.wt_right (M : Mono m X L H) {p : Int × Int} (h : p.1 = X (m - 1)) : wt (mp m X L H) (2 * m) p = if L (m - 1) ≤ p.2 ∧ p.2 ≤ H (m - 1) then 1 else 0 := by
 have hO := M.off_right h
 unfold wt
 by_cases c : L (m - 1) ≤ p.2 ∧ p.2 ≤ H (m - 1)
 ·rw [if_pos c, if_neg (fun h => hO.1 h c)]
 ·rw [if_neg c, if_pos (hO.2 c), rays_up (hO.2 c), M.ray_out (.inr (by omega)), if_pos rfl]
end
end Go.Proofs.YtoaldbjcpfkcjaaGreat

namespace Go.Proofs.YtoaldbjcpfkcjaaGreat
open Go.RowKit Go.Lib Geo

theorem reach_pos {A B C D a b c d m : Int} (h1 : D - C = A - B) (h2 : D * c - C * d = A * b - B * a) (hA : 0 ≤ A) (hB : B ≤ 0) (hC : C ≤ 0) (hD : 0 ≤ D) (hE : 0 < A - B) (ha : a ≤ m) (hb : b ≤ m) (hc : m + 1 ≤ c) (hd : m + 1 ≤ d) : False := by
 have p1 : 0 ≤ D * (c - (m + 1)) := Int.mul_nonneg hD (by omega)
 have p2 : 0 ≤ (-C) * (d - (m + 1)) := Int.mul_nonneg (by omega) (by omega)
 have p3 : 0 ≤ A * (m - b) := Int.mul_nonneg hA (by omega)
 have p4 : 0 ≤ (-B) * (m - a) := Int.mul_nonneg (by omega) (by omega)
 have e : D * (c - (m + 1)) + (-C) * (d - (m + 1)) + A * (m - b) + (-B) * (m - a) = D * c - C * d - (A * b - B * a) + (A - B) * m - (D - C) * m - (D - C) := by grind
 rw [h1, h2] at e
 omega
theorem reach {A B C D a b c d : Int} (h1 : D - C = A - B) (h2 : D * c - C * d = A * b - B * a) (hs1 : (0 ≤ A ∧ B ≤ 0) ∨ (A ≤ 0 ∧ 0 ≤ B)) (hs2 : (0 ≤ C ∧ D ≤ 0) ∨ (C ≤ 0 ∧ 0 ≤ D))
  (hne : ¬ (A = 0 ∧ B = 0 ∧ C = 0 ∧ D = 0)) : min c d ≤ max a b := by
 refine Int.not_lt.1 fun hlt => ?_
 rcases Int.lt_trichotomy (A - B) 0 with hE | hE | hE
 ·exact reach_pos (A := -A) (B := -B) (C := -C) (D := -D) (a := a) (b := b) (c := c) (d := d) (m := max a b) (by omega) (by grind) (by omega) (by omega) (by omega) (by omega) (by omega) (by omega) (by omega) (by omega) (by omega)
 ·exact hne (by omega)
 ·exact reach_pos (m := max a b) h1 h2 (by omega) (by omega) (by omega) (by omega) hE (by omega) (by omega) (by omega) (by omega)
theorem opp_of {x y : Int} (h : x.sign * y.sign ≤ 0) : (0 ≤ x ∧ y ≤ 0) ∨ (x ≤ 0 ∧ 0 ≤ y) := by
 rcases Int.lt_trichotomy x 0 with hx | hx | hx <;> rcases Int.lt_trichotomy y 0 with hy | hy | hy
 ·rw [Int.sign_eq_neg_one_of_neg hx, Int.sign_eq_neg_one_of_neg hy] at h; omega
 ·omega
 ·omega
 ·omega
 ·omega
 ·omega
 ·omega
 ·omega
 ·rw [Int.sign_eq_one_of_pos hx, Int.sign_eq_one_of_pos hy] at h; omega
/-- The boxes of two segments meet. -/
def bnear (a0 a1 b0 b1 c0 c1 d0 d1 : Int) : Prop := min a0 b0 ≤ max c0 d0 ∧ min c0 d0 ≤ max a0 b0 ∧ min a1 b1 ≤ max c1 d1 ∧ min c1 d1 ≤ max a1 b1
theorem bnear_cross {a0 a1 b0 b1 c0 c1 d0 d1 : Int} (hs1 : (0 ≤ cr c0 c1 d0 d1 a0 a1 ∧ cr c0 c1 d0 d1 b0 b1 ≤ 0) ∨ (cr c0 c1 d0 d1 a0 a1 ≤ 0 ∧ 0 ≤ cr c0 c1 d0 d1 b0 b1))
  (hs2 : (0 ≤ cr a0 a1 b0 b1 c0 c1 ∧ cr a0 a1 b0 b1 d0 d1 ≤ 0) ∨ (cr a0 a1 b0 b1 c0 c1 ≤ 0 ∧ 0 ≤ cr a0 a1 b0 b1 d0 d1))
  (hne : ¬ (cr c0 c1 d0 d1 a0 a1 = 0 ∧ cr c0 c1 d0 d1 b0 b1 = 0 ∧ cr a0 a1 b0 b1 c0 c1 = 0 ∧ cr a0 a1 b0 b1 d0 d1 = 0)) : bnear a0 a1 b0 b1 c0 c1 d0 d1 := by
 have h1 : cr a0 a1 b0 b1 d0 d1 - cr a0 a1 b0 b1 c0 c1 = cr c0 c1 d0 d1 a0 a1 - cr c0 c1 d0 d1 b0 b1 := by unfold cr; grind
 have hx : cr a0 a1 b0 b1 d0 d1 * c0 - cr a0 a1 b0 b1 c0 c1 * d0 = cr c0 c1 d0 d1 a0 a1 * b0 - cr c0 c1 d0 d1 b0 b1 * a0 := by unfold cr; grind
 have hy : cr a0 a1 b0 b1 d0 d1 * c1 - cr a0 a1 b0 b1 c0 c1 * d1 = cr c0 c1 d0 d1 a0 a1 * b1 - cr c0 c1 d0 d1 b0 b1 * a1 := by unfold cr; grind
 have n2 : ¬ (cr a0 a1 b0 b1 c0 c1 = 0 ∧ cr a0 a1 b0 b1 d0 d1 = 0 ∧ cr c0 c1 d0 d1 a0 a1 = 0 ∧ cr c0 c1 d0 d1 b0 b1 = 0) := by omega
 exact ⟨reach (by omega) (by omega) hs2 hs1 n2, reach h1 hx hs1 hs2 hne, reach (by omega) (by omega) hs2 hs1 n2, reach h1 hy hs1 hs2 hne⟩
theorem ov_some {ka kb kc kd : Int} (h : ov ka kb kc kd ≠ 0) : ((kc ≤ ka ∧ ka ≤ kd) ∨ (kd ≤ ka ∧ ka ≤ kc)) ∨ ((kc ≤ kb ∧ kb ≤ kd) ∨ (kd ≤ kb ∧ kb ≤ kc)) ∨ ((ka ≤ kc ∧ kc ≤ kb) ∨ (kb ≤ kc ∧ kc ≤ ka)) ∨ ((ka ≤ kd ∧ kd ≤ kb) ∨ (kb ≤ kd ∧ kd ≤ ka)) := by
 unfold ov at h
 split at h
 ·omega
 ·split at h
  ·omega
  ·exact absurd rfl h
theorem bnear_of_meet {a0 a1 b0 b1 c0 c1 d0 d1 : Int} (ha : In a0 a1) (hb : In b0 b1) (hc : In c0 c1) (hd : In d0 d1) (h : meetOf a0 a1 b0 b1 c0 c1 d0 d1 ≠ 0) : bnear a0 a1 b0 b1 c0 c1 d0 d1 := by
 rw [meet_of ha hb hc hd] at h
 unfold meetS at h
 split at h
 ·rename_i hz
  obtain ⟨z1, z2, z3, z4⟩ := hz
  rw [Int.sign_eq_zero_iff_zero] at z1 z2 z3 z4
  have e := ov_some h
  rw [← box_key hc.sm hd.sm ha.sm z1, ← box_key hc.sm hd.sm hb.sm z2, ← box_key ha.sm hb.sm hc.sm z3, ← box_key ha.sm hb.sm hd.sm z4] at e
  unfold bx bt at e
  unfold bnear
  omega
 ·rename_i hz
  split at h
  ·rename_i hp
   refine bnear_cross (opp_of hp.1) (opp_of hp.2) (fun hq => hz ?_)
   simp only [Int.sign_eq_zero_iff_zero]
   exact hq
  ·exact absurd rfl h

end Go.Proofs.YtoaldbjcpfkcjaaGreat

namespace Go.Proofs.YtoaldbjcpfkcjaaGreat
open Go.RowKit Go.Lib Geo

/-- How many points two segments have in common. -/
def mt (a b c d : Int × Int) : Int := meetOf a.1 a.2 b.1 b.2 c.1 c.2 d.1 d.2
section
variable {m : Nat} {X L H : Nat → Int}
end
end Go.Proofs.YtoaldbjcpfkcjaaGreat

namespace Go.Proofs.YtoaldbjcpfkcjaaGreat
open Go.RowKit Go.Lib Geo

section
variable {n : Nat} {P : Nat → Int × Int}
/-- The other direction. -/
def bk (n : Nat) (P : Nat → Int × Int) (k : Nat) : Int × Int := P (n - 1 - k)
end
end Go.Proofs.YtoaldbjcpfkcjaaGreat

namespace Go.Proofs.YtoaldbjcpfkcjaaGreat
open Geo

/-- The sum over n numbers from a on. -/
def sumI (f : Int → Int) (a : Int) (n : Nat) : Int := sumT (fun k => f (a + k)) n
theorem sumI_split (f : Int → Int) (a : Int) (n k : Nat) : sumI f a (n + k) = sumI f a n + sumI f (a + n) k := by
 unfold sumI
 rw [sumT_split]
 congr 1
 exact sumT_congr fun j _ => by rw [show a + ((n + j : Nat) : Int) = a + n + j by omega]
theorem sumI_congr {f g : Int → Int} {a : Int} {n : Nat} (h : ∀ x, a ≤ x → x < a + n → f x = g x) : sumI f a n = sumI g a n := sumT_congr fun k hk => h _ (by omega) (by omega)
theorem sumI_const {f : Int → Int} {a : Int} {n : Nat} (c : Int) (h : ∀ x, a ≤ x → x < a + n → f x = c) : sumI f a n = n * c := by
 rw [sumI_congr (g := fun _ => c) h]; exact sumT_const c n
theorem sumI_zero {f : Int → Int} {a : Int} {n : Nat} (h : ∀ x, a ≤ x → x < a + n → f x = 0) : sumI f a n = 0 := by rw [sumI_const 0 h]; omega
theorem sumI_one (f : Int → Int) (a : Int) : sumI f a 1 = f a := by simp [sumI, sumT]
theorem sumI_sub (f g : Int → Int) (a : Int) (n : Nat) : sumI (fun x => f x - g x) a n = sumI f a n - sumI g a n := sumT_sub _ _ _

/-- The signs of D y - N, for all y from -B to B. -/
def gs (B : Nat) (D N : Int) : Int := sumI (fun y => (D * y - N).sign) (-B) (2 * B + 1)
theorem gs_of {B : Nat} {D q r : Int} (h0 : 0 ≤ r) (h1 : r < D) (hq : -B ≤ q ∧ q ≤ B) : gs B D (D * q + r) = -2 * q - (if r = 0 then 0 else 1) := by
 obtain ⟨i, hi⟩ : ∃ i : Nat, q = i - B := ⟨(q + B).toNat, by omega⟩
 obtain ⟨j, hj⟩ : ∃ j : Nat, 2 * B + 1 = i + (1 + j) := ⟨2 * B - i, by omega⟩
 unfold gs
 rw [hj, sumI_split, sumI_split, sumI_one]
 have e : ∀ y, D * y - (D * q + r) = D * (y - q) - r := fun y => by rw [Int.mul_sub]; omega
 rw [sumI_const (-1), sumI_const 1, show (-(B : Int) + i) = q by omega, e, Int.sub_self, Int.mul_zero]
 ·split
  ·next h => subst h; simp; omega
  ·next h => rw [Int.sign_eq_neg_one_of_neg (show 0 - r < 0 by omega)]; omega
 ·intro x hx _
  have h2 := Int.mul_le_mul_of_nonneg_left (show (1 : Int) ≤ x - q by omega) (show 0 ≤ D by omega)
  simp only [e]
  exact Int.sign_eq_one_of_pos (by omega)
 ·intro x _ hx
  have h2 := Int.mul_le_mul_of_nonneg_left (show x - q ≤ (-1 : Int) by omega) (show 0 ≤ D by omega)
  simp only [e]
  exact Int.sign_eq_neg_one_of_neg (by omega)
theorem quo_bd {B : Nat} {D q r : Int} (h0 : 0 ≤ r) (h1 : r < D) (hN : -(D * B) ≤ D * q + r ∧ D * q + r ≤ D * B) : -B ≤ q ∧ q ≤ B := by
 constructor
 ·rcases Int.lt_or_le q (-B) with c | c
  ·have := Int.mul_le_mul_of_nonneg_left (show q ≤ -(B : Int) - 1 by omega) (show 0 ≤ D by omega)
   rw [Int.mul_sub, Int.mul_neg] at this; omega
  ·exact c
 ·rcases Int.lt_or_le B q with c | c
  ·have := Int.mul_le_mul_of_nonneg_left (show (B : Int) + 1 ≤ q by omega) (show 0 ≤ D by omega)
   rw [Int.mul_add] at this; omega
  ·exact c
theorem gs_at {B : Nat} {D q : Int} (hD : 0 < D) (hq : -B ≤ q ∧ q ≤ B) : gs B D (D * q) = -2 * q := by
 have := gs_of (D := D) (r := 0) (q := q) (B := B) (by omega) hD hq
 rw [Int.add_zero, if_pos rfl] at this; omega
/-- Two numbers whose sum is a multiple of D. -/
theorem gs_pair {B : Nat} {D N s : Int} (hD : 0 < D) (hN : -(D * B) ≤ N ∧ N ≤ D * B) (hM : -(D * B) ≤ D * s - N ∧ D * s - N ≤ D * B) : gs B D N + gs B D (D * s - N) = -2 * s := by
 have e := Int.mul_ediv_add_emod N D
 have h0 := Int.emod_nonneg N (show D ≠ 0 by omega)
 have h1 := Int.emod_lt_of_pos N hD
 generalize N / D = q at *
 generalize N % D = r at *
 subst e
 rw [gs_of h0 h1 (quo_bd h0 h1 hN)]
 by_cases c : r = 0
 ·subst c
  have e2 : D * s - (D * q + 0) = D * (s - q) + 0 := by grind
  rw [e2] at hM ⊢
  rw [gs_of (by omega) hD (quo_bd (by omega) hD hM), if_pos rfl]; omega
 ·have e2 : D * s - (D * q + r) = D * (s - q - 1) + (D - r) := by grind
  rw [e2] at hM ⊢
  rw [gs_of (by omega) (by omega) (quo_bd (by omega) (by omega) hM), if_neg c, if_neg (by omega)]; omega

/-- The line of a column, times the column's width. -/
def ln (D a b t : Int) : Int := D * a + (b - a) * t
theorem ln_bd {B : Nat} {D a b t : Int} (h0 : 0 ≤ t) (h1 : t ≤ D) (ha : -B ≤ a ∧ a ≤ B) (hb : -B ≤ b ∧ b ≤ B) : -(D * B) ≤ ln D a b t ∧ ln D a b t ≤ D * B := by
 have e1 : D * B - ln D a b t = (D - t) * (B - a) + t * (B - b) := by unfold ln; grind
 have e2 : ln D a b t + D * B = (D - t) * (B + a) + t * (B + b) := by unfold ln; grind
 have a1 := Int.mul_nonneg (show 0 ≤ D - t by omega) (show 0 ≤ (B : Int) - a by omega)
 have a2 := Int.mul_nonneg h0 (show 0 ≤ (B : Int) - b by omega)
 have a3 := Int.mul_nonneg (show 0 ≤ D - t by omega) (show 0 ≤ (B : Int) + a by omega)
 have a4 := Int.mul_nonneg h0 (show 0 ≤ (B : Int) + b by omega)
 omega
theorem col_sum {B : Nat} {D a b : Int} (d : Nat) (hd : D = d) (hD : 0 < D) (ha : -B ≤ a ∧ a ≤ B) (hb : -B ≤ b ∧ b ≤ B) : sumT (fun t => gs B D (ln D a b t)) (d + 1) = -((D + 1) * (a + b)) := by
 have h1 : sumT (fun t => gs B D (ln D a b t) + gs B D (ln D a b ((d - t : Nat) : Int))) (d + 1) = ((d + 1 : Nat) : Int) * (-2 * (a + b)) := by
  rw [sumT_congr (g := fun _ => -2 * (a + b)), sumT_const]
  intro t ht
  have e : ln D a b ((d - t : Nat) : Int) = D * (a + b) - ln D a b t := by
   rw [show ((d - t : Nat) : Int) = D - t by omega]; unfold ln; grind
  have b1 := ln_bd (D := D) (t := t) (by omega) (by omega) ha hb
  have b2 := ln_bd (D := D) (t := ((d - t : Nat) : Int)) (by omega) (by omega) ha hb
  rw [e] at b2 ⊢
  exact gs_pair hD b1 b2
 have h2 := sumT_flip (fun t => gs B D (ln D a b t)) (d + 1)
 rw [sumT_add] at h1
 simp only [Nat.add_sub_cancel] at h2
 rw [h2] at h1
 rw [show ((d + 1 : Nat) : Int) = D + 1 by omega, show (D + 1) * (-2 * (a + b)) = -2 * ((D + 1) * (a + b)) by grind] at h1
 omega

section
variable {m : Nat} {X L H : Nat → Int}
/-- A column of points. -/
noncomputable def wcol (P : Nat → Int × Int) (n : Nat) (B : Nat) (x : Int) : Int := sumI (fun y => wt P n (x, y)) (-B) (2 * B + 1)
theorem Mono.wcol_in (M : Mono m X L H) {k : Nat} (hk : k + 1 < m) (B : Nat) {x : Int} (h : X k ≤ x ∧ x < X (k + 1)) (h0 : X 0 < x) : wcol (mp m X L H) (2 * m) B x = gs B (X (k + 1) - X k) (ln (X (k + 1) - X k) (L k) (L (k + 1)) (x - X k)) - gs B (X (k + 1) - X k) (ln (X (k + 1) - X k) (H k) (H (k + 1)) (x - X k)) := by
 unfold wcol gs
 rw [← sumI_sub]
 refine sumI_congr fun y _ _ => ?_
 rw [M.wt_in hk (p := (x, y)) h h0]
 have e : ∀ Y : Nat → Int, cl X Y k (x, y) = (X (k + 1) - X k) * y - ln (X (k + 1) - X k) (Y k) (Y (k + 1)) (x - X k) := fun Y => by unfold cl cr ln; simp only; grind
 rw [e L, e H]
open Classical in
theorem count_in {B : Nat} {l h : Int} (hl : -B ≤ l) (hlh : l ≤ h) (hh : h ≤ B) {f : Int → Int} (hf : ∀ y, f y = if l ≤ y ∧ y ≤ h then 1 else 0) : sumI f (-B) (2 * B + 1) = h - l + 1 := by
 obtain ⟨i, hi⟩ : ∃ i : Nat, l = i - B := ⟨(l + B).toNat, by omega⟩
 obtain ⟨j, hj⟩ : ∃ j : Nat, h = l + j := ⟨(h - l).toNat, by omega⟩
 obtain ⟨n, hn⟩ : ∃ n : Nat, 2 * B + 1 = i + ((j + 1) + n) := ⟨2 * B - (i + j), by omega⟩
 rw [hn, sumI_split, sumI_split, sumI_zero, sumI_const 1, sumI_zero]
 ·omega
 ·intro x h1 h2; rw [hf, if_neg (by omega)]
 ·intro x h1 h2; rw [hf, if_pos (by omega)]
 ·intro x h1 h2; rw [hf, if_neg (by omega)]
/-- The columns between the first one and the j-th one. -/
theorem Mono.inner (M : Mono m X L H) {B : Nat} (hB : ∀ k, k < m → (-B ≤ L k ∧ L k ≤ B) ∧ (-B ≤ H k ∧ H k ≤ B)) : ∀ j, j + 1 < m →
  sumI (wcol (mp m X L H) (2 * m) B) (X 0 + 1) (X (j + 1) - X 0 - 1).toNat = sumT (trap X L H) (j + 1) - (H 0 - L 0) - (H (j + 1) - L (j + 1)) := by
 have one : ∀ k, k + 1 < m → sumI (wcol (mp m X L H) (2 * m) B) (X k + 1) (X (k + 1) - X k - 1).toNat = trap X L H k - (H k - L k) - (H (k + 1) - L (k + 1)) := by
  intro k hk
  have hi := M.inc k hk
  have h0 := M.le (i := 0) (j := k) (by omega) (by omega)
  obtain ⟨d, hd⟩ : ∃ d : Nat, X (k + 1) - X k = d + 1 := ⟨(X (k + 1) - X k - 1).toNat, by omega⟩
  have e1 : sumI (wcol (mp m X L H) (2 * m) B) (X k + 1) (X (k + 1) - X k - 1).toNat = sumT (fun t => gs B (X (k + 1) - X k) (ln (X (k + 1) - X k) (L k) (L (k + 1)) ((t + 1 : Nat) : Int)) - gs B (X (k + 1) - X k) (ln (X (k + 1) - X k) (H k) (H (k + 1)) ((t + 1 : Nat) : Int))) d := by
   rw [show (X (k + 1) - X k - 1).toNat = d by omega]
   unfold sumI
   refine sumT_congr fun t ht => ?_
   rw [M.wcol_in hk B (x := X k + 1 + t) (by omega) (by omega), show X k + 1 + (t : Int) - X k = ((t + 1 : Nat) : Int) by omega]
  rw [e1, sumT_sub]
  have b1 := hB k (by omega)
  have b2 := hB (k + 1) hk
  have full : ∀ a b : Int, (-B ≤ a ∧ a ≤ B) → (-B ≤ b ∧ b ≤ B) → sumT (fun t => gs B (X (k + 1) - X k) (ln (X (k + 1) - X k) a b ((t + 1 : Nat) : Int))) d = -((X (k + 1) - X k + 1) * (a + b)) + 2 * a + 2 * b := by
   intro a b ha hb
   have e2 := col_sum (D := X (k + 1) - X k) (a := a) (b := b) (B := B) (d + 1) (by omega) (by omega) ha hb
   rw [sumT_first, sumT] at e2
   have e3 : ln (X (k + 1) - X k) a b ((0 : Nat) : Int) = (X (k + 1) - X k) * a := by unfold ln; grind
   have e4 : ln (X (k + 1) - X k) a b ((d + 1 : Nat) : Int) = (X (k + 1) - X k) * b := by rw [show ((d + 1 : Nat) : Int) = X (k + 1) - X k by omega]; unfold ln; grind
   rw [e3, e4, gs_at (by omega) ha, gs_at (by omega) hb] at e2
   omega
  rw [full _ _ b1.1 b2.1, full _ _ b1.2 b2.2]
  unfold trap
  grind
 intro j
 induction j with
 | zero =>
  intro h
  have := one 0 h
  rw [this]
  simp only [sumT]
  omega
 | succ j ih =>
  intro h
  have h1 := ih (by omega)
  have h2 := one (j + 1) h
  have i1 := M.inc (j + 1) h
  have i0 := M.lt (i := 0) (j := j + 1) (by omega) (by omega)
  rw [show (X (j + 1 + 1) - X 0 - 1).toNat = (X (j + 1) - X 0 - 1).toNat + (1 + (X (j + 1 + 1) - X (j + 1) - 1).toNat) by omega, sumI_split, sumI_split, sumI_one, h1]
  rw [show X 0 + 1 + ((X (j + 1) - X 0 - 1).toNat : Int) = X (j + 1) by omega, show X (j + 1) + ((1 : Nat) : Int) = X (j + 1) + 1 by omega, h2]
  rw [M.wcol_in h B (x := X (j + 1)) (by omega) i0, Int.sub_self]
  have e3 : ∀ Y : Nat → Int, ln (X (j + 1 + 1) - X (j + 1)) (Y (j + 1)) (Y (j + 1 + 1)) 0 = (X (j + 1 + 1) - X (j + 1)) * Y (j + 1) := fun Y => by unfold ln; grind
  have b1 := hB (j + 1) (by omega)
  rw [e3 L, e3 H, gs_at (by omega) b1.1, gs_at (by omega) b1.2, sumT.eq_2 (trap X L H) (j + 1)]
  omega
/-- The theorem of Pick. -/
theorem Mono.pick (M : Mono m X L H) {B : Nat} (hB : ∀ k, k < m → (-B ≤ L k ∧ L k ≤ B) ∧ (-B ≤ H k ∧ H k ≤ B)) (hX : -B ≤ X 0 ∧ X (m - 1) ≤ B) :
  sumI (wcol (mp m X L H) (2 * m) B) (-B) (2 * B + 1) = area (mp m X L H) (2 * m) + 2 := by
 have h2 := M.two
 have hlt := M.lt (i := 0) (j := m - 1) (by omega) (by omega)
 obtain ⟨i, hi⟩ : ∃ i : Nat, X 0 = i - B := ⟨(X 0 + B).toNat, by omega⟩
 obtain ⟨n, hn⟩ : ∃ n : Nat, 2 * B + 1 = i + (1 + ((X (m - 1) - X 0 - 1).toNat + (1 + n))) := ⟨(B - X (m - 1)).toNat, by omega⟩
 have hin := M.inner hB (m - 2) (by omega)
 rw [show m - 2 + 1 = m - 1 by omega] at hin
 rw [hn, sumI_split, sumI_split, sumI_split, sumI_split, sumI_one, sumI_one, show (-(B : Int) + i) = X 0 by omega, show X 0 + ((1 : Nat) : Int) = X 0 + 1 by omega, hin, show X 0 + 1 + ((X (m - 1) - X 0 - 1).toNat : Int) = X (m - 1) by omega, area_mono h2]
 rw [sumI_zero, sumI_zero]
 ·have b1 := hB 0 (by omega)
  have b2 := hB (m - 1) (by omega)
  have l1 := M.lh 0 (by omega)
  have l2 := M.lh (m - 1) (by omega)
  have e1 : wcol (mp m X L H) (2 * m) B (X 0) = H 0 - L 0 + 1 := count_in (by omega) (by omega) (by omega) (fun y => M.wt_left (p := (X 0, y)) rfl)
  have e2 : wcol (mp m X L H) (2 * m) B (X (m - 1)) = H (m - 1) - L (m - 1) + 1 := count_in (by omega) (by omega) (by omega) (fun y => M.wt_right (p := (X (m - 1), y)) rfl)
  rw [e1, e2]; omega
 ·intro x h3 h4
  exact sumI_zero fun y _ _ => M.wt_out (p := (x, y)) (.inr (by show X (m - 1) < x; omega))
 ·intro x h3 h4
  exact sumI_zero fun y _ _ => M.wt_out (p := (x, y)) (.inl (by show x < X 0; omega))
end
end Go.Proofs.YtoaldbjcpfkcjaaGreat
