/- The plain geometry of point: sides, boxes, the order on a line, and what two segments have in common. The plain geometry of point, on: what two segments have in common does not hang on how they are written. Side, On and Meet in plain geometry: they do not hang on how things are turned, moved or written. A turn and a translation, in plain geometry. Whole points that two segments have in common, and how often they meet. -/
import Derived.Test.YtmldgjhecoeldaaRows
import Derived.Test.YtmldgjhecoeldaaOvl
import Derived.Test.YtmldgjhecoeldaaMeetD
import Derived.Test.YtmldgjhecoeldaaSmall
namespace Go.Proofs.Ytmldgjhecoeldaa.Geo

/-- The cross product that says the side. -/
def cr (a b c d e f : Int) : Int := (c - a) * (f - b) - (d - b) * (e - a)

theorem mul_pos' {a b : Int} (h : 0 < a) (k : 0 < b) : 0 < a * b := Int.mul_pos h k
theorem mul_nn {a b : Int} (h : 0 ≤ a) (k : 0 ≤ b) : 0 ≤ a * b := Int.mul_nonneg h k

/-- A number lies between two others. -/
def bt (x a b : Int) : Prop := (a ≤ x ∧ x ≤ b) ∨ (b ≤ x ∧ x ≤ a)
instance (x a b : Int) : Decidable (bt x a b) := by unfold bt; exact inferInstance
/-- A point lies in the box of two others. -/
def bx (a b c d e f : Int) : Prop := bt e a c ∧ bt f b d
instance (a b c d e f : Int) : Decidable (bx a b c d e f) := by unfold bx; exact inferInstance

/-- A product of two, a step from 0 to 1 of the way. -/
theorem between {dx dy t u : Int} (h : dx * u = dy * t) (hd : 0 < dx) (h0 : 0 ≤ t) (h1 : t ≤ dx) : (0 ≤ dy → 0 ≤ u ∧ u ≤ dy) ∧ (dy ≤ 0 → dy ≤ u ∧ u ≤ 0) := by
  constructor
  · intro k
    have e1 : 0 ≤ dy * t := mul_nn k h0
    have e2 : 0 ≤ dy * (dx - t) := mul_nn k (by omega)
    rw [Int.mul_sub] at e2
    constructor
    · by_cases hu : 0 ≤ u
      · exact hu
      · have := mul_pos' hd (show 0 < -u by omega)
        rw [Int.mul_neg] at this; omega
    · by_cases hu : u ≤ dy
      · exact hu
      · have := mul_pos' hd (show 0 < u - dy by omega)
        rw [Int.mul_sub, Int.mul_comm dx dy] at this; omega
  · intro k
    have e1 : 0 ≤ (-dy) * t := mul_nn (by omega) h0
    have e2 : 0 ≤ (-dy) * (dx - t) := mul_nn (by omega) (by omega)
    rw [Int.mul_sub] at e2
    rw [Int.neg_mul] at e1 e2
    rw [Int.neg_mul] at e2
    constructor
    · by_cases hu : dy ≤ u
      · exact hu
      · have := mul_pos' hd (show 0 < dy - u by omega)
        rw [Int.mul_sub, Int.mul_comm dx dy] at this; omega
    · by_cases hu : u ≤ 0
      · exact hu
      · have := mul_pos' hd (show 0 < u by omega)
        omega

/-- The order by X, and then by Y. -/
def le2 (a b c d : Int) : Prop := a < c ∨ (a = c ∧ b ≤ d)
instance (a b c d : Int) : Decidable (le2 a b c d) := by unfold le2; exact inferInstance

/-- On a line, lying between in the order is lying in the box. -/
theorem box_of_order1 {a b c d e f : Int} (h : cr a b c d e f = 0) (h1 : le2 a b e f) (h2 : le2 e f c d) : bx a b c d e f := by
  unfold le2 at h1 h2
  have hx : a ≤ e ∧ e ≤ c := by omega
  refine ⟨Or.inl hx, ?_⟩
  by_cases hac : a = c
  · have : b ≤ f ∧ f ≤ d := by omega
    exact Or.inl this
  · have h' : (c - a) * (f - b) = (d - b) * (e - a) := by unfold cr at h; omega
    have := between h' (by omega) (show 0 ≤ e - a by omega) (by omega)
    unfold bt
    by_cases k : 0 ≤ d - b
    · have := this.1 k; omega
    · have := this.2 (by omega); omega

theorem order_of_box1 {a b c d e f : Int} (h : cr a b c d e f = 0) (hac : le2 a b c d) (k : bx a b c d e f) : le2 a b e f ∧ le2 e f c d := by
  unfold bx bt at k
  unfold le2 at hac ⊢
  by_cases e1 : a = c
  · subst e1; omega
  · have hlt : a < c := by omega
    have h' : (c - a) * (f - b) = (d - b) * (e - a) := by unfold cr at h; omega
    refine ⟨?_, ?_⟩
    · by_cases e2 : a = e
      · subst e2
        rw [Int.sub_self, Int.mul_zero] at h'
        have : f - b = 0 := by
          rcases Int.mul_eq_zero.1 h' with h | h
          · omega
          · exact h
        omega
      · omega
    · by_cases e2 : e = c
      · subst e2
        rw [Int.mul_comm (d - b)] at h'
        have := Int.eq_of_mul_eq_mul_left (show e - a ≠ 0 by omega) h'
        omega
      · omega

theorem bx_swap {a b c d e f : Int} : bx a b c d e f ↔ bx c d a b e f := by unfold bx bt; omega
theorem cr_swap (a b c d e f : Int) : cr c d a b e f = -cr a b c d e f := by unfold cr; grind

/-- On a line: between in the order, whichever comes first, is in the box. -/
theorem box_iff {a b c d e f : Int} (h : cr a b c d e f = 0) : bx a b c d e f ↔ (le2 a b e f ∧ le2 e f c d) ∨ (le2 c d e f ∧ le2 e f a b) := by
  have h2 : cr c d a b e f = 0 := by rw [cr_swap, h]; rfl
  constructor
  · intro k
    by_cases o : le2 a b c d
    · exact Or.inl (order_of_box1 h o k)
    · exact Or.inr (order_of_box1 h2 (by unfold le2 at o ⊢; omega) (bx_swap.1 k))
  · rintro (⟨h3, h4⟩ | ⟨h3, h4⟩)
    · exact box_of_order1 h h3 h4
    · exact bx_swap.2 (box_of_order1 h2 h3 h4)

theorem cr_turn (a b c d e f : Int) : cr (-b) a (-d) c (-f) e = cr a b c d e f := by unfold cr; grind
theorem cr_move (a b c d e f x y : Int) : cr (a + x) (b + y) (c + x) (d + y) (e + x) (f + y) = cr a b c d e f := by unfold cr; grind
theorem cr_next (a b c d e f : Int) : cr c d e f a b = cr a b c d e f := by unfold cr; grind
theorem cr_two (a b c d e f : Int) : cr (2 * a) (2 * b) (2 * c) (2 * d) (2 * e) (2 * f) = 4 * cr a b c d e f := by unfold cr; grind
theorem bx_turn {a b c d e f : Int} : bx (-b) a (-d) c (-f) e ↔ bx a b c d e f := by unfold bx bt; omega
theorem bx_move {a b c d e f x y : Int} : bx (a + x) (b + y) (c + x) (d + y) (e + x) (f + y) ↔ bx a b c d e f := by unfold bx bt; omega
theorem bx_two {a b c d e f : Int} : bx (2 * a) (2 * b) (2 * c) (2 * d) (2 * e) (2 * f) ↔ bx a b c d e f := by unfold bx bt; omega

end Go.Proofs.Ytmldgjhecoeldaa.Geo

namespace Go.Proofs.Ytmldgjhecoeldaa.Geo

/-- Three vectors on a line. -/
theorem par {u0 u1 v0 v1 w0 w1 : Int} (h : u0 * v1 = u1 * v0) (k : u0 * w1 = u1 * w0) (hu : u0 ≠ 0 ∨ u1 ≠ 0) : v0 * w1 = v1 * w0 := by
  rcases hu with hu | hu
  · have : u0 * (v0 * w1 - v1 * w0) = 0 := by grind
    rcases Int.mul_eq_zero.1 this with h | h
    · exact absurd h hu
    · omega
  · have : u1 * (v0 * w1 - v1 * w0) = 0 := by grind
    rcases Int.mul_eq_zero.1 this with h | h
    · exact absurd h hu
    · omega

/-- A point that two segments have in common: each one's ends lie on different sides of the other one. -/
theorem opp {a0 a1 b0 b1 p0 p1 c0 c1 d0 d1 : Int} (h : cr a0 a1 b0 b1 p0 p1 = 0) (k : bx a0 a1 b0 b1 p0 p1) (hp : cr c0 c1 d0 d1 p0 p1 = 0) : ¬ (0 < cr c0 c1 d0 d1 a0 a1 ∧ 0 < cr c0 c1 d0 d1 b0 b1) ∧ ¬ (cr c0 c1 d0 d1 a0 a1 < 0 ∧ cr c0 c1 d0 d1 b0 b1 < 0) := by
  have i0 : (b0 - a0 - (p0 - a0)) * cr c0 c1 d0 d1 a0 a1 + (p0 - a0) * cr c0 c1 d0 d1 b0 b1 = 0 := by unfold cr at *; grind
  have i1 : (b1 - a1 - (p1 - a1)) * cr c0 c1 d0 d1 a0 a1 + (p1 - a1) * cr c0 c1 d0 d1 b0 b1 = 0 := by unfold cr at *; grind
  have same : b0 = a0 → b1 = a1 → cr c0 c1 d0 d1 a0 a1 = 0 := by
    intro e f
    have e0 : p0 = a0 := by unfold bx bt at k; omega
    have e1 : p1 = a1 := by unfold bx bt at k; omega
    rw [← e0, ← e1]; exact hp
  generalize cr c0 c1 d0 d1 a0 a1 = fa at *
  generalize cr c0 c1 d0 d1 b0 b1 = fb at *
  have key : ∀ s t : Int, (0 ≤ s ∧ 0 ≤ t) ∨ (s ≤ 0 ∧ t ≤ 0) → s * fa + t * fb = 0 → (s ≠ 0 ∨ t ≠ 0) → ¬ (0 < fa ∧ 0 < fb) ∧ ¬ (fa < 0 ∧ fb < 0) := by
    intro s t hst he hne
    have pos : ∀ s t fa fb : Int, 0 ≤ s → 0 ≤ t → s * fa + t * fb = 0 → (s ≠ 0 ∨ t ≠ 0) → ¬ (0 < fa ∧ 0 < fb) := by
      intro s t fa fb hs ht he hne ⟨h1, h2⟩
      have e1 := mul_nn hs (Int.le_of_lt h1)
      have e2 := mul_nn ht (Int.le_of_lt h2)
      rcases hne with h | h
      · have := mul_pos' (show 0 < s by omega) h1; omega
      · have := mul_pos' (show 0 < t by omega) h2; omega
    rcases hst with ⟨h1, h2⟩ | ⟨h1, h2⟩
    · refine ⟨pos s t fa fb h1 h2 he hne, fun ⟨h3, h4⟩ => pos s t (-fa) (-fb) h1 h2 (by rw [Int.mul_neg, Int.mul_neg]; omega) hne ⟨by omega, by omega⟩⟩
    · refine ⟨fun ⟨h3, h4⟩ => pos (-s) (-t) fa fb (by omega) (by omega) (by rw [Int.neg_mul, Int.neg_mul]; omega) (by omega) ⟨h3, h4⟩, fun ⟨h3, h4⟩ => pos (-s) (-t) (-fa) (-fb) (by omega) (by omega) (by rw [Int.neg_mul_neg, Int.neg_mul_neg]; omega) (by omega) ⟨by omega, by omega⟩⟩
  unfold bx bt at k
  by_cases e0 : b0 = a0
  · by_cases e1 : b1 = a1
    · have := same e0 e1; omega
    · exact key _ _ (by omega) i1 (by omega)
  · exact key _ _ (by omega) i0 (by omega)

/-- Two points that two segments have in common: all lies on one line. -/
theorem flat {a0 a1 b0 b1 c0 c1 d0 d1 p0 p1 q0 q1 : Int} (hne : ¬ (p0 = q0 ∧ p1 = q1)) (h1 : cr a0 a1 b0 b1 p0 p1 = 0) (h2 : cr a0 a1 b0 b1 q0 q1 = 0) (k1 : bx a0 a1 b0 b1 p0 p1) (k2 : bx a0 a1 b0 b1 q0 q1) (h3 : cr c0 c1 d0 d1 p0 p1 = 0) (h4 : cr c0 c1 d0 d1 q0 q1 = 0) :
    cr c0 c1 d0 d1 a0 a1 = 0 ∧ cr c0 c1 d0 d1 b0 b1 = 0 := by
  have hab : b0 - a0 ≠ 0 ∨ b1 - a1 ≠ 0 := by unfold bx bt at k1 k2; omega
  have e1 : (b0 - a0) * (q1 - p1) = (b1 - a1) * (q0 - p0) := by unfold cr at *; grind
  have e2 : (b0 - a0) * (p1 - a1) = (b1 - a1) * (p0 - a0) := by unfold cr at *; grind
  have e3 : (b0 - a0) * (p1 - b1) = (b1 - a1) * (p0 - b0) := by unfold cr at *; grind
  have e4 : (q0 - p0) * (d1 - c1) = (q1 - p1) * (d0 - c0) := by unfold cr at *; grind
  have f1 := par e1 e2 hab
  have f2 := par e1 e3 hab
  have hu : q0 - p0 ≠ 0 ∨ q1 - p1 ≠ 0 := by omega
  have g1 := par e4 f1 hu
  have g2 := par e4 f2 hu
  constructor
  · unfold cr at *; grind
  · unfold cr at *; grind

/-- The order, as numbers. -/
def key (x y : Int) : Int := x * 4611686018427387904 + y
def Sm (x : Int) : Prop := -1152921504606846976 ≤ x ∧ x ≤ 1152921504606846976
theorem key_lt {a b c d : Int} (hb : Sm b) (hd : Sm d) : lexlt a b c d = true ↔ key a b < key c d := by rw [lexlt_iff]; unfold key; unfold Sm at hb hd; omega
theorem key_eq {a b c d : Int} (hb : Sm b) (hd : Sm d) : (a = c ∧ b = d) ↔ key a b = key c d := by unfold key; unfold Sm at hb hd; omega
theorem key_le {a b c d : Int} (hb : Sm b) (hd : Sm d) : le2 a b c d ↔ key a b ≤ key c d := by unfold le2 key; unfold Sm at hb hd; omega

theorem key_min {a b c d : Int} (hb : Sm b) (hd : Sm d) : key (lexmin a b c d).1 (lexmin a b c d).2 = min (key a b) (key c d) ∧ Sm (lexmin a b c d).2 := by
  cases h : lexlt a b c d
  · rw [(lex_ge h).1]
    have : ¬ key a b < key c d := fun k => by rw [(key_lt hb hd).2 k] at h; cases h
    exact ⟨by simp only; omega, hd⟩
  · rw [(lex_lt h).1]
    have := (key_lt hb hd).1 h
    exact ⟨by simp only; omega, hb⟩
theorem key_max {a b c d : Int} (hb : Sm b) (hd : Sm d) : key (lexmax a b c d).1 (lexmax a b c d).2 = max (key a b) (key c d) ∧ Sm (lexmax a b c d).2 := by
  cases h : lexlt a b c d
  · rw [(lex_ge h).2]
    have : ¬ key a b < key c d := fun k => by rw [(key_lt hb hd).2 k] at h; cases h
    exact ⟨by simp only; omega, hb⟩
  · rw [(lex_lt h).2]
    have := (key_lt hb hd).1 h
    exact ⟨by simp only; omega, hd⟩

/-- How many points two intervals have in common. -/
def ov (ka kb kc kd : Int) : Int := if max (min ka kb) (min kc kd) = min (max ka kb) (max kc kd) then 1 else if max (min ka kb) (min kc kd) < min (max ka kb) (max kc kd) then 2 else 0

theorem ovl_key {a0 a1 b0 b1 c0 c1 d0 d1 : Int} (ha : Sm a1) (hb : Sm b1) (hc : Sm c1) (hd : Sm d1) : ovl a0 a1 b0 b1 c0 c1 d0 d1 = ov (key a0 a1) (key b0 b1) (key c0 c1) (key d0 d1) := by
  obtain ⟨m1, s1⟩ := key_min (a := a0) (c := b0) ha hb
  obtain ⟨m2, s2⟩ := key_min (a := c0) (c := d0) hc hd
  obtain ⟨m3, s3⟩ := key_max (a := a0) (c := b0) ha hb
  obtain ⟨m4, s4⟩ := key_max (a := c0) (c := d0) hc hd
  obtain ⟨m5, s5⟩ := key_max (a := (lexmin a0 a1 b0 b1).1) (c := (lexmin c0 c1 d0 d1).1) s1 s2
  obtain ⟨m6, s6⟩ := key_min (a := (lexmax a0 a1 b0 b1).1) (c := (lexmax c0 c1 d0 d1).1) s3 s4
  rw [m1, m2] at m5
  rw [m3, m4] at m6
  unfold ovl ovl2 ov
  change key (lowP a0 a1 b0 b1 c0 c1 d0 d1).1 (lowP a0 a1 b0 b1 c0 c1 d0 d1).2 = _ at m5
  change key (highP a0 a1 b0 b1 c0 c1 d0 d1).1 (highP a0 a1 b0 b1 c0 c1 d0 d1).2 = _ at m6
  change Sm (lowP a0 a1 b0 b1 c0 c1 d0 d1).2 at s5
  change Sm (highP a0 a1 b0 b1 c0 c1 d0 d1).2 at s6
  generalize lowP a0 a1 b0 b1 c0 c1 d0 d1 = L at *
  generalize highP a0 a1 b0 b1 c0 c1 d0 d1 = H at *
  rw [← m5, ← m6]
  have e1 : (L = H) ↔ key L.1 L.2 = key H.1 H.2 := by rw [← key_eq s5 s6]; exact Prod.ext_iff
  have e2 : (lexlt L.1 L.2 H.1 H.2 = true) ↔ key L.1 L.2 < key H.1 H.2 := key_lt s5 s6
  by_cases h1 : L = H
  · rw [if_pos h1, if_pos (e1.1 h1)]
  · rw [if_neg h1, if_neg (fun k => h1 (e1.2 k))]
    by_cases h2 : lexlt L.1 L.2 H.1 H.2 = true
    · rw [if_pos h2, if_pos (e2.1 h2)]
    · rw [if_neg h2, if_neg (fun k => h2 (e2.2 k))]

/-- Between two numbers. -/
theorem box_key {a b c d e f : Int} (hb : Sm b) (hd : Sm d) (hf : Sm f) (h : cr a b c d e f = 0) : bx a b c d e f ↔ (key a b ≤ key e f ∧ key e f ≤ key c d) ∨ (key c d ≤ key e f ∧ key e f ≤ key a b) := by
  rw [box_iff h, key_le hb hf, key_le hf hd, key_le hd hf, key_le hf hb]

theorem ov_pt (ka kb kp : Int) : ov ka kb kp kp = 1 ↔ (ka ≤ kp ∧ kp ≤ kb) ∨ (kb ≤ kp ∧ kp ≤ ka) := by
  unfold ov
  by_cases h : max (min ka kb) (min kp kp) = min (max ka kb) (max kp kp)
  · rw [if_pos h]; simp only [true_iff]; omega
  · rw [if_neg h]
    by_cases k : max (min ka kb) (min kp kp) < min (max ka kb) (max kp kp)
    · rw [if_pos k]; omega
    · rw [if_neg k]; omega

/-- Whether a point lies on a segment, as overlap says it and as the box does. -/
theorem on_iff {a0 a1 b0 b1 p0 p1 : Int} (ha : Sm a1) (hb : Sm b1) (hp : Sm p1) (h : cr a0 a1 b0 b1 p0 p1 = 0) : ovl a0 a1 b0 b1 p0 p1 p0 p1 = 1 ↔ bx a0 a1 b0 b1 p0 p1 := by
  rw [ovl_key ha hb hp hp, ov_pt, box_key ha hb hp h]

end Go.Proofs.Ytmldgjhecoeldaa.Geo

namespace Go.Proofs.Ytmldgjhecoeldaa.Geo

/-- A point that is bounded. -/
def In (x y : Int) : Prop := inl 1152921504606846976 x y = true
theorem in_iff {x y : Int} : In x y ↔ (-1152921504606846976 ≤ x ∧ x ≤ 1152921504606846976 ∧ -1152921504606846976 ≤ y ∧ y ≤ 1152921504606846976) := inl_iff
theorem In.sm {x y : Int} (h : In x y) : Sm y := by rw [in_iff] at h; exact ⟨h.2.2.1, h.2.2.2⟩

theorem side_in {a0 a1 b0 b1 p0 p1 : Int} (ha : In a0 a1) (hb : In b0 b1) (hp : In p0 p1) : sideOf a0 a1 b0 b1 p0 p1 = (cr a0 a1 b0 b1 p0 p1).sign := by
  unfold sideOf; rw [if_pos ⟨ha, hb, hp⟩]; rfl
theorem side_zero {a0 a1 b0 b1 p0 p1 : Int} (ha : In a0 a1) (hb : In b0 b1) (hp : In p0 p1) : sideOf a0 a1 b0 b1 p0 p1 = 0 ↔ cr a0 a1 b0 b1 p0 p1 = 0 := by
  rw [side_in ha hb hp]; exact Int.sign_eq_zero_iff_zero

/-- Whether p is a point of the segment. -/
def on (a0 a1 b0 b1 p0 p1 : Int) : Bool := decide (cr a0 a1 b0 b1 p0 p1 = 0 ∧ bx a0 a1 b0 b1 p0 p1)
theorem on_in {a0 a1 b0 b1 p0 p1 : Int} (ha : In a0 a1) (hb : In b0 b1) (hp : In p0 p1) : onOf a0 a1 b0 b1 p0 p1 = on a0 a1 b0 b1 p0 p1 := by
  unfold onOf on
  rw [show inl 1152921504606846976 a0 a1 = true from ha, show inl 1152921504606846976 b0 b1 = true from hb, show inl 1152921504606846976 p0 p1 = true from hp]
  simp only [Bool.true_and]
  rw [← Bool.decide_and]
  refine decide_eq_decide.2 ?_
  rw [side_zero ha hb hp]
  constructor
  · rintro ⟨h, k⟩
    exact ⟨h, (on_iff ha.sm hb.sm hp.sm h).1 k⟩
  · rintro ⟨h, k⟩
    exact ⟨h, (on_iff ha.sm hb.sm hp.sm h).2 k⟩
theorem bt_minmax (x a b : Int) : (min a b ≤ x ∧ x ≤ max a b) ↔ bt x a b := by unfold bt; omega
/-- The reference says the same of it. -/
theorem on_same (a0 a1 b0 b1 p0 p1 : Int) : ronOf a0 a1 b0 b1 p0 p1 = onOf a0 a1 b0 b1 p0 p1 := by
  cases ha : inl 1152921504606846976 a0 a1
  · unfold ronOf onOf; rw [ha]; rfl
  · cases hb : inl 1152921504606846976 b0 b1
    · unfold ronOf onOf; rw [ha, hb]; rfl
    · cases hp : inl 1152921504606846976 p0 p1
      · unfold ronOf onOf; rw [ha, hb, hp]; rfl
      · rw [on_in ha hb hp]
        unfold ronOf on btw
        rw [ha, hb, hp]
        simp only [Bool.true_and]
        rw [← Bool.decide_and, ← Bool.decide_and]
        refine decide_eq_decide.2 ?_
        rw [side_zero ha hb hp, bt_minmax, bt_minmax]
        unfold bx
        constructor
        · rintro ⟨h, k, l⟩; exact ⟨l, h, k⟩
        · rintro ⟨l, h, k⟩; exact ⟨h, k, l⟩

/-- How many different points two segments of one line have in common, by which ends lie on the other one, and which ends are the same. -/
def cnt (pa pb pc pd eab eac ead ebc ebd ecd : Bool) : Int :=
  if (pa || pb || pc || pd) = true then (if (pa && pb && !eab || pa && pc && !eac || pa && pd && !ead || pb && pc && !ebc || pb && pd && !ebd || pc && pd && !ecd) = true then 2 else 1) else 0
/-- Two points are the same. -/
def eq2 (a b c d : Int) : Bool := decide (a = c ∧ b = d)
def cntG (a0 a1 b0 b1 c0 c1 d0 d1 : Int) : Int :=
  cnt (decide (bx c0 c1 d0 d1 a0 a1)) (decide (bx c0 c1 d0 d1 b0 b1)) (decide (bx a0 a1 b0 b1 c0 c1)) (decide (bx a0 a1 b0 b1 d0 d1)) (eq2 a0 a1 b0 b1) (eq2 a0 a1 c0 c1) (eq2 a0 a1 d0 d1) (eq2 b0 b1 c0 c1) (eq2 b0 b1 d0 d1) (eq2 c0 c1 d0 d1)

theorem ov_cnt (ka kb kc kd : Int) : ov ka kb kc kd = cnt (decide ((kc ≤ ka ∧ ka ≤ kd) ∨ (kd ≤ ka ∧ ka ≤ kc))) (decide ((kc ≤ kb ∧ kb ≤ kd) ∨ (kd ≤ kb ∧ kb ≤ kc))) (decide ((ka ≤ kc ∧ kc ≤ kb) ∨ (kb ≤ kc ∧ kc ≤ ka))) (decide ((ka ≤ kd ∧ kd ≤ kb) ∨ (kb ≤ kd ∧ kd ≤ ka)))
    (decide (ka = kb)) (decide (ka = kc)) (decide (ka = kd)) (decide (kb = kc)) (decide (kb = kd)) (decide (kc = kd)) := by
  unfold ov cnt
  simp only [Bool.or_eq_true, Bool.and_eq_true, Bool.not_eq_true', decide_eq_true_eq, decide_eq_false_iff_not]
  rcases Int.lt_trichotomy (max (min ka kb) (min kc kd)) (min (max ka kb) (max kc kd)) with h | h | h
  · rw [if_neg (by omega), if_pos h, if_pos (by omega), if_pos (by omega)]
  · rw [if_pos h, if_pos (by omega), if_neg (by omega)]
  · rw [if_neg (by omega), if_neg (by omega), if_neg (by omega)]

theorem ovl_cnt {a0 a1 b0 b1 c0 c1 d0 d1 : Int} (ha : Sm a1) (hb : Sm b1) (hc : Sm c1) (hd : Sm d1) (eA : cr c0 c1 d0 d1 a0 a1 = 0) (eB : cr c0 c1 d0 d1 b0 b1 = 0) (eC : cr a0 a1 b0 b1 c0 c1 = 0) (eD : cr a0 a1 b0 b1 d0 d1 = 0) :
    ovl a0 a1 b0 b1 c0 c1 d0 d1 = cntG a0 a1 b0 b1 c0 c1 d0 d1 := by
  rw [ovl_key ha hb hc hd, ov_cnt]
  unfold cntG eq2
  have p1 := box_key hc hd ha eA
  have p2 := box_key hc hd hb eB
  have p3 := box_key ha hb hc eC
  have p4 := box_key ha hb hd eD
  simp only [p1, p2, p3, p4, key_eq ha hb, key_eq ha hc, key_eq ha hd, key_eq hb hc, key_eq hb hd, key_eq hc hd]

theorem meetS_congr {sA sB sC sD o p : Int} (h : sA = 0 → sB = 0 → sC = 0 → sD = 0 → o = p) : meetS sA sB sC sD o = meetS sA sB sC sD p := by
  unfold meetS
  by_cases k : sA = 0 ∧ sB = 0 ∧ sC = 0 ∧ sD = 0
  · rw [if_pos k, if_pos k, h k.1 k.2.1 k.2.2.1 k.2.2.2]
  · rw [if_neg k, if_neg k]

/-- Meet, in plain geometry. -/
def meetG (a0 a1 b0 b1 c0 c1 d0 d1 : Int) : Int := meetS (cr c0 c1 d0 d1 a0 a1).sign (cr c0 c1 d0 d1 b0 b1).sign (cr a0 a1 b0 b1 c0 c1).sign (cr a0 a1 b0 b1 d0 d1).sign (cntG a0 a1 b0 b1 c0 c1 d0 d1)
theorem meet_in {a0 a1 b0 b1 c0 c1 d0 d1 : Int} (ha : In a0 a1) (hb : In b0 b1) (hc : In c0 c1) (hd : In d0 d1) : meetOf a0 a1 b0 b1 c0 c1 d0 d1 = meetG a0 a1 b0 b1 c0 c1 d0 d1 := by
  unfold meetOf meetG
  rw [if_pos ⟨ha, hb, hc, hd⟩, side_in hc hd ha, side_in hc hd hb, side_in ha hb hc, side_in ha hb hd]
  refine meetS_congr fun h1 h2 h3 h4 => ?_
  exact ovl_cnt ha.sm hb.sm hc.sm hd.sm (Int.sign_eq_zero_iff_zero.1 h1) (Int.sign_eq_zero_iff_zero.1 h2) (Int.sign_eq_zero_iff_zero.1 h3) (Int.sign_eq_zero_iff_zero.1 h4)

theorem cnt_swap (pa pb pc pd eab eac ead ebc ebd ecd : Bool) : cnt pc pd pa pb ecd eac ebc ead ebd eab = cnt pa pb pc pd eab eac ead ebc ebd ecd := by
  revert pa pb pc pd eab eac ead ebc ebd ecd; decide
theorem cnt_left (pa pb pc pd eab eac ead ebc ebd ecd : Bool) : cnt pb pa pc pd eab ebc ebd eac ead ecd = cnt pa pb pc pd eab eac ead ebc ebd ecd := by
  revert pa pb pc pd eab eac ead ebc ebd ecd; decide
theorem cnt_right (pa pb pc pd eab eac ead ebc ebd ecd : Bool) : cnt pa pb pd pc eab ead eac ebd ebc ecd = cnt pa pb pc pd eab eac ead ebc ebd ecd := by
  revert pa pb pc pd eab eac ead ebc ebd ecd; decide
theorem eq2_swap (a b c d : Int) : eq2 c d a b = eq2 a b c d := by unfold eq2; exact decide_eq_decide.2 (by omega)
theorem meetS_swap (sA sB sC sD o : Int) : meetS sC sD sA sB o = meetS sA sB sC sD o := by
  unfold meetS
  by_cases h : sA = 0 ∧ sB = 0 ∧ sC = 0 ∧ sD = 0
  · rw [if_pos h, if_pos ⟨h.2.2.1, h.2.2.2, h.1, h.2.1⟩]
  · rw [if_neg h, if_neg (fun k => h ⟨k.2.2.1, k.2.2.2, k.1, k.2.1⟩)]
    by_cases k : sA * sB ≤ 0 ∧ sC * sD ≤ 0
    · rw [if_pos k, if_pos ⟨k.2, k.1⟩]
    · rw [if_neg k, if_neg (fun l => k ⟨l.2, l.1⟩)]
theorem meetS_left (sA sB sC sD o : Int) : meetS sB sA (-sC) (-sD) o = meetS sA sB sC sD o := by
  unfold meetS
  have e1 : sB * sA = sA * sB := Int.mul_comm _ _
  have e2 : -sC * -sD = sC * sD := Int.neg_mul_neg _ _
  by_cases h : sA = 0 ∧ sB = 0 ∧ sC = 0 ∧ sD = 0
  · rw [if_pos h, if_pos ⟨h.2.1, h.1, by omega, by omega⟩]
  · rw [if_neg h, if_neg (fun k => h ⟨k.2.1, k.1, by omega, by omega⟩), e1, e2]
theorem cr_flip (a b c d e f : Int) : (cr c d a b e f).sign = -(cr a b c d e f).sign := by rw [cr_swap, Int.sign_neg]
theorem bxd (a b c d e f : Int) : decide (bx c d a b e f) = decide (bx a b c d e f) := decide_eq_decide.2 bx_swap.symm

theorem meetG_swap (a0 a1 b0 b1 c0 c1 d0 d1 : Int) : meetG c0 c1 d0 d1 a0 a1 b0 b1 = meetG a0 a1 b0 b1 c0 c1 d0 d1 := by
  unfold meetG cntG
  rw [meetS_swap, eq2_swap a0 a1 c0 c1, eq2_swap b0 b1 c0 c1, eq2_swap a0 a1 d0 d1, eq2_swap b0 b1 d0 d1, cnt_swap]
theorem meetG_left (a0 a1 b0 b1 c0 c1 d0 d1 : Int) : meetG b0 b1 a0 a1 c0 c1 d0 d1 = meetG a0 a1 b0 b1 c0 c1 d0 d1 := by
  unfold meetG cntG
  rw [cr_flip a0 a1 b0 b1 c0 c1, cr_flip a0 a1 b0 b1 d0 d1, meetS_left, bxd a0 a1 b0 b1 c0 c1, bxd a0 a1 b0 b1 d0 d1, eq2_swap a0 a1 b0 b1, cnt_left]
theorem meetG_right (a0 a1 b0 b1 c0 c1 d0 d1 : Int) : meetG a0 a1 b0 b1 d0 d1 c0 c1 = meetG a0 a1 b0 b1 c0 c1 d0 d1 := by
  rw [← meetG_swap, meetG_left, meetG_swap]

/-- What keeps sides, boxes and equality keeps what two segments have in common. -/
theorem meetG_keep {a0 a1 b0 b1 c0 c1 d0 d1 p0 p1 q0 q1 r0 r1 s0 s1 : Int}
    (h1 : cr r0 r1 s0 s1 p0 p1 = cr c0 c1 d0 d1 a0 a1) (h2 : cr r0 r1 s0 s1 q0 q1 = cr c0 c1 d0 d1 b0 b1) (h3 : cr p0 p1 q0 q1 r0 r1 = cr a0 a1 b0 b1 c0 c1) (h4 : cr p0 p1 q0 q1 s0 s1 = cr a0 a1 b0 b1 d0 d1)
    (k1 : bx r0 r1 s0 s1 p0 p1 ↔ bx c0 c1 d0 d1 a0 a1) (k2 : bx r0 r1 s0 s1 q0 q1 ↔ bx c0 c1 d0 d1 b0 b1) (k3 : bx p0 p1 q0 q1 r0 r1 ↔ bx a0 a1 b0 b1 c0 c1) (k4 : bx p0 p1 q0 q1 s0 s1 ↔ bx a0 a1 b0 b1 d0 d1)
    (e1 : (p0 = q0 ∧ p1 = q1) ↔ (a0 = b0 ∧ a1 = b1)) (e2 : (p0 = r0 ∧ p1 = r1) ↔ (a0 = c0 ∧ a1 = c1)) (e3 : (p0 = s0 ∧ p1 = s1) ↔ (a0 = d0 ∧ a1 = d1)) (e4 : (q0 = r0 ∧ q1 = r1) ↔ (b0 = c0 ∧ b1 = c1)) (e5 : (q0 = s0 ∧ q1 = s1) ↔ (b0 = d0 ∧ b1 = d1)) (e6 : (r0 = s0 ∧ r1 = s1) ↔ (c0 = d0 ∧ c1 = d1)) :
    meetG p0 p1 q0 q1 r0 r1 s0 s1 = meetG a0 a1 b0 b1 c0 c1 d0 d1 := by
  unfold meetG cntG eq2
  rw [h1, h2, h3, h4]
  simp only [k1, k2, k3, k4, e1, e2, e3, e4, e5, e6]

end Go.Proofs.Ytmldgjhecoeldaa.Geo

namespace Go.Proofs.Ytmldgjhecoeldaa.Geo
open Go.RowKit Go.Lib

/-- A point turned by quarters. -/
def rq (m : Nat) (x y : Int) : Int × Int := if m = 0 then (x, y) else if m = 1 then (-y, x) else if m = 2 then (-x, -y) else (y, -x)
theorem four {m : Nat} (h : m ≤ 3) : m = 0 ∨ m = 1 ∨ m = 2 ∨ m = 3 := by omega
theorem w1 {x : Int} (h : -9223372036854775807 ≤ x ∧ x ≤ 9223372036854775807) : wrap64 (-x) = -x := IntWalk.wrap64_in _ (by omega)
theorem rotN_rq {m : Nat} (hm : m ≤ 3) {x y : Int} (hx : -9223372036854775806 ≤ x ∧ x ≤ 9223372036854775806) (hy : -9223372036854775806 ≤ y ∧ y ≤ 9223372036854775806) : rotN m x y = rq m x y := by
  rcases four hm with rfl | rfl | rfl | rfl
  · rfl
  · show (wrap64 (-y), x) = _
    rw [w1 (by omega)]; rfl
  · show (wrap64 (-x), wrap64 (-y)) = _
    rw [w1 (by omega), w1 (by omega)]; rfl
  · show (wrap64 (-wrap64 (-y)), wrap64 (-x)) = _
    rw [w1 (x := y) (by omega), w1 (x := x) (by omega), w1 (by omega), Int.neg_neg]; rfl
theorem rq_bd {m : Nat} (hm : m ≤ 3) {x y B : Int} (hx : -B ≤ x ∧ x ≤ B) (hy : -B ≤ y ∧ y ≤ B) : (-B ≤ (rq m x y).1 ∧ (rq m x y).1 ≤ B) ∧ (-B ≤ (rq m x y).2 ∧ (rq m x y).2 ≤ B) := by
  rcases four hm with rfl | rfl | rfl | rfl <;> simp [rq] <;> omega

/-- A point that is turned and moved. -/
structure Tm (m : Nat) (u v x y p q : Int) : Prop where
  a : p = (rq m x y).1 + u
  b : q = (rq m x y).2 + v

theorem cr_tm {m : Nat} (hm : m ≤ 3) {u v a b c d e f p q r s g h : Int} (h1 : Tm m u v a b p q) (h2 : Tm m u v c d r s) (h3 : Tm m u v e f g h) : cr p q r s g h = cr a b c d e f := by
  obtain ⟨rfl, rfl⟩ := h1; obtain ⟨rfl, rfl⟩ := h2; obtain ⟨rfl, rfl⟩ := h3
  rcases four hm with rfl | rfl | rfl | rfl <;> simp [rq] <;> unfold cr <;> grind
theorem bx_tm {m : Nat} (hm : m ≤ 3) {u v a b c d e f p q r s g h : Int} (h1 : Tm m u v a b p q) (h2 : Tm m u v c d r s) (h3 : Tm m u v e f g h) : bx p q r s g h ↔ bx a b c d e f := by
  obtain ⟨rfl, rfl⟩ := h1; obtain ⟨rfl, rfl⟩ := h2; obtain ⟨rfl, rfl⟩ := h3
  rcases four hm with rfl | rfl | rfl | rfl <;> simp [rq] <;> unfold bx bt <;> omega
theorem eq_tm {m : Nat} (hm : m ≤ 3) {u v a b c d p q r s : Int} (h1 : Tm m u v a b p q) (h2 : Tm m u v c d r s) : (p = r ∧ q = s) ↔ (a = c ∧ b = d) := by
  obtain ⟨rfl, rfl⟩ := h1; obtain ⟨rfl, rfl⟩ := h2
  rcases four hm with rfl | rfl | rfl | rfl <;> simp [rq] <;> omega
theorem meet_tm {m : Nat} (hm : m ≤ 3) {u v a0 a1 b0 b1 c0 c1 d0 d1 p0 p1 q0 q1 r0 r1 s0 s1 : Int} (h1 : Tm m u v a0 a1 p0 p1) (h2 : Tm m u v b0 b1 q0 q1) (h3 : Tm m u v c0 c1 r0 r1) (h4 : Tm m u v d0 d1 s0 s1) :
    meetG p0 p1 q0 q1 r0 r1 s0 s1 = meetG a0 a1 b0 b1 c0 c1 d0 d1 :=
  meetG_keep (cr_tm hm h3 h4 h1) (cr_tm hm h3 h4 h2) (cr_tm hm h1 h2 h3) (cr_tm hm h1 h2 h4) (bx_tm hm h3 h4 h1) (bx_tm hm h3 h4 h2) (bx_tm hm h1 h2 h3) (bx_tm hm h1 h2 h4) (eq_tm hm h1 h2) (eq_tm hm h1 h3) (eq_tm hm h1 h4) (eq_tm hm h2 h3) (eq_tm hm h2 h4) (eq_tm hm h3 h4)
theorem on_tm {m : Nat} (hm : m ≤ 3) {u v a b c d e f p q r s g h : Int} (h1 : Tm m u v a b p q) (h2 : Tm m u v c d r s) (h3 : Tm m u v e f g h) : on p q r s g h = on a b c d e f := by
  unfold on; rw [cr_tm hm h1 h2 h3]; exact decide_eq_decide.2 (by rw [bx_tm hm h1 h2 h3])
theorem in_small {x y : Int} (h : -20000 ≤ x ∧ x ≤ 20000 ∧ -20000 ≤ y ∧ y ≤ 20000) : In x y := by rw [in_iff]; omega

/-- What PointTurns says. -/
theorem turns {m : Nat} (hm : m ≤ 3) {u v a0 a1 b0 b1 c0 c1 d0 d1 p0 p1 q0 q1 r0 r1 s0 s1 : Int} (h1 : Tm m u v a0 a1 p0 p1) (h2 : Tm m u v b0 b1 q0 q1) (h3 : Tm m u v c0 c1 r0 r1) (h4 : Tm m u v d0 d1 s0 s1)
    (ha : In a0 a1) (hb : In b0 b1) (hc : In c0 c1) (hd : In d0 d1) (hp : In p0 p1) (hq : In q0 q1) (hr : In r0 r1) (hs : In s0 s1) :
    sideOf p0 p1 q0 q1 r0 r1 = sideOf a0 a1 b0 b1 c0 c1 ∧ sideOf b0 b1 a0 a1 c0 c1 = -sideOf a0 a1 b0 b1 c0 c1 ∧ sideOf b0 b1 c0 c1 a0 a1 = sideOf a0 a1 b0 b1 c0 c1 ∧ onOf p0 p1 q0 q1 r0 r1 = onOf a0 a1 b0 b1 c0 c1 ∧
    meetOf p0 p1 q0 q1 r0 r1 s0 s1 = meetOf a0 a1 b0 b1 c0 c1 d0 d1 ∧ meetOf c0 c1 d0 d1 a0 a1 b0 b1 = meetOf a0 a1 b0 b1 c0 c1 d0 d1 ∧ meetOf b0 b1 a0 a1 c0 c1 d0 d1 = meetOf a0 a1 b0 b1 c0 c1 d0 d1 ∧ meetOf a0 a1 b0 b1 d0 d1 c0 c1 = meetOf a0 a1 b0 b1 c0 c1 d0 d1 := by
  rw [side_in hp hq hr, side_in ha hb hc, side_in hb ha hc, side_in hb hc ha, on_in hp hq hr, on_in ha hb hc, meet_in hp hq hr hs, meet_in ha hb hc hd, meet_in hc hd ha hb, meet_in hb ha hc hd, meet_in ha hb hd hc]
  exact ⟨by rw [cr_tm hm h1 h2 h3], cr_flip _ _ _ _ _ _, by rw [cr_next], on_tm hm h1 h2 h3, meet_tm hm h1 h2 h3 h4, meetG_swap _ _ _ _ _ _ _ _, meetG_left _ _ _ _ _ _ _ _, meetG_right _ _ _ _ _ _ _ _⟩

end Go.Proofs.Ytmldgjhecoeldaa.Geo

namespace Go.Proofs.Ytmldgjhecoeldaa.Geo

theorem on_mem {a0 a1 b0 b1 p0 p1 : Int} : on a0 a1 b0 b1 p0 p1 = true ↔ cr a0 a1 b0 b1 p0 p1 = 0 ∧ bx a0 a1 b0 b1 p0 p1 := by unfold on; exact decide_eq_true_iff
theorem on_two (a b c d e f : Int) : on (2 * a) (2 * b) (2 * c) (2 * d) (2 * e) (2 * f) = on a b c d e f := by
  unfold on
  refine decide_eq_decide.2 ?_
  rw [cr_two, bx_two]
  have : 4 * cr a b c d e f = 0 ↔ cr a b c d e f = 0 := by omega
  rw [this]
theorem on_left (a b c d : Int) : on a b c d a b = true := on_mem.2 ⟨by unfold cr; grind, by unfold bx bt; omega⟩
theorem on_right (a b c d : Int) : on a b c d c d = true := on_mem.2 ⟨by unfold cr; grind, by unfold bx bt; omega⟩

theorem cr_same (c d a b : Int) : cr c d c d a b = 0 := by unfold cr; grind
/-- A segment meets a point if the point lies on it. -/
theorem meet_pt {a0 a1 b0 b1 p0 p1 : Int} (ha : In a0 a1) (hb : In b0 b1) (hp : In p0 p1) : decide (meetOf a0 a1 b0 b1 p0 p1 p0 p1 = 1) = on a0 a1 b0 b1 p0 p1 := by
  unfold on
  refine decide_eq_decide.2 ?_
  unfold meetOf
  rw [if_pos ⟨ha, hb, hp, hp⟩, side_in hp hp ha, side_in hp hp hb, side_in ha hb hp, cr_same, cr_same]
  unfold meetS
  by_cases h : cr a0 a1 b0 b1 p0 p1 = 0
  · rw [h, if_pos (by decide), on_iff ha.sm hb.sm hp.sm h]
    exact ⟨fun k => ⟨rfl, k⟩, fun k => k.2⟩
  · have hs : (cr a0 a1 b0 b1 p0 p1).sign ≠ 0 := fun k => h (Int.sign_eq_zero_iff_zero.1 k)
    rw [if_neg (fun k => hs k.2.2.1)]
    have : 0 < (cr a0 a1 b0 b1 p0 p1).sign * (cr a0 a1 b0 b1 p0 p1).sign := by
      rcases Int.lt_trichotomy (cr a0 a1 b0 b1 p0 p1) 0 with k | k | k
      · rw [Int.sign_eq_neg_one_of_neg k]; decide
      · exact absurd k h
      · rw [Int.sign_eq_one_of_pos k]; decide
    rw [if_neg (by omega)]
    exact ⟨fun k => by omega, fun k => absurd k.1 h⟩

theorem sign_prod {x y : Int} (h : ¬ (0 < x ∧ 0 < y) ∧ ¬ (x < 0 ∧ y < 0)) : x.sign * y.sign ≤ 0 := by
  rcases Int.lt_trichotomy x 0 with k | k | k <;> rcases Int.lt_trichotomy y 0 with l | l | l
  · exact absurd ⟨k, l⟩ h.2
  · rw [l]; simp
  · rw [Int.sign_eq_neg_one_of_neg k, Int.sign_eq_one_of_pos l]; decide
  · rw [k]; simp
  · rw [k]; simp
  · rw [k]; simp
  · rw [Int.sign_eq_one_of_pos k, Int.sign_eq_neg_one_of_neg l]; decide
  · rw [l]; simp
  · exact absurd ⟨k, l⟩ h.1

theorem ov_one {ka kb kc kd kp : Int} (h : (ka ≤ kp ∧ kp ≤ kb) ∨ (kb ≤ kp ∧ kp ≤ ka)) (k : (kc ≤ kp ∧ kp ≤ kd) ∨ (kd ≤ kp ∧ kp ≤ kc)) : 1 ≤ ov ka kb kc kd := by
  unfold ov
  by_cases e : max (min ka kb) (min kc kd) = min (max ka kb) (max kc kd)
  · rw [if_pos e]; omega
  · rw [if_neg e, if_pos (by omega)]; omega
theorem ov_two {ka kb kc kd kp kq : Int} (h : (ka ≤ kp ∧ kp ≤ kb) ∨ (kb ≤ kp ∧ kp ≤ ka)) (k : (kc ≤ kp ∧ kp ≤ kd) ∨ (kd ≤ kp ∧ kp ≤ kc)) (h' : (ka ≤ kq ∧ kq ≤ kb) ∨ (kb ≤ kq ∧ kq ≤ ka)) (k' : (kc ≤ kq ∧ kq ≤ kd) ∨ (kd ≤ kq ∧ kq ≤ kc)) (hne : kp ≠ kq) : ov ka kb kc kd = 2 := by
  unfold ov
  rw [if_neg (by omega), if_pos (by omega)]
theorem ov_bd (ka kb kc kd : Int) : 0 ≤ ov ka kb kc kd ∧ ov ka kb kc kd ≤ 2 := by
  unfold ov
  by_cases e : max (min ka kb) (min kc kd) = min (max ka kb) (max kc kd)
  · rw [if_pos e]; omega
  · rw [if_neg e]
    by_cases k : max (min ka kb) (min kc kd) < min (max ka kb) (max kc kd)
    · rw [if_pos k]; omega
    · rw [if_neg k]; omega

section
variable {a0 a1 b0 b1 c0 c1 d0 d1 : Int} (ha : In a0 a1) (hb : In b0 b1) (hc : In c0 c1) (hd : In d0 d1)
include ha hb hc hd
theorem meet_of : meetOf a0 a1 b0 b1 c0 c1 d0 d1 = meetS (cr c0 c1 d0 d1 a0 a1).sign (cr c0 c1 d0 d1 b0 b1).sign (cr a0 a1 b0 b1 c0 c1).sign (cr a0 a1 b0 b1 d0 d1).sign (ov (key a0 a1) (key b0 b1) (key c0 c1) (key d0 d1)) := by
  unfold meetOf
  rw [if_pos ⟨ha, hb, hc, hd⟩, side_in hc hd ha, side_in hc hd hb, side_in ha hb hc, side_in ha hb hd, ovl_key ha.sm hb.sm hc.sm hd.sm]
theorem meet_bd : 0 ≤ meetOf a0 a1 b0 b1 c0 c1 d0 d1 ∧ meetOf a0 a1 b0 b1 c0 c1 d0 d1 ≤ 2 := by
  rw [meet_of ha hb hc hd]
  unfold meetS
  split
  · exact ov_bd _ _ _ _
  · split <;> decide
theorem meet_one {p0 p1 : Int} (hp : In p0 p1) (h : on a0 a1 b0 b1 p0 p1 = true) (k : on c0 c1 d0 d1 p0 p1 = true) : 1 ≤ meetOf a0 a1 b0 b1 c0 c1 d0 d1 := by
  rw [on_mem] at h k
  rw [meet_of ha hb hc hd]
  unfold meetS
  split
  · exact ov_one ((box_key ha.sm hb.sm hp.sm h.1).1 h.2) ((box_key hc.sm hd.sm hp.sm k.1).1 k.2)
  · rw [if_pos ⟨sign_prod (opp h.1 h.2 k.1), sign_prod (opp k.1 k.2 h.1)⟩]; decide
theorem meet_more {p0 p1 q0 q1 : Int} (hp : In p0 p1) (hq : In q0 q1) (hne : ¬ (p0 = q0 ∧ p1 = q1)) (h : on a0 a1 b0 b1 p0 p1 = true) (k : on c0 c1 d0 d1 p0 p1 = true) (h' : on a0 a1 b0 b1 q0 q1 = true) (k' : on c0 c1 d0 d1 q0 q1 = true) : meetOf a0 a1 b0 b1 c0 c1 d0 d1 = 2 := by
  rw [on_mem] at h k h' k'
  rw [meet_of ha hb hc hd]
  obtain ⟨e1, e2⟩ := flat hne h.1 h'.1 h.2 h'.2 k.1 k'.1
  obtain ⟨e3, e4⟩ := flat hne k.1 k'.1 k.2 k'.2 h.1 h'.1
  rw [e1, e2, e3, e4]
  unfold meetS
  rw [if_pos (by decide)]
  exact ov_two ((box_key ha.sm hb.sm hp.sm h.1).1 h.2) ((box_key hc.sm hd.sm hp.sm k.1).1 k.2) ((box_key ha.sm hb.sm hq.sm h'.1).1 h'.2) ((box_key hc.sm hd.sm hq.sm k'.1).1 k'.2) (fun e => hne ((key_eq hp.sm hq.sm).2 e))
/-- Two segments that meet infinitely often: an end of one lies on both. -/
theorem meet_end (h : meetOf a0 a1 b0 b1 c0 c1 d0 d1 = 2) : ∃ p0 p1, (p0 = a0 ∧ p1 = a1 ∨ p0 = b0 ∧ p1 = b1 ∨ p0 = c0 ∧ p1 = c1 ∨ p0 = d0 ∧ p1 = d1) ∧ on a0 a1 b0 b1 p0 p1 = true ∧ on c0 c1 d0 d1 p0 p1 = true := by
  rw [meet_of ha hb hc hd] at h
  unfold meetS at h
  split at h
  · next e =>
    obtain ⟨e1, e2, e3, e4⟩ := e
    have e1 := Int.sign_eq_zero_iff_zero.1 e1
    have e2 := Int.sign_eq_zero_iff_zero.1 e2
    have e3 := Int.sign_eq_zero_iff_zero.1 e3
    have e4 := Int.sign_eq_zero_iff_zero.1 e4
    have o1 := on_left a0 a1 b0 b1
    have o2 := on_right a0 a1 b0 b1
    have o3 := on_left c0 c1 d0 d1
    have o4 := on_right c0 c1 d0 d1
    have m1 := on_mem (a0 := c0) (a1 := c1) (b0 := d0) (b1 := d1) (p0 := a0) (p1 := a1)
    have m2 := on_mem (a0 := c0) (a1 := c1) (b0 := d0) (b1 := d1) (p0 := b0) (p1 := b1)
    have m3 := on_mem (a0 := a0) (a1 := a1) (b0 := b0) (b1 := b1) (p0 := c0) (p1 := c1)
    have m4 := on_mem (a0 := a0) (a1 := a1) (b0 := b0) (b1 := b1) (p0 := d0) (p1 := d1)
    rw [box_key hc.sm hd.sm ha.sm e1] at m1
    rw [box_key hc.sm hd.sm hb.sm e2] at m2
    rw [box_key ha.sm hb.sm hc.sm e3] at m3
    rw [box_key ha.sm hb.sm hd.sm e4] at m4
    generalize key a0 a1 = ka at *
    generalize key b0 b1 = kb at *
    generalize key c0 c1 = kc at *
    generalize key d0 d1 = kd at *
    have : ((kc ≤ ka ∧ ka ≤ kd) ∨ (kd ≤ ka ∧ ka ≤ kc)) ∨ ((kc ≤ kb ∧ kb ≤ kd) ∨ (kd ≤ kb ∧ kb ≤ kc)) ∨ ((ka ≤ kc ∧ kc ≤ kb) ∨ (kb ≤ kc ∧ kc ≤ ka)) ∨ ((ka ≤ kd ∧ kd ≤ kb) ∨ (kb ≤ kd ∧ kd ≤ ka)) := by
      unfold ov at h
      by_cases f : max (min ka kb) (min kc kd) = min (max ka kb) (max kc kd)
      · rw [if_pos f] at h; omega
      · rw [if_neg f] at h
        by_cases g : max (min ka kb) (min kc kd) < min (max ka kb) (max kc kd)
        · omega
        · rw [if_neg g] at h; omega
    rcases this with g | g | g | g
    · exact ⟨a0, a1, Or.inl ⟨rfl, rfl⟩, o1, m1.2 ⟨e1, g⟩⟩
    · exact ⟨b0, b1, Or.inr (Or.inl ⟨rfl, rfl⟩), o2, m2.2 ⟨e2, g⟩⟩
    · exact ⟨c0, c1, Or.inr (Or.inr (Or.inl ⟨rfl, rfl⟩)), m3.2 ⟨e3, g⟩, o3⟩
    · exact ⟨d0, d1, Or.inr (Or.inr (Or.inr ⟨rfl, rfl⟩)), m4.2 ⟨e4, g⟩, o4⟩
  · split at h <;> omega
end

/-- How many of the whole points that were looked at are common ones. -/
structure Cnt (f : Int → Int → Bool) (i k n : Int) : Prop where
  lo : 0 ≤ n
  hi : n ≤ 25 * i + k + 312
  seen : ∀ x y, -12 ≤ x → -12 ≤ y → y ≤ 12 → (x < i ∨ x = i ∧ y < k) → f x y = true → 1 ≤ n
  one : 1 ≤ n → ∃ x y, (-12 ≤ x ∧ x ≤ i ∧ -12 ≤ y ∧ y ≤ 12) ∧ (x < i ∨ x = i ∧ y < k) ∧ f x y = true
  two : 2 ≤ n → ∃ x y u v, (-12 ≤ x ∧ x ≤ i ∧ -12 ≤ y ∧ y ≤ 12) ∧ (-12 ≤ u ∧ u ≤ i ∧ -12 ≤ v ∧ v ≤ 12) ∧ ¬ (x = u ∧ y = v) ∧ f x y = true ∧ f u v = true

theorem Cnt.start (f : Int → Int → Bool) : Cnt f (-12) (-12) 0 :=
  ⟨by omega, by omega, fun x y h1 h2 h3 h4 => by omega, fun h => by omega, fun h => by omega⟩
theorem Cnt.yes {f : Int → Int → Bool} {i k n : Int} (h : Cnt f i k n) (hi : -12 ≤ i) (hk : -12 ≤ k ∧ k ≤ 12) (e : f i k = true) : Cnt f i (k + 1) (n + 1) := by
  refine ⟨by have := h.lo; omega, by have := h.hi; omega, fun x y _ _ _ _ _ => by have := h.lo; omega, fun _ => ⟨i, k, by omega, by omega, e⟩, fun h2 => ?_⟩
  obtain ⟨x, y, b, l, g⟩ := h.one (by omega)
  exact ⟨x, y, i, k, b, by omega, by omega, g, e⟩
theorem Cnt.no {f : Int → Int → Bool} {i k n : Int} (h : Cnt f i k n) (e : f i k = false) : Cnt f i (k + 1) n := by
  refine ⟨h.lo, by have := h.hi; omega, fun x y a b c d g => ?_, fun h1 => ?_, h.two⟩
  · by_cases hx : x = i ∧ y = k
    · rw [hx.1, hx.2, e] at g; cases g
    · exact h.seen x y a b c (by omega) g
  · obtain ⟨x, y, b, l, g⟩ := h.one h1
    exact ⟨x, y, b, by omega, g⟩
theorem Cnt.next {f : Int → Int → Bool} {i n : Int} (h : Cnt f i 13 n) : Cnt f (i + 1) (-12) n := by
  refine ⟨h.lo, by have := h.hi; omega, fun x y a b c d g => h.seen x y a b c (by omega) g, fun h1 => ?_, fun h2 => ?_⟩
  · obtain ⟨x, y, b, l, g⟩ := h.one h1
    exact ⟨x, y, by omega, by omega, g⟩
  · obtain ⟨x, y, u, v, b, b', e, g, g'⟩ := h.two h2
    exact ⟨x, y, u, v, by omega, by omega, e, g, g'⟩

def Lt (x : Int) : Prop := -12 ≤ x ∧ x ≤ 12
theorem Lt.inn {x y : Int} (h : Lt x) (k : Lt y) : In x y := by unfold Lt at h k; exact in_small (by omega)

/-- What the law says of the count. -/
theorem Cnt.all {a0 a1 b0 b1 c0 c1 d0 d1 n : Int} (ha : Lt a0 ∧ Lt a1) (hb : Lt b0 ∧ Lt b1) (hc : Lt c0 ∧ Lt c1) (hd : Lt d0 ∧ Lt d1)
    (h : Cnt (fun x y => on a0 a1 b0 b1 x y && on c0 c1 d0 d1 x y) 13 (-12) n) :
    min n 2 ≤ meetOf a0 a1 b0 b1 c0 c1 d0 d1 ∧ (2 ≤ meetOf a0 a1 b0 b1 c0 c1 d0 d1 → 0 < n) ∧ 0 ≤ meetOf a0 a1 b0 b1 c0 c1 d0 d1 ∧ meetOf a0 a1 b0 b1 c0 c1 d0 d1 ≤ 2 := by
  have iA := ha.1.inn ha.2
  have iB := hb.1.inn hb.2
  have iC := hc.1.inn hc.2
  have iD := hd.1.inn hd.2
  have bd := meet_bd iA iB iC iD
  refine ⟨?_, fun h2 => ?_, bd⟩
  · by_cases h2 : 2 ≤ n
    · obtain ⟨x, y, u, v, b, b', e, g, g'⟩ := h.two h2
      simp only [Bool.and_eq_true] at g g'
      have := meet_more iA iB iC iD (in_small (x := x) (y := y) (by omega)) (in_small (x := u) (y := v) (by omega)) e g.1 g.2 g'.1 g'.2
      omega
    · by_cases h1 : 1 ≤ n
      · obtain ⟨x, y, b, l, g⟩ := h.one h1
        simp only [Bool.and_eq_true] at g
        have := meet_one iA iB iC iD (in_small (x := x) (y := y) (by omega)) g.1 g.2
        omega
      · omega
  · obtain ⟨x, y, e, g1, g2⟩ := meet_end iA iB iC iD (by omega)
    unfold Lt at ha hb hc hd
    have := h.seen x y (by omega) (by omega) (by omega) (by omega) (by simp only [g1, g2, Bool.and_self])
    omega

/-- What a walk asks at each whole point. -/
theorem lattice_at {a0 a1 b0 b1 i k : Int} (ha : Lt a0 ∧ Lt a1) (hb : Lt b0 ∧ Lt b1) (hi : Lt i) (hk : Lt k) {o : Bool} (h : on a0 a1 b0 b1 i k = o) :
    onOf a0 a1 b0 b1 i k = o ∧ onOf (2 * a0) (2 * a1) (2 * b0) (2 * b1) (2 * i) (2 * k) = o ∧ decide (meetOf a0 a1 b0 b1 i k i k = 1) = o := by
  have iA := ha.1.inn ha.2
  have iB := hb.1.inn hb.2
  have iP := hi.inn hk
  unfold Lt at ha hb hi hk
  refine ⟨by rw [on_in iA iB iP, h], ?_, by rw [meet_pt iA iB iP, h]⟩
  rw [on_in (in_small (by omega)) (in_small (by omega)) (in_small (by omega)), on_two, h]
theorem lattice_ends {a0 a1 b0 b1 : Int} (ha : Lt a0 ∧ Lt a1) (hb : Lt b0 ∧ Lt b1) : onOf a0 a1 b0 b1 a0 a1 = true ∧ onOf a0 a1 b0 b1 b0 b1 = true := by
  have iA := ha.1.inn ha.2
  have iB := hb.1.inn hb.2
  exact ⟨by rw [on_in iA iB iA, on_left], by rw [on_in iA iB iB, on_right]⟩
theorem lt_on {a0 a1 b0 b1 i k : Int} (ha : Lt a0 ∧ Lt a1) (hb : Lt b0 ∧ Lt b1) (hi : Lt i) (hk : Lt k) : onOf a0 a1 b0 b1 i k = on a0 a1 b0 b1 i k := on_in (ha.1.inn ha.2) (hb.1.inn hb.2) (hi.inn hk)

end Go.Proofs.Ytmldgjhecoeldaa.Geo
