/- The plain geometry of point, on: what two segments have in common does not hang on how they are written. -/
import Derived.Test.YtoehojopoajcaaaGeo
import Derived.Test.YtoehojopoajcaaaOvl
namespace Go.Proofs.Ytoehojopoajcaaa.Geo

/-- Three vectors on a line. -/
theorem par {u0 u1 v0 v1 w0 w1 : Int} (h : u0 * v1 = u1 * v0) (k : u0 * w1 = u1 * w0) (hu : u0 ≠ 0 ∨ u1 ≠ 0) : v0 * w1 = v1 * w0 := by
  rcases hu with hu | hu
  · have : u0 * (v0 * w1 - v1 * w0) = 0 := by grind
    rcases Int.mul_eq_zero.1 this with h | h
    · exact absurd h hu
    · omega
  · have : u1 * (v0 * w1 - v1 * w0) = 0 := by grind
    rcases Int.mul_eq_zero.1 this with h | h
    · exact absurd h hu
    · omega

/-- A point that two segments have in common: each one's ends lie on different sides of the other one. -/
theorem opp {a0 a1 b0 b1 p0 p1 c0 c1 d0 d1 : Int} (h : cr a0 a1 b0 b1 p0 p1 = 0) (k : bx a0 a1 b0 b1 p0 p1) (hp : cr c0 c1 d0 d1 p0 p1 = 0) : ¬ (0 < cr c0 c1 d0 d1 a0 a1 ∧ 0 < cr c0 c1 d0 d1 b0 b1) ∧ ¬ (cr c0 c1 d0 d1 a0 a1 < 0 ∧ cr c0 c1 d0 d1 b0 b1 < 0) := by
  have i0 : (b0 - a0 - (p0 - a0)) * cr c0 c1 d0 d1 a0 a1 + (p0 - a0) * cr c0 c1 d0 d1 b0 b1 = 0 := by unfold cr at *; grind
  have i1 : (b1 - a1 - (p1 - a1)) * cr c0 c1 d0 d1 a0 a1 + (p1 - a1) * cr c0 c1 d0 d1 b0 b1 = 0 := by unfold cr at *; grind
  have same : b0 = a0 → b1 = a1 → cr c0 c1 d0 d1 a0 a1 = 0 := by
    intro e f
    have e0 : p0 = a0 := by unfold bx bt at k; omega
    have e1 : p1 = a1 := by unfold bx bt at k; omega
    rw [← e0, ← e1]; exact hp
  generalize cr c0 c1 d0 d1 a0 a1 = fa at *
  generalize cr c0 c1 d0 d1 b0 b1 = fb at *
  have key : ∀ s t : Int, (0 ≤ s ∧ 0 ≤ t) ∨ (s ≤ 0 ∧ t ≤ 0) → s * fa + t * fb = 0 → (s ≠ 0 ∨ t ≠ 0) → ¬ (0 < fa ∧ 0 < fb) ∧ ¬ (fa < 0 ∧ fb < 0) := by
    intro s t hst he hne
    have pos : ∀ s t fa fb : Int, 0 ≤ s → 0 ≤ t → s * fa + t * fb = 0 → (s ≠ 0 ∨ t ≠ 0) → ¬ (0 < fa ∧ 0 < fb) := by
      intro s t fa fb hs ht he hne ⟨h1, h2⟩
      have e1 := mul_nn hs (Int.le_of_lt h1)
      have e2 := mul_nn ht (Int.le_of_lt h2)
      rcases hne with h | h
      · have := mul_pos' (show 0 < s by omega) h1; omega
      · have := mul_pos' (show 0 < t by omega) h2; omega
    rcases hst with ⟨h1, h2⟩ | ⟨h1, h2⟩
    · refine ⟨pos s t fa fb h1 h2 he hne, fun ⟨h3, h4⟩ => pos s t (-fa) (-fb) h1 h2 (by rw [Int.mul_neg, Int.mul_neg]; omega) hne ⟨by omega, by omega⟩⟩
    · refine ⟨fun ⟨h3, h4⟩ => pos (-s) (-t) fa fb (by omega) (by omega) (by rw [Int.neg_mul, Int.neg_mul]; omega) (by omega) ⟨h3, h4⟩, fun ⟨h3, h4⟩ => pos (-s) (-t) (-fa) (-fb) (by omega) (by omega) (by rw [Int.neg_mul_neg, Int.neg_mul_neg]; omega) (by omega) ⟨by omega, by omega⟩⟩
  unfold bx bt at k
  by_cases e0 : b0 = a0
  · by_cases e1 : b1 = a1
    · have := same e0 e1; omega
    · exact key _ _ (by omega) i1 (by omega)
  · exact key _ _ (by omega) i0 (by omega)

/-- Two points that two segments have in common: all lies on one line. -/
theorem flat {a0 a1 b0 b1 c0 c1 d0 d1 p0 p1 q0 q1 : Int} (hne : ¬ (p0 = q0 ∧ p1 = q1)) (h1 : cr a0 a1 b0 b1 p0 p1 = 0) (h2 : cr a0 a1 b0 b1 q0 q1 = 0) (k1 : bx a0 a1 b0 b1 p0 p1) (k2 : bx a0 a1 b0 b1 q0 q1) (h3 : cr c0 c1 d0 d1 p0 p1 = 0) (h4 : cr c0 c1 d0 d1 q0 q1 = 0) :
    cr c0 c1 d0 d1 a0 a1 = 0 ∧ cr c0 c1 d0 d1 b0 b1 = 0 := by
  have hab : b0 - a0 ≠ 0 ∨ b1 - a1 ≠ 0 := by unfold bx bt at k1 k2; omega
  have e1 : (b0 - a0) * (q1 - p1) = (b1 - a1) * (q0 - p0) := by unfold cr at *; grind
  have e2 : (b0 - a0) * (p1 - a1) = (b1 - a1) * (p0 - a0) := by unfold cr at *; grind
  have e3 : (b0 - a0) * (p1 - b1) = (b1 - a1) * (p0 - b0) := by unfold cr at *; grind
  have e4 : (q0 - p0) * (d1 - c1) = (q1 - p1) * (d0 - c0) := by unfold cr at *; grind
  have f1 := par e1 e2 hab
  have f2 := par e1 e3 hab
  have hu : q0 - p0 ≠ 0 ∨ q1 - p1 ≠ 0 := by omega
  have g1 := par e4 f1 hu
  have g2 := par e4 f2 hu
  constructor
  · unfold cr at *; grind
  · unfold cr at *; grind

/-- The order, as numbers. -/
def key (x y : Int) : Int := x * 4611686018427387904 + y
def Sm (x : Int) : Prop := -1152921504606846976 ≤ x ∧ x ≤ 1152921504606846976
theorem key_lt {a b c d : Int} (hb : Sm b) (hd : Sm d) : lexlt a b c d = true ↔ key a b < key c d := by rw [lexlt_iff]; unfold key; unfold Sm at hb hd; omega
theorem key_eq {a b c d : Int} (hb : Sm b) (hd : Sm d) : (a = c ∧ b = d) ↔ key a b = key c d := by unfold key; unfold Sm at hb hd; omega
theorem key_le {a b c d : Int} (hb : Sm b) (hd : Sm d) : le2 a b c d ↔ key a b ≤ key c d := by unfold le2 key; unfold Sm at hb hd; omega

theorem key_min {a b c d : Int} (hb : Sm b) (hd : Sm d) : key (lexmin a b c d).1 (lexmin a b c d).2 = min (key a b) (key c d) ∧ Sm (lexmin a b c d).2 := by
  cases h : lexlt a b c d
  · rw [(lex_ge h).1]
    have : ¬ key a b < key c d := fun k => by rw [(key_lt hb hd).2 k] at h; cases h
    exact ⟨by simp only; omega, hd⟩
  · rw [(lex_lt h).1]
    have := (key_lt hb hd).1 h
    exact ⟨by simp only; omega, hb⟩
theorem key_max {a b c d : Int} (hb : Sm b) (hd : Sm d) : key (lexmax a b c d).1 (lexmax a b c d).2 = max (key a b) (key c d) ∧ Sm (lexmax a b c d).2 := by
  cases h : lexlt a b c d
  · rw [(lex_ge h).2]
    have : ¬ key a b < key c d := fun k => by rw [(key_lt hb hd).2 k] at h; cases h
    exact ⟨by simp only; omega, hb⟩
  · rw [(lex_lt h).2]
    have := (key_lt hb hd).1 h
    exact ⟨by simp only; omega, hd⟩

/-- How many points two intervals have in common. -/
def ov (ka kb kc kd : Int) : Int := if max (min ka kb) (min kc kd) = min (max ka kb) (max kc kd) then 1 else if max (min ka kb) (min kc kd) < min (max ka kb) (max kc kd) then 2 else 0

theorem ovl_key {a0 a1 b0 b1 c0 c1 d0 d1 : Int} (ha : Sm a1) (hb : Sm b1) (hc : Sm c1) (hd : Sm d1) : ovl a0 a1 b0 b1 c0 c1 d0 d1 = ov (key a0 a1) (key b0 b1) (key c0 c1) (key d0 d1) := by
  obtain ⟨m1, s1⟩ := key_min (a := a0) (c := b0) ha hb
  obtain ⟨m2, s2⟩ := key_min (a := c0) (c := d0) hc hd
  obtain ⟨m3, s3⟩ := key_max (a := a0) (c := b0) ha hb
  obtain ⟨m4, s4⟩ := key_max (a := c0) (c := d0) hc hd
  obtain ⟨m5, s5⟩ := key_max (a := (lexmin a0 a1 b0 b1).1) (c := (lexmin c0 c1 d0 d1).1) s1 s2
  obtain ⟨m6, s6⟩ := key_min (a := (lexmax a0 a1 b0 b1).1) (c := (lexmax c0 c1 d0 d1).1) s3 s4
  rw [m1, m2] at m5
  rw [m3, m4] at m6
  unfold ovl ovl2 ov
  change key (lowP a0 a1 b0 b1 c0 c1 d0 d1).1 (lowP a0 a1 b0 b1 c0 c1 d0 d1).2 = _ at m5
  change key (highP a0 a1 b0 b1 c0 c1 d0 d1).1 (highP a0 a1 b0 b1 c0 c1 d0 d1).2 = _ at m6
  change Sm (lowP a0 a1 b0 b1 c0 c1 d0 d1).2 at s5
  change Sm (highP a0 a1 b0 b1 c0 c1 d0 d1).2 at s6
  generalize lowP a0 a1 b0 b1 c0 c1 d0 d1 = L at *
  generalize highP a0 a1 b0 b1 c0 c1 d0 d1 = H at *
  rw [← m5, ← m6]
  have e1 : (L = H) ↔ key L.1 L.2 = key H.1 H.2 := by rw [← key_eq s5 s6]; exact Prod.ext_iff
  have e2 : (lexlt L.1 L.2 H.1 H.2 = true) ↔ key L.1 L.2 < key H.1 H.2 := key_lt s5 s6
  by_cases h1 : L = H
  · rw [if_pos h1, if_pos (e1.1 h1)]
  · rw [if_neg h1, if_neg (fun k => h1 (e1.2 k))]
    by_cases h2 : lexlt L.1 L.2 H.1 H.2 = true
    · rw [if_pos h2, if_pos (e2.1 h2)]
    · rw [if_neg h2, if_neg (fun k => h2 (e2.2 k))]

/-- Between two numbers. -/
theorem box_key {a b c d e f : Int} (hb : Sm b) (hd : Sm d) (hf : Sm f) (h : cr a b c d e f = 0) : bx a b c d e f ↔ (key a b ≤ key e f ∧ key e f ≤ key c d) ∨ (key c d ≤ key e f ∧ key e f ≤ key a b) := by
  rw [box_iff h, key_le hb hf, key_le hf hd, key_le hd hf, key_le hf hb]

theorem ov_pt (ka kb kp : Int) : ov ka kb kp kp = 1 ↔ (ka ≤ kp ∧ kp ≤ kb) ∨ (kb ≤ kp ∧ kp ≤ ka) := by
  unfold ov
  by_cases h : max (min ka kb) (min kp kp) = min (max ka kb) (max kp kp)
  · rw [if_pos h]; simp only [true_iff]; omega
  · rw [if_neg h]
    by_cases k : max (min ka kb) (min kp kp) < min (max ka kb) (max kp kp)
    · rw [if_pos k]; omega
    · rw [if_neg k]; omega

/-- Whether a point lies on a segment, as overlap says it and as the box does. -/
theorem on_iff {a0 a1 b0 b1 p0 p1 : Int} (ha : Sm a1) (hb : Sm b1) (hp : Sm p1) (h : cr a0 a1 b0 b1 p0 p1 = 0) : ovl a0 a1 b0 b1 p0 p1 p0 p1 = 1 ↔ bx a0 a1 b0 b1 p0 p1 := by
  rw [ovl_key ha hb hp hp, ov_pt, box_key ha hb hp h]

end Go.Proofs.Ytoehojopoajcaaa.Geo
