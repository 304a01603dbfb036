/- Whole points that two segments have in common, and how often they meet. -/
import Derived.Test.YtoehojopoajcaaaGeod
namespace Go.Proofs.Ytoehojopoajcaaa.Geo

theorem on_mem {a0 a1 b0 b1 p0 p1 : Int} : on a0 a1 b0 b1 p0 p1 = true ↔ cr a0 a1 b0 b1 p0 p1 = 0 ∧ bx a0 a1 b0 b1 p0 p1 := by unfold on; exact decide_eq_true_iff
theorem on_two (a b c d e f : Int) : on (2 * a) (2 * b) (2 * c) (2 * d) (2 * e) (2 * f) = on a b c d e f := by
  unfold on
  refine decide_eq_decide.2 ?_
  rw [cr_two, bx_two]
  have : 4 * cr a b c d e f = 0 ↔ cr a b c d e f = 0 := by omega
  rw [this]
theorem on_left (a b c d : Int) : on a b c d a b = true := on_mem.2 ⟨by unfold cr; grind, by unfold bx bt; omega⟩
theorem on_right (a b c d : Int) : on a b c d c d = true := on_mem.2 ⟨by unfold cr; grind, by unfold bx bt; omega⟩

theorem cr_same (c d a b : Int) : cr c d c d a b = 0 := by unfold cr; grind
/-- A segment meets a point if the point lies on it. -/
theorem meet_pt {a0 a1 b0 b1 p0 p1 : Int} (ha : In a0 a1) (hb : In b0 b1) (hp : In p0 p1) : decide (meetOf a0 a1 b0 b1 p0 p1 p0 p1 = 1) = on a0 a1 b0 b1 p0 p1 := by
  unfold on
  refine decide_eq_decide.2 ?_
  unfold meetOf
  rw [if_pos ⟨ha, hb, hp, hp⟩, side_in hp hp ha, side_in hp hp hb, side_in ha hb hp, cr_same, cr_same]
  unfold meetS
  by_cases h : cr a0 a1 b0 b1 p0 p1 = 0
  · rw [h, if_pos (by decide), on_iff ha.sm hb.sm hp.sm h]
    exact ⟨fun k => ⟨rfl, k⟩, fun k => k.2⟩
  · have hs : (cr a0 a1 b0 b1 p0 p1).sign ≠ 0 := fun k => h (Int.sign_eq_zero_iff_zero.1 k)
    rw [if_neg (fun k => hs k.2.2.1)]
    have : 0 < (cr a0 a1 b0 b1 p0 p1).sign * (cr a0 a1 b0 b1 p0 p1).sign := by
      rcases Int.lt_trichotomy (cr a0 a1 b0 b1 p0 p1) 0 with k | k | k
      · rw [Int.sign_eq_neg_one_of_neg k]; decide
      · exact absurd k h
      · rw [Int.sign_eq_one_of_pos k]; decide
    rw [if_neg (by omega)]
    exact ⟨fun k => by omega, fun k => absurd k.1 h⟩

theorem sign_prod {x y : Int} (h : ¬ (0 < x ∧ 0 < y) ∧ ¬ (x < 0 ∧ y < 0)) : x.sign * y.sign ≤ 0 := by
  rcases Int.lt_trichotomy x 0 with k | k | k <;> rcases Int.lt_trichotomy y 0 with l | l | l
  · exact absurd ⟨k, l⟩ h.2
  · rw [l]; simp
  · rw [Int.sign_eq_neg_one_of_neg k, Int.sign_eq_one_of_pos l]; decide
  · rw [k]; simp
  · rw [k]; simp
  · rw [k]; simp
  · rw [Int.sign_eq_one_of_pos k, Int.sign_eq_neg_one_of_neg l]; decide
  · rw [l]; simp
  · exact absurd ⟨k, l⟩ h.1

theorem ov_one {ka kb kc kd kp : Int} (h : (ka ≤ kp ∧ kp ≤ kb) ∨ (kb ≤ kp ∧ kp ≤ ka)) (k : (kc ≤ kp ∧ kp ≤ kd) ∨ (kd ≤ kp ∧ kp ≤ kc)) : 1 ≤ ov ka kb kc kd := by
  unfold ov
  by_cases e : max (min ka kb) (min kc kd) = min (max ka kb) (max kc kd)
  · rw [if_pos e]; omega
  · rw [if_neg e, if_pos (by omega)]; omega
theorem ov_two {ka kb kc kd kp kq : Int} (h : (ka ≤ kp ∧ kp ≤ kb) ∨ (kb ≤ kp ∧ kp ≤ ka)) (k : (kc ≤ kp ∧ kp ≤ kd) ∨ (kd ≤ kp ∧ kp ≤ kc)) (h' : (ka ≤ kq ∧ kq ≤ kb) ∨ (kb ≤ kq ∧ kq ≤ ka)) (k' : (kc ≤ kq ∧ kq ≤ kd) ∨ (kd ≤ kq ∧ kq ≤ kc)) (hne : kp ≠ kq) : ov ka kb kc kd = 2 := by
  unfold ov
  rw [if_neg (by omega), if_pos (by omega)]
theorem ov_bd (ka kb kc kd : Int) : 0 ≤ ov ka kb kc kd ∧ ov ka kb kc kd ≤ 2 := by
  unfold ov
  by_cases e : max (min ka kb) (min kc kd) = min (max ka kb) (max kc kd)
  · rw [if_pos e]; omega
  · rw [if_neg e]
    by_cases k : max (min ka kb) (min kc kd) < min (max ka kb) (max kc kd)
    · rw [if_pos k]; omega
    · rw [if_neg k]; omega

section
variable {a0 a1 b0 b1 c0 c1 d0 d1 : Int} (ha : In a0 a1) (hb : In b0 b1) (hc : In c0 c1) (hd : In d0 d1)
include ha hb hc hd
theorem meet_of : meetOf a0 a1 b0 b1 c0 c1 d0 d1 = meetS (cr c0 c1 d0 d1 a0 a1).sign (cr c0 c1 d0 d1 b0 b1).sign (cr a0 a1 b0 b1 c0 c1).sign (cr a0 a1 b0 b1 d0 d1).sign (ov (key a0 a1) (key b0 b1) (key c0 c1) (key d0 d1)) := by
  unfold meetOf
  rw [if_pos ⟨ha, hb, hc, hd⟩, side_in hc hd ha, side_in hc hd hb, side_in ha hb hc, side_in ha hb hd, ovl_key ha.sm hb.sm hc.sm hd.sm]
theorem meet_bd : 0 ≤ meetOf a0 a1 b0 b1 c0 c1 d0 d1 ∧ meetOf a0 a1 b0 b1 c0 c1 d0 d1 ≤ 2 := by
  rw [meet_of ha hb hc hd]
  unfold meetS
  split
  · exact ov_bd _ _ _ _
  · split <;> decide
theorem meet_one {p0 p1 : Int} (hp : In p0 p1) (h : on a0 a1 b0 b1 p0 p1 = true) (k : on c0 c1 d0 d1 p0 p1 = true) : 1 ≤ meetOf a0 a1 b0 b1 c0 c1 d0 d1 := by
  rw [on_mem] at h k
  rw [meet_of ha hb hc hd]
  unfold meetS
  split
  · exact ov_one ((box_key ha.sm hb.sm hp.sm h.1).1 h.2) ((box_key hc.sm hd.sm hp.sm k.1).1 k.2)
  · rw [if_pos ⟨sign_prod (opp h.1 h.2 k.1), sign_prod (opp k.1 k.2 h.1)⟩]; decide
theorem meet_more {p0 p1 q0 q1 : Int} (hp : In p0 p1) (hq : In q0 q1) (hne : ¬ (p0 = q0 ∧ p1 = q1)) (h : on a0 a1 b0 b1 p0 p1 = true) (k : on c0 c1 d0 d1 p0 p1 = true) (h' : on a0 a1 b0 b1 q0 q1 = true) (k' : on c0 c1 d0 d1 q0 q1 = true) : meetOf a0 a1 b0 b1 c0 c1 d0 d1 = 2 := by
  rw [on_mem] at h k h' k'
  rw [meet_of ha hb hc hd]
  obtain ⟨e1, e2⟩ := flat hne h.1 h'.1 h.2 h'.2 k.1 k'.1
  obtain ⟨e3, e4⟩ := flat hne k.1 k'.1 k.2 k'.2 h.1 h'.1
  rw [e1, e2, e3, e4]
  unfold meetS
  rw [if_pos (by decide)]
  exact ov_two ((box_key ha.sm hb.sm hp.sm h.1).1 h.2) ((box_key hc.sm hd.sm hp.sm k.1).1 k.2) ((box_key ha.sm hb.sm hq.sm h'.1).1 h'.2) ((box_key hc.sm hd.sm hq.sm k'.1).1 k'.2) (fun e => hne ((key_eq hp.sm hq.sm).2 e))
/-- Two segments that meet infinitely often: an end of one lies on both. -/
theorem meet_end (h : meetOf a0 a1 b0 b1 c0 c1 d0 d1 = 2) : ∃ p0 p1, (p0 = a0 ∧ p1 = a1 ∨ p0 = b0 ∧ p1 = b1 ∨ p0 = c0 ∧ p1 = c1 ∨ p0 = d0 ∧ p1 = d1) ∧ on a0 a1 b0 b1 p0 p1 = true ∧ on c0 c1 d0 d1 p0 p1 = true := by
  rw [meet_of ha hb hc hd] at h
  unfold meetS at h
  split at h
  · next e =>
    obtain ⟨e1, e2, e3, e4⟩ := e
    have e1 := Int.sign_eq_zero_iff_zero.1 e1
    have e2 := Int.sign_eq_zero_iff_zero.1 e2
    have e3 := Int.sign_eq_zero_iff_zero.1 e3
    have e4 := Int.sign_eq_zero_iff_zero.1 e4
    have o1 := on_left a0 a1 b0 b1
    have o2 := on_right a0 a1 b0 b1
    have o3 := on_left c0 c1 d0 d1
    have o4 := on_right c0 c1 d0 d1
    have m1 := on_mem (a0 := c0) (a1 := c1) (b0 := d0) (b1 := d1) (p0 := a0) (p1 := a1)
    have m2 := on_mem (a0 := c0) (a1 := c1) (b0 := d0) (b1 := d1) (p0 := b0) (p1 := b1)
    have m3 := on_mem (a0 := a0) (a1 := a1) (b0 := b0) (b1 := b1) (p0 := c0) (p1 := c1)
    have m4 := on_mem (a0 := a0) (a1 := a1) (b0 := b0) (b1 := b1) (p0 := d0) (p1 := d1)
    rw [box_key hc.sm hd.sm ha.sm e1] at m1
    rw [box_key hc.sm hd.sm hb.sm e2] at m2
    rw [box_key ha.sm hb.sm hc.sm e3] at m3
    rw [box_key ha.sm hb.sm hd.sm e4] at m4
    generalize key a0 a1 = ka at *
    generalize key b0 b1 = kb at *
    generalize key c0 c1 = kc at *
    generalize key d0 d1 = kd at *
    have : ((kc ≤ ka ∧ ka ≤ kd) ∨ (kd ≤ ka ∧ ka ≤ kc)) ∨ ((kc ≤ kb ∧ kb ≤ kd) ∨ (kd ≤ kb ∧ kb ≤ kc)) ∨ ((ka ≤ kc ∧ kc ≤ kb) ∨ (kb ≤ kc ∧ kc ≤ ka)) ∨ ((ka ≤ kd ∧ kd ≤ kb) ∨ (kb ≤ kd ∧ kd ≤ ka)) := by
      unfold ov at h
      by_cases f : max (min ka kb) (min kc kd) = min (max ka kb) (max kc kd)
      · rw [if_pos f] at h; omega
      · rw [if_neg f] at h
        by_cases g : max (min ka kb) (min kc kd) < min (max ka kb) (max kc kd)
        · omega
        · rw [if_neg g] at h; omega
    rcases this with g | g | g | g
    · exact ⟨a0, a1, Or.inl ⟨rfl, rfl⟩, o1, m1.2 ⟨e1, g⟩⟩
    · exact ⟨b0, b1, Or.inr (Or.inl ⟨rfl, rfl⟩), o2, m2.2 ⟨e2, g⟩⟩
    · exact ⟨c0, c1, Or.inr (Or.inr (Or.inl ⟨rfl, rfl⟩)), m3.2 ⟨e3, g⟩, o3⟩
    · exact ⟨d0, d1, Or.inr (Or.inr (Or.inr ⟨rfl, rfl⟩)), m4.2 ⟨e4, g⟩, o4⟩
  · split at h <;> omega
end

/-- How many of the whole points that were looked at are common ones. -/
structure Cnt (f : Int → Int → Bool) (i k n : Int) : Prop where
  lo : 0 ≤ n
  hi : n ≤ 25 * i + k + 312
  seen : ∀ x y, -12 ≤ x → -12 ≤ y → y ≤ 12 → (x < i ∨ x = i ∧ y < k) → f x y = true → 1 ≤ n
  one : 1 ≤ n → ∃ x y, (-12 ≤ x ∧ x ≤ i ∧ -12 ≤ y ∧ y ≤ 12) ∧ (x < i ∨ x = i ∧ y < k) ∧ f x y = true
  two : 2 ≤ n → ∃ x y u v, (-12 ≤ x ∧ x ≤ i ∧ -12 ≤ y ∧ y ≤ 12) ∧ (-12 ≤ u ∧ u ≤ i ∧ -12 ≤ v ∧ v ≤ 12) ∧ ¬ (x = u ∧ y = v) ∧ f x y = true ∧ f u v = true

theorem Cnt.start (f : Int → Int → Bool) : Cnt f (-12) (-12) 0 :=
  ⟨by omega, by omega, fun x y h1 h2 h3 h4 => by omega, fun h => by omega, fun h => by omega⟩
theorem Cnt.yes {f : Int → Int → Bool} {i k n : Int} (h : Cnt f i k n) (hi : -12 ≤ i) (hk : -12 ≤ k ∧ k ≤ 12) (e : f i k = true) : Cnt f i (k + 1) (n + 1) := by
  refine ⟨by have := h.lo; omega, by have := h.hi; omega, fun x y _ _ _ _ _ => by have := h.lo; omega, fun _ => ⟨i, k, by omega, by omega, e⟩, fun h2 => ?_⟩
  obtain ⟨x, y, b, l, g⟩ := h.one (by omega)
  exact ⟨x, y, i, k, b, by omega, by omega, g, e⟩
theorem Cnt.no {f : Int → Int → Bool} {i k n : Int} (h : Cnt f i k n) (e : f i k = false) : Cnt f i (k + 1) n := by
  refine ⟨h.lo, by have := h.hi; omega, fun x y a b c d g => ?_, fun h1 => ?_, h.two⟩
  · by_cases hx : x = i ∧ y = k
    · rw [hx.1, hx.2, e] at g; cases g
    · exact h.seen x y a b c (by omega) g
  · obtain ⟨x, y, b, l, g⟩ := h.one h1
    exact ⟨x, y, b, by omega, g⟩
theorem Cnt.next {f : Int → Int → Bool} {i n : Int} (h : Cnt f i 13 n) : Cnt f (i + 1) (-12) n := by
  refine ⟨h.lo, by have := h.hi; omega, fun x y a b c d g => h.seen x y a b c (by omega) g, fun h1 => ?_, fun h2 => ?_⟩
  · obtain ⟨x, y, b, l, g⟩ := h.one h1
    exact ⟨x, y, by omega, by omega, g⟩
  · obtain ⟨x, y, u, v, b, b', e, g, g'⟩ := h.two h2
    exact ⟨x, y, u, v, by omega, by omega, e, g, g'⟩

def Lt (x : Int) : Prop := -12 ≤ x ∧ x ≤ 12
theorem Lt.inn {x y : Int} (h : Lt x) (k : Lt y) : In x y := by unfold Lt at h k; exact in_small (by omega)

/-- What the law says of the count. -/
theorem Cnt.all {a0 a1 b0 b1 c0 c1 d0 d1 n : Int} (ha : Lt a0 ∧ Lt a1) (hb : Lt b0 ∧ Lt b1) (hc : Lt c0 ∧ Lt c1) (hd : Lt d0 ∧ Lt d1)
    (h : Cnt (fun x y => on a0 a1 b0 b1 x y && on c0 c1 d0 d1 x y) 13 (-12) n) :
    min n 2 ≤ meetOf a0 a1 b0 b1 c0 c1 d0 d1 ∧ (2 ≤ meetOf a0 a1 b0 b1 c0 c1 d0 d1 → 0 < n) ∧ 0 ≤ meetOf a0 a1 b0 b1 c0 c1 d0 d1 ∧ meetOf a0 a1 b0 b1 c0 c1 d0 d1 ≤ 2 := by
  have iA := ha.1.inn ha.2
  have iB := hb.1.inn hb.2
  have iC := hc.1.inn hc.2
  have iD := hd.1.inn hd.2
  have bd := meet_bd iA iB iC iD
  refine ⟨?_, fun h2 => ?_, bd⟩
  · by_cases h2 : 2 ≤ n
    · obtain ⟨x, y, u, v, b, b', e, g, g'⟩ := h.two h2
      simp only [Bool.and_eq_true] at g g'
      have := meet_more iA iB iC iD (in_small (x := x) (y := y) (by omega)) (in_small (x := u) (y := v) (by omega)) e g.1 g.2 g'.1 g'.2
      omega
    · by_cases h1 : 1 ≤ n
      · obtain ⟨x, y, b, l, g⟩ := h.one h1
        simp only [Bool.and_eq_true] at g
        have := meet_one iA iB iC iD (in_small (x := x) (y := y) (by omega)) g.1 g.2
        omega
      · omega
  · obtain ⟨x, y, e, g1, g2⟩ := meet_end iA iB iC iD (by omega)
    unfold Lt at ha hb hc hd
    have := h.seen x y (by omega) (by omega) (by omega) (by omega) (by simp only [g1, g2, Bool.and_self])
    omega

/-- What a walk asks at each whole point. -/
theorem lattice_at {a0 a1 b0 b1 i k : Int} (ha : Lt a0 ∧ Lt a1) (hb : Lt b0 ∧ Lt b1) (hi : Lt i) (hk : Lt k) {o : Bool} (h : on a0 a1 b0 b1 i k = o) :
    onOf a0 a1 b0 b1 i k = o ∧ onOf (2 * a0) (2 * a1) (2 * b0) (2 * b1) (2 * i) (2 * k) = o ∧ decide (meetOf a0 a1 b0 b1 i k i k = 1) = o := by
  have iA := ha.1.inn ha.2
  have iB := hb.1.inn hb.2
  have iP := hi.inn hk
  unfold Lt at ha hb hi hk
  refine ⟨by rw [on_in iA iB iP, h], ?_, by rw [meet_pt iA iB iP, h]⟩
  rw [on_in (in_small (by omega)) (in_small (by omega)) (in_small (by omega)), on_two, h]
theorem lattice_ends {a0 a1 b0 b1 : Int} (ha : Lt a0 ∧ Lt a1) (hb : Lt b0 ∧ Lt b1) : onOf a0 a1 b0 b1 a0 a1 = true ∧ onOf a0 a1 b0 b1 b0 b1 = true := by
  have iA := ha.1.inn ha.2
  have iB := hb.1.inn hb.2
  exact ⟨by rw [on_in iA iB iA, on_left], by rw [on_in iA iB iB, on_right]⟩
theorem lt_on {a0 a1 b0 b1 i k : Int} (ha : Lt a0 ∧ Lt a1) (hb : Lt b0 ∧ Lt b1) (hi : Lt i) (hk : Lt k) : onOf a0 a1 b0 b1 i k = on a0 a1 b0 b1 i k := on_in (ha.1.inn ha.2) (hb.1.inn hb.2) (hi.inn hk)

end Go.Proofs.Ytoehojopoajcaaa.Geo
