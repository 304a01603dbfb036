/- Side, On and Meet in plain geometry: they do not hang on how things are turned, moved or written. -/
import Derived.Test.YtoehojopoajcaaaGeob
import Derived.Test.YtoehojopoajcaaaMeetD
namespace Go.Proofs.Ytoehojopoajcaaa.Geo

/-- A point that is bounded. -/
def In (x y : Int) : Prop := inl 1152921504606846976 x y = true
theorem in_iff {x y : Int} : In x y ↔ (-1152921504606846976 ≤ x ∧ x ≤ 1152921504606846976 ∧ -1152921504606846976 ≤ y ∧ y ≤ 1152921504606846976) := inl_iff
theorem In.sm {x y : Int} (h : In x y) : Sm y := by rw [in_iff] at h; exact ⟨h.2.2.1, h.2.2.2⟩

theorem side_in {a0 a1 b0 b1 p0 p1 : Int} (ha : In a0 a1) (hb : In b0 b1) (hp : In p0 p1) : sideOf a0 a1 b0 b1 p0 p1 = (cr a0 a1 b0 b1 p0 p1).sign := by
  unfold sideOf; rw [if_pos ⟨ha, hb, hp⟩]; rfl
theorem side_zero {a0 a1 b0 b1 p0 p1 : Int} (ha : In a0 a1) (hb : In b0 b1) (hp : In p0 p1) : sideOf a0 a1 b0 b1 p0 p1 = 0 ↔ cr a0 a1 b0 b1 p0 p1 = 0 := by
  rw [side_in ha hb hp]; exact Int.sign_eq_zero_iff_zero

/-- Whether p is a point of the segment. -/
def on (a0 a1 b0 b1 p0 p1 : Int) : Bool := decide (cr a0 a1 b0 b1 p0 p1 = 0 ∧ bx a0 a1 b0 b1 p0 p1)
theorem on_in {a0 a1 b0 b1 p0 p1 : Int} (ha : In a0 a1) (hb : In b0 b1) (hp : In p0 p1) : onOf a0 a1 b0 b1 p0 p1 = on a0 a1 b0 b1 p0 p1 := by
  unfold onOf on
  rw [show inl 1152921504606846976 a0 a1 = true from ha, show inl 1152921504606846976 b0 b1 = true from hb, show inl 1152921504606846976 p0 p1 = true from hp]
  simp only [Bool.true_and]
  rw [← Bool.decide_and]
  refine decide_eq_decide.2 ?_
  rw [side_zero ha hb hp]
  constructor
  · rintro ⟨h, k⟩
    exact ⟨h, (on_iff ha.sm hb.sm hp.sm h).1 k⟩
  · rintro ⟨h, k⟩
    exact ⟨h, (on_iff ha.sm hb.sm hp.sm h).2 k⟩
theorem bt_minmax (x a b : Int) : (min a b ≤ x ∧ x ≤ max a b) ↔ bt x a b := by unfold bt; omega
/-- The reference says the same of it. -/
theorem on_same (a0 a1 b0 b1 p0 p1 : Int) : ronOf a0 a1 b0 b1 p0 p1 = onOf a0 a1 b0 b1 p0 p1 := by
  cases ha : inl 1152921504606846976 a0 a1
  · unfold ronOf onOf; rw [ha]; rfl
  · cases hb : inl 1152921504606846976 b0 b1
    · unfold ronOf onOf; rw [ha, hb]; rfl
    · cases hp : inl 1152921504606846976 p0 p1
      · unfold ronOf onOf; rw [ha, hb, hp]; rfl
      · rw [on_in ha hb hp]
        unfold ronOf on btw
        rw [ha, hb, hp]
        simp only [Bool.true_and]
        rw [← Bool.decide_and, ← Bool.decide_and]
        refine decide_eq_decide.2 ?_
        rw [side_zero ha hb hp, bt_minmax, bt_minmax]
        unfold bx
        constructor
        · rintro ⟨h, k, l⟩; exact ⟨l, h, k⟩
        · rintro ⟨l, h, k⟩; exact ⟨h, k, l⟩

/-- How many different points two segments of one line have in common, by which ends lie on the other one, and which ends are the same. -/
def cnt (pa pb pc pd eab eac ead ebc ebd ecd : Bool) : Int :=
  if (pa || pb || pc || pd) = true then (if (pa && pb && !eab || pa && pc && !eac || pa && pd && !ead || pb && pc && !ebc || pb && pd && !ebd || pc && pd && !ecd) = true then 2 else 1) else 0
/-- Two points are the same. -/
def eq2 (a b c d : Int) : Bool := decide (a = c ∧ b = d)
def cntG (a0 a1 b0 b1 c0 c1 d0 d1 : Int) : Int :=
  cnt (decide (bx c0 c1 d0 d1 a0 a1)) (decide (bx c0 c1 d0 d1 b0 b1)) (decide (bx a0 a1 b0 b1 c0 c1)) (decide (bx a0 a1 b0 b1 d0 d1)) (eq2 a0 a1 b0 b1) (eq2 a0 a1 c0 c1) (eq2 a0 a1 d0 d1) (eq2 b0 b1 c0 c1) (eq2 b0 b1 d0 d1) (eq2 c0 c1 d0 d1)

theorem ov_cnt (ka kb kc kd : Int) : ov ka kb kc kd = cnt (decide ((kc ≤ ka ∧ ka ≤ kd) ∨ (kd ≤ ka ∧ ka ≤ kc))) (decide ((kc ≤ kb ∧ kb ≤ kd) ∨ (kd ≤ kb ∧ kb ≤ kc))) (decide ((ka ≤ kc ∧ kc ≤ kb) ∨ (kb ≤ kc ∧ kc ≤ ka))) (decide ((ka ≤ kd ∧ kd ≤ kb) ∨ (kb ≤ kd ∧ kd ≤ ka)))
    (decide (ka = kb)) (decide (ka = kc)) (decide (ka = kd)) (decide (kb = kc)) (decide (kb = kd)) (decide (kc = kd)) := by
  unfold ov cnt
  simp only [Bool.or_eq_true, Bool.and_eq_true, Bool.not_eq_true', decide_eq_true_eq, decide_eq_false_iff_not]
  rcases Int.lt_trichotomy (max (min ka kb) (min kc kd)) (min (max ka kb) (max kc kd)) with h | h | h
  · rw [if_neg (by omega), if_pos h, if_pos (by omega), if_pos (by omega)]
  · rw [if_pos h, if_pos (by omega), if_neg (by omega)]
  · rw [if_neg (by omega), if_neg (by omega), if_neg (by omega)]

theorem ovl_cnt {a0 a1 b0 b1 c0 c1 d0 d1 : Int} (ha : Sm a1) (hb : Sm b1) (hc : Sm c1) (hd : Sm d1) (eA : cr c0 c1 d0 d1 a0 a1 = 0) (eB : cr c0 c1 d0 d1 b0 b1 = 0) (eC : cr a0 a1 b0 b1 c0 c1 = 0) (eD : cr a0 a1 b0 b1 d0 d1 = 0) :
    ovl a0 a1 b0 b1 c0 c1 d0 d1 = cntG a0 a1 b0 b1 c0 c1 d0 d1 := by
  rw [ovl_key ha hb hc hd, ov_cnt]
  unfold cntG eq2
  have p1 := box_key hc hd ha eA
  have p2 := box_key hc hd hb eB
  have p3 := box_key ha hb hc eC
  have p4 := box_key ha hb hd eD
  simp only [p1, p2, p3, p4, key_eq ha hb, key_eq ha hc, key_eq ha hd, key_eq hb hc, key_eq hb hd, key_eq hc hd]

theorem meetS_congr {sA sB sC sD o p : Int} (h : sA = 0 → sB = 0 → sC = 0 → sD = 0 → o = p) : meetS sA sB sC sD o = meetS sA sB sC sD p := by
  unfold meetS
  by_cases k : sA = 0 ∧ sB = 0 ∧ sC = 0 ∧ sD = 0
  · rw [if_pos k, if_pos k, h k.1 k.2.1 k.2.2.1 k.2.2.2]
  · rw [if_neg k, if_neg k]

/-- Meet, in plain geometry. -/
def meetG (a0 a1 b0 b1 c0 c1 d0 d1 : Int) : Int := meetS (cr c0 c1 d0 d1 a0 a1).sign (cr c0 c1 d0 d1 b0 b1).sign (cr a0 a1 b0 b1 c0 c1).sign (cr a0 a1 b0 b1 d0 d1).sign (cntG a0 a1 b0 b1 c0 c1 d0 d1)
theorem meet_in {a0 a1 b0 b1 c0 c1 d0 d1 : Int} (ha : In a0 a1) (hb : In b0 b1) (hc : In c0 c1) (hd : In d0 d1) : meetOf a0 a1 b0 b1 c0 c1 d0 d1 = meetG a0 a1 b0 b1 c0 c1 d0 d1 := by
  unfold meetOf meetG
  rw [if_pos ⟨ha, hb, hc, hd⟩, side_in hc hd ha, side_in hc hd hb, side_in ha hb hc, side_in ha hb hd]
  refine meetS_congr fun h1 h2 h3 h4 => ?_
  exact ovl_cnt ha.sm hb.sm hc.sm hd.sm (Int.sign_eq_zero_iff_zero.1 h1) (Int.sign_eq_zero_iff_zero.1 h2) (Int.sign_eq_zero_iff_zero.1 h3) (Int.sign_eq_zero_iff_zero.1 h4)

theorem cnt_swap (pa pb pc pd eab eac ead ebc ebd ecd : Bool) : cnt pc pd pa pb ecd eac ebc ead ebd eab = cnt pa pb pc pd eab eac ead ebc ebd ecd := by
  revert pa pb pc pd eab eac ead ebc ebd ecd; decide
theorem cnt_left (pa pb pc pd eab eac ead ebc ebd ecd : Bool) : cnt pb pa pc pd eab ebc ebd eac ead ecd = cnt pa pb pc pd eab eac ead ebc ebd ecd := by
  revert pa pb pc pd eab eac ead ebc ebd ecd; decide
theorem cnt_right (pa pb pc pd eab eac ead ebc ebd ecd : Bool) : cnt pa pb pd pc eab ead eac ebd ebc ecd = cnt pa pb pc pd eab eac ead ebc ebd ecd := by
  revert pa pb pc pd eab eac ead ebc ebd ecd; decide
theorem eq2_swap (a b c d : Int) : eq2 c d a b = eq2 a b c d := by unfold eq2; exact decide_eq_decide.2 (by omega)
theorem meetS_swap (sA sB sC sD o : Int) : meetS sC sD sA sB o = meetS sA sB sC sD o := by
  unfold meetS
  by_cases h : sA = 0 ∧ sB = 0 ∧ sC = 0 ∧ sD = 0
  · rw [if_pos h, if_pos ⟨h.2.2.1, h.2.2.2, h.1, h.2.1⟩]
  · rw [if_neg h, if_neg (fun k => h ⟨k.2.2.1, k.2.2.2, k.1, k.2.1⟩)]
    by_cases k : sA * sB ≤ 0 ∧ sC * sD ≤ 0
    · rw [if_pos k, if_pos ⟨k.2, k.1⟩]
    · rw [if_neg k, if_neg (fun l => k ⟨l.2, l.1⟩)]
theorem meetS_left (sA sB sC sD o : Int) : meetS sB sA (-sC) (-sD) o = meetS sA sB sC sD o := by
  unfold meetS
  have e1 : sB * sA = sA * sB := Int.mul_comm _ _
  have e2 : -sC * -sD = sC * sD := Int.neg_mul_neg _ _
  by_cases h : sA = 0 ∧ sB = 0 ∧ sC = 0 ∧ sD = 0
  · rw [if_pos h, if_pos ⟨h.2.1, h.1, by omega, by omega⟩]
  · rw [if_neg h, if_neg (fun k => h ⟨k.2.1, k.1, by omega, by omega⟩), e1, e2]
theorem cr_flip (a b c d e f : Int) : (cr c d a b e f).sign = -(cr a b c d e f).sign := by rw [cr_swap, Int.sign_neg]
theorem bxd (a b c d e f : Int) : decide (bx c d a b e f) = decide (bx a b c d e f) := decide_eq_decide.2 bx_swap.symm

theorem meetG_swap (a0 a1 b0 b1 c0 c1 d0 d1 : Int) : meetG c0 c1 d0 d1 a0 a1 b0 b1 = meetG a0 a1 b0 b1 c0 c1 d0 d1 := by
  unfold meetG cntG
  rw [meetS_swap, eq2_swap a0 a1 c0 c1, eq2_swap b0 b1 c0 c1, eq2_swap a0 a1 d0 d1, eq2_swap b0 b1 d0 d1, cnt_swap]
theorem meetG_left (a0 a1 b0 b1 c0 c1 d0 d1 : Int) : meetG b0 b1 a0 a1 c0 c1 d0 d1 = meetG a0 a1 b0 b1 c0 c1 d0 d1 := by
  unfold meetG cntG
  rw [cr_flip a0 a1 b0 b1 c0 c1, cr_flip a0 a1 b0 b1 d0 d1, meetS_left, bxd a0 a1 b0 b1 c0 c1, bxd a0 a1 b0 b1 d0 d1, eq2_swap a0 a1 b0 b1, cnt_left]
theorem meetG_right (a0 a1 b0 b1 c0 c1 d0 d1 : Int) : meetG a0 a1 b0 b1 d0 d1 c0 c1 = meetG a0 a1 b0 b1 c0 c1 d0 d1 := by
  rw [← meetG_swap, meetG_left, meetG_swap]

/-- What keeps sides, boxes and equality keeps what two segments have in common. -/
theorem meetG_keep {a0 a1 b0 b1 c0 c1 d0 d1 p0 p1 q0 q1 r0 r1 s0 s1 : Int}
    (h1 : cr r0 r1 s0 s1 p0 p1 = cr c0 c1 d0 d1 a0 a1) (h2 : cr r0 r1 s0 s1 q0 q1 = cr c0 c1 d0 d1 b0 b1) (h3 : cr p0 p1 q0 q1 r0 r1 = cr a0 a1 b0 b1 c0 c1) (h4 : cr p0 p1 q0 q1 s0 s1 = cr a0 a1 b0 b1 d0 d1)
    (k1 : bx r0 r1 s0 s1 p0 p1 ↔ bx c0 c1 d0 d1 a0 a1) (k2 : bx r0 r1 s0 s1 q0 q1 ↔ bx c0 c1 d0 d1 b0 b1) (k3 : bx p0 p1 q0 q1 r0 r1 ↔ bx a0 a1 b0 b1 c0 c1) (k4 : bx p0 p1 q0 q1 s0 s1 ↔ bx a0 a1 b0 b1 d0 d1)
    (e1 : (p0 = q0 ∧ p1 = q1) ↔ (a0 = b0 ∧ a1 = b1)) (e2 : (p0 = r0 ∧ p1 = r1) ↔ (a0 = c0 ∧ a1 = c1)) (e3 : (p0 = s0 ∧ p1 = s1) ↔ (a0 = d0 ∧ a1 = d1)) (e4 : (q0 = r0 ∧ q1 = r1) ↔ (b0 = c0 ∧ b1 = c1)) (e5 : (q0 = s0 ∧ q1 = s1) ↔ (b0 = d0 ∧ b1 = d1)) (e6 : (r0 = s0 ∧ r1 = s1) ↔ (c0 = d0 ∧ c1 = d1)) :
    meetG p0 p1 q0 q1 r0 r1 s0 s1 = meetG a0 a1 b0 b1 c0 c1 d0 d1 := by
  unfold meetG cntG eq2
  rw [h1, h2, h3, h4]
  simp only [k1, k2, k3, k4, e1, e2, e3, e4, e5, e6]

end Go.Proofs.Ytoehojopoajcaaa.Geo
