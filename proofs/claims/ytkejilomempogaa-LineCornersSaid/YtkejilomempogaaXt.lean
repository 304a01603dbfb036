/- Turning, moving and reversing lists changes nothing. -/
import Derived.Test.YtkejilomempogaaXn
import Derived.Test.YtkejilomempogaaMo
namespace Go.Proofs.Ytkejilomempogaa
open Go.RowKit Go.Lib Geo

theorem cs_rt {A : List (Int × Int)} (h : Cs A) : A.all rtP = true := List.all_eq_true.2 fun p hp => by
  have := h p hp
  unfold rtP
  rw [inl_iff]; omega
theorem cs_at {A : List (Int × Int)} (h : Cs A) {k : Nat} (hk : k < A.length) : (0 ≤ (pt A k).1 ∧ (pt A k).1 ≤ 12) ∧ (0 ≤ (pt A k).2 ∧ (pt A k).2 ≤ 12) := h _ (List.mem_of_getElem? (at_pt hk))

/-- A list that is turned and moved, and lists of right points. -/
structure Mvd (m : Nat) (u v : Int) (l l' : List (Int × Int)) : Prop where
  hm : m ≤ 3
  len : l'.length = l.length
  tm : ∀ k, k < l.length → Tm m u v (pt l k).1 (pt l k).2 (pt l' k).1 (pt l' k).2
  r : l.all rtP = true
  r' : l'.all rtP = true

theorem mvP_small (q0 q1 q2 : Int) {p : Int × Int} (h : (0 ≤ p.1 ∧ p.1 ≤ 12) ∧ (0 ≤ p.2 ∧ p.2 ≤ 12)) : Tm ((q0.tmod 4) % 4).toNat (q1.tmod 10000) (q2.tmod 10000) p.1 p.2 (mvP q0 q1 q2 p).1 (mvP q0 q1 q2 p).2 ∧ rtP (mvP q0 q1 q2 p) = true ∧ ((q0.tmod 4) % 4).toNat ≤ 3 := by
  have hm : ((q0.tmod 4) % 4).toNat ≤ 3 := by omega
  have b1 := tmod_bd q1 10000 (by omega)
  have b2 := tmod_bd q2 10000 (by omega)
  unfold mvP
  generalize ((q0.tmod 4) % 4).toNat = m at *
  generalize q1.tmod 10000 = u at *
  generalize q2.tmod 10000 = v at *
  rw [rotN_rq hm (by omega) (by omega)]
  have b3 := rq_bd (B := 12) hm (x := p.1) (y := p.2) (by omega) (by omega)
  rw [w64 (by omega), w64 (by omega)]
  refine ⟨⟨rfl, rfl⟩, ?_, hm⟩
  unfold rtP
  rw [inl_iff]
  simp only
  omega
theorem pt_map (f : Int × Int → Int × Int) {l : List (Int × Int)} {k : Nat} (hk : k < l.length) : pt (l.map f) k = f (pt l k) := by
  unfold pt
  rw [List.getElem?_map, List.getElem?_eq_getElem hk]; rfl
theorem mvd_of {l : List (Int × Int)} (h : Cs l) (q0 q1 q2 : Int) : Mvd ((q0.tmod 4) % 4).toNat (q1.tmod 10000) (q2.tmod 10000) l (l.map (mvP q0 q1 q2)) where
  hm := by omega
  len := by simp
  tm := fun k hk => by rw [pt_map _ hk]; exact (mvP_small q0 q1 q2 (cs_at h hk)).1
  r := cs_rt h
  r' := List.all_eq_true.2 fun p hp => by
    obtain ⟨p', h1, rfl⟩ := List.mem_map.1 hp
    exact (mvP_small q0 q1 q2 (h p' h1)).2.1

theorem pt_eq {p q : Int × Int} : p = q ↔ (p.1 = q.1 ∧ p.2 = q.2) := by cases p; cases q; simp
theorem eq_mvd {m : Nat} {u v : Int} {l l' x x' : List (Int × Int)} (h : Mvd m u v l l') (g : Mvd m u v x x') {i j : Nat} (hi : i < l.length) (hj : j < x.length) : pt l' i = pt x' j ↔ pt l i = pt x j := by
  rw [pt_eq, pt_eq]
  exact eq_tm h.hm (h.tm i hi) (g.tm j hj)
theorem meet_mvd {m : Nat} {u v : Int} {l l' x x' : List (Int × Int)} (h : Mvd m u v l l') (g : Mvd m u v x x') {i j : Nat} (hi : i + 1 < l.length) (hj : j + 1 < x.length) : rcX l' x' i j = rcX l x i j := by
  have e1 := h.len
  have e2 := g.len
  unfold rcX
  rw [Geo.meet_in (rt_in (rtp_at h.r' (by omega))) (rt_in (rtp_at h.r' (by omega))) (rt_in (rtp_at g.r' (by omega))) (rt_in (rtp_at g.r' (by omega))), Geo.meet_in (rt_in (rtp_at h.r (by omega))) (rt_in (rtp_at h.r (by omega))) (rt_in (rtp_at g.r (by omega))) (rt_in (rtp_at g.r (by omega)))]
  exact meet_tm h.hm (h.tm i (by omega)) (h.tm (i + 1) hi) (g.tm j (by omega)) (g.tm (j + 1) hj)
theorem on_mvd {m : Nat} {u v : Int} {l l' x x' : List (Int × Int)} (h : Mvd m u v l l') (g : Mvd m u v x x') {i j : Nat} (hi : i + 1 < l.length) (hj : j < x.length) : onOf (pt l' i).1 (pt l' i).2 (pt l' (i + 1)).1 (pt l' (i + 1)).2 (pt x' j).1 (pt x' j).2 = onOf (pt l i).1 (pt l i).2 (pt l (i + 1)).1 (pt l (i + 1)).2 (pt x j).1 (pt x j).2 := by
  have e1 := h.len
  have e2 := g.len
  rw [on_in (rt_in (rtp_at h.r' (by omega))) (rt_in (rtp_at h.r' (by omega))) (rt_in (rtp_at g.r' (by omega))), on_in (rt_in (rtp_at h.r (by omega))) (rt_in (rtp_at h.r (by omega))) (rt_in (rtp_at g.r (by omega)))]
  exact on_tm h.hm (h.tm i (by omega)) (h.tm (i + 1) hi) (g.tm j hj)

theorem closed_mvd {m : Nat} {u v : Int} {l l' : List (Int × Int)} (h : Mvd m u v l l') : closedP l' = closedP l := by
  unfold closedP
  rw [h.len]
  cases e : decide (4 ≤ l.length)
  · rfl
  · have := of_decide_eq_true e
    rw [decide_eq_decide.2 (eq_mvd h h (show 0 < l.length by omega) (show l.length - 1 < l.length by omega))]
theorem want_mvd {m : Nat} {u v : Int} {l l' : List (Int × Int)} (h : Mvd m u v l l') (i j : Nat) : wantP l' i j = wantP l i j := by
  unfold wantP; rw [closed_mvd h, h.len]
theorem simple_mvd {m : Nat} {u v : Int} {l l' : List (Int × Int)} (h : Mvd m u v l l') : simpleR l' = simpleR l := by
  unfold simpleR
  rw [h.len, anyTo_congr (g := badS2 l)]
  intro j hj
  unfold badS2
  rw [decide_eq_decide.2 (eq_mvd h h (show j < l.length by omega) (show j + 1 < l.length by omega)), anyTo_congr (g := badM2 l j)]
  intro i hi
  unfold badM2
  have e : mK l' i j = mK l i j := meet_mvd h h (show i + 1 < l.length by omega) (show j + 1 < l.length by omega)
  rw [e, want_mvd h]
theorem chk_mvd {m : Nat} {u v : Int} {l l' : List (Int × Int)} (h : Mvd m u v l l') : chkP l' (simpleP l') = chkP l (simpleP l) := by
  rw [chk_same, chk_same, simple_mvd h]
  unfold chkP
  rw [h.len, h.r, h.r']
theorem eqP_mvd {m : Nat} {u v : Int} {l l' x x' : List (Int × Int)} (h : Mvd m u v l l') (g : Mvd m u v x x') {i j : Nat} (hi : i < l.length) (hj : j < x.length) : eqP (pt l' i) (pt x' j) = eqP (pt l i) (pt x j) := decide_eq_decide.2 (eq_mvd h g hi hj)
theorem endR_mvd {m : Nat} {u v : Int} {l l' x x' : List (Int × Int)} (h : Mvd m u v l l') (g : Mvd m u v x x') {i j : Nat} (hi : i + 1 < l.length) (hj : j + 1 < x.length) : endR l' x' i j = endR l x i j := by
  unfold endR
  refine anyTo_congr fun n hn => ?_
  obtain ⟨k, hk, e, e'⟩ : ∃ k, k < l.length ∧ endE l n = pt l k ∧ endE l' n = pt l' k := by
    unfold endE
    rw [h.len]
    split
    · exact ⟨0, by omega, rfl, rfl⟩
    · exact ⟨l.length - 1, by omega, rfl, rfl⟩
  rw [e, e']
  unfold endQ bothP
  rw [on_mvd h h hi hk, on_mvd g h hj hk, g.len, eqP_mvd h g hk (by omega), eqP_mvd h g hk (by omega)]
theorem cross_mvd {m : Nat} {u v : Int} {l l' x x' : List (Int × Int)} (h : Mvd m u v l l') (g : Mvd m u v x x') : crossP l' x' = crossP l x := by
  rw [cross_same, cross_same]
  unfold rcrossP
  rw [h.r, h.r', g.r, g.r', h.len, anyTo_congr (g := rcO l x)]
  intro i hi
  unfold rcO
  rw [g.len]
  refine anyTo_congr fun j hj => ?_
  unfold rcI
  rw [meet_mvd h g (by omega) (by omega), endR_mvd h g (by omega) (by omega)]

theorem lenD_rt {p q : Int × Int} (hp : rtP p = true) (hq : rtP q = true) : lenD p.1 p.2 q.1 q.2 = (q.1 - p.1) * (q.1 - p.1) + (q.2 - p.2) * (q.2 - p.2) := by
  have h1 := rt16 hp
  have h2 := rt16 hq
  have m1 := S16.mul (a := q.1 - p.1) (b := q.1 - p.1) (by unfold S16; omega) (by unfold S16; omega)
  have m2 := S16.mul (a := q.2 - p.2) (b := q.2 - p.2) (by unfold S16; omega) (by unfold S16; omega)
  unfold lenD
  rw [w64 (x := q.1 - p.1) (by omega), w64 (x := q.2 - p.2) (by omega)]
  generalize (q.1 - p.1) * (q.1 - p.1) = X at *
  generalize (q.2 - p.2) * (q.2 - p.2) = Y at *
  rw [w64 (x := X) (by omega), w64 (x := Y) (by omega), w64 (by omega)]
theorem sq_tm {m : Nat} (hm : m ≤ 3) {u v a b c d p q r s : Int} (h1 : Tm m u v a b p q) (h2 : Tm m u v c d r s) : (r - p) * (r - p) + (s - q) * (s - q) = (c - a) * (c - a) + (d - b) * (d - b) := by
  obtain ⟨rfl, rfl⟩ := h1; obtain ⟨rfl, rfl⟩ := h2
  rcases four hm with rfl | rfl | rfl | rfl <;> simp [rq] <;> grind
theorem lenTo_congr {l x : List (Int × Int)} : ∀ {n : Nat}, (∀ k, k < n → lenS l k = lenS x k) → lenTo l n = lenTo x n := by
  intro n
  induction n with
  | zero => intro _; rfl
  | succ n ih => intro h; rw [lenTo, lenTo, ih (fun k hk => h k (by omega)), h n (by omega)]
theorem length_mvd {m : Nat} {u v : Int} {l l' : List (Int × Int)} (h : Mvd m u v l l') : lengthP l' = lengthP l := by
  have e1 := h.len
  unfold lengthP
  rw [h.len]
  refine lenTo_congr fun k hk => ?_
  unfold lenS
  rw [lenD_rt (rtp_at h.r' (by omega)) (rtp_at h.r' (by omega)), lenD_rt (rtp_at h.r (by omega)) (rtp_at h.r (by omega)), sq_tm h.hm (h.tm k (by omega)) (h.tm (k + 1) (by omega))]
theorem segW_congr {a0 a1 b0 b1 p0 p1 n a0' a1' b0' b1' p0' p1' : Int}
    (h1 : (b0' - a0') * (p0' - a0') + (b1' - a1') * (p1' - a1') = (b0 - a0) * (p0 - a0) + (b1 - a1) * (p1 - a1))
    (h2 : (p0' - a0') * (p0' - a0') + (p1' - a1') * (p1' - a1') = (p0 - a0) * (p0 - a0) + (p1 - a1) * (p1 - a1))
    (h3 : (b0' - a0') * (p0' - b0') + (b1' - a1') * (p1' - b1') = (b0 - a0) * (p0 - b0) + (b1 - a1) * (p1 - b1))
    (h4 : (p0' - b0') * (p0' - b0') + (p1' - b1') * (p1' - b1') = (p0 - b0) * (p0 - b0) + (p1 - b1) * (p1 - b1))
    (h5 : (b0' - a0') * (p1' - a1') - (b1' - a1') * (p0' - a0') = (b0 - a0) * (p1 - a1) - (b1 - a1) * (p0 - a0))
    (h6 : (b0' - a0') * (b0' - a0') + (b1' - a1') * (b1' - a1') = (b0 - a0) * (b0 - a0) + (b1 - a1) * (b1 - a1)) : segW a0' a1' b0' b1' p0' p1' n = segW a0 a1 b0 b1 p0 p1 n := by
  unfold segW; rw [h1, h2, h3, h4, h5, h6]
theorem dot_tm {m : Nat} (hm : m ≤ 3) {u v a b c d e f g h p q r s t x y z : Int} (h1 : Tm m u v a b p q) (h2 : Tm m u v c d r s) (h3 : Tm m u v e f t x) (h4 : Tm m u v g h y z) : (r - p) * (y - t) + (s - q) * (z - x) = (c - a) * (g - e) + (d - b) * (h - f) := by
  obtain ⟨rfl, rfl⟩ := h1; obtain ⟨rfl, rfl⟩ := h2; obtain ⟨rfl, rfl⟩ := h3; obtain ⟨rfl, rfl⟩ := h4
  rcases four hm with rfl | rfl | rfl | rfl <;> simp [rq] <;> grind
theorem within_mvd {m : Nat} {u v : Int} {l l' x x' : List (Int × Int)} (h : Mvd m u v l l') (g : Mvd m u v x x') {j : Nat} (hj : j < x.length) (n : Int) : withinP l' (pt x' j) n = withinP l (pt x j) n := by
  have e1 := g.len
  have e2 := h.len
  unfold withinP
  rw [h.r, h.r', rtp_at g.r hj, rtp_at g.r' (by omega), h.len, anyTo_congr (g := sgw l (pt x j) n)]
  intro k hk
  unfold sgw
  have t1 := h.tm k (by omega)
  have t2 := h.tm (k + 1) (by omega)
  have t3 := g.tm j hj
  have c1 := cr_tm h.hm t1 t2 t3
  unfold cr at c1
  exact segW_congr (dot_tm h.hm t1 t2 t1 t3) (dot_tm h.hm t1 t3 t1 t3) (dot_tm h.hm t1 t2 t2 t3) (dot_tm h.hm t2 t3 t2 t3) c1 (dot_tm h.hm t1 t2 t1 t2)

/- The order of two lists. -/
theorem rcX_swap {l x : List (Int × Int)} (hl : l.all rtP = true) (hx : x.all rtP = true) {i j : Nat} (hi : i + 1 < l.length) (hj : j + 1 < x.length) : rcX x l j i = rcX l x i j := by
  unfold rcX
  rw [Geo.meet_in (rt_in (rtp_at hx (by omega))) (rt_in (rtp_at hx (by omega))) (rt_in (rtp_at hl (by omega))) (rt_in (rtp_at hl (by omega))), Geo.meet_in (rt_in (rtp_at hl (by omega))) (rt_in (rtp_at hl (by omega))) (rt_in (rtp_at hx (by omega))) (rt_in (rtp_at hx (by omega)))]
  exact meetG_swap _ _ _ _ _ _ _ _
theorem endR_iff {l x : List (Int × Int)} {i j : Nat} : endR l x i j = true ↔ ∃ p, (p = pt l 0 ∨ p = pt l (l.length - 1)) ∧ (p = pt x 0 ∨ p = pt x (x.length - 1)) ∧ bothP (pt l i).1 (pt l i).2 (pt l (i + 1)).1 (pt l (i + 1)).2 (pt x j).1 (pt x j).2 (pt x (j + 1)).1 (pt x (j + 1)).2 p = true := by
  unfold endR
  rw [anyTo_iff]
  constructor
  · rintro ⟨n, hn, h⟩
    unfold endQ eqP at h
    rw [Bool.and_eq_true, Bool.or_eq_true, decide_eq_true_iff, decide_eq_true_iff] at h
    refine ⟨endE l n, ?_, h.2, h.1⟩
    unfold endE
    split
    · exact .inl rfl
    · exact .inr rfl
  · rintro ⟨p, h1, h2, h3⟩
    have h4 : endQ (pt l i).1 (pt l i).2 (pt l (i + 1)).1 (pt l (i + 1)).2 (pt x j).1 (pt x j).2 (pt x (j + 1)).1 (pt x (j + 1)).2 (pt x 0) (pt x (x.length - 1)) p = true := by
      unfold endQ eqP
      rw [Bool.and_eq_true, Bool.or_eq_true, decide_eq_true_iff, decide_eq_true_iff]
      exact ⟨h3, h2⟩
    rcases h1 with rfl | rfl
    · exact ⟨0, by omega, h4⟩
    · exact ⟨1, by omega, h4⟩
theorem both_comm (a0 a1 b0 b1 c0 c1 d0 d1 : Int) (p : Int × Int) : bothP c0 c1 d0 d1 a0 a1 b0 b1 p = bothP a0 a1 b0 b1 c0 c1 d0 d1 p := by unfold bothP; rw [Bool.and_comm]
theorem endR_swap {l x : List (Int × Int)} {i j : Nat} : endR x l j i = endR l x i j := by
  rw [Bool.eq_iff_iff, endR_iff, endR_iff]
  constructor <;> rintro ⟨p, h1, h2, h3⟩ <;> exact ⟨p, h2, h1, by rw [both_comm]; exact h3⟩
theorem rcI_swap {l x : List (Int × Int)} (hl : l.all rtP = true) (hx : x.all rtP = true) {i j : Nat} (hi : i + 1 < l.length) (hj : j + 1 < x.length) : rcI x l j i = rcI l x i j := by
  unfold rcI; rw [rcX_swap hl hx hi hj, endR_swap]
theorem rcross_iff {l x : List (Int × Int)} : rcrossP l x = true ↔ l.all rtP = true ∧ x.all rtP = true ∧ ∃ i j, i + 1 < l.length ∧ j + 1 < x.length ∧ rcI l x i j = true := by
  unfold rcrossP
  rw [Bool.and_eq_true, Bool.and_eq_true, anyTo_iff]
  constructor
  · rintro ⟨h1, h2, i, hi, h3⟩
    obtain ⟨j, hj, h4⟩ := anyTo_iff.1 h3
    exact ⟨h1, h2, i, j, by omega, by omega, h4⟩
  · rintro ⟨h1, h2, i, j, hi, hj, h4⟩
    exact ⟨h1, h2, i, by omega, anyTo_iff.2 ⟨j, by omega, h4⟩⟩
theorem cross_swap (l x : List (Int × Int)) : crossP x l = crossP l x := by
  rw [cross_same, cross_same, Bool.eq_iff_iff, rcross_iff, rcross_iff]
  constructor
  · rintro ⟨h1, h2, i, j, hi, hj, h⟩; exact ⟨h2, h1, j, i, hj, hi, (rcI_swap h1 h2 hi hj).trans h⟩
  · rintro ⟨h1, h2, i, j, hi, hj, h⟩; exact ⟨h2, h1, j, i, hj, hi, (rcI_swap h1 h2 hi hj).trans h⟩

/- Reverse. -/
theorem pt_rev {l : List (Int × Int)} {k : Nat} (hk : k < l.length) : pt l.reverse k = pt l (l.length - 1 - k) := by
  unfold pt; rw [List.getElem?_reverse hk]
theorem all_rev {l : List (Int × Int)} : l.reverse.all rtP = l.all rtP := List.all_reverse
theorem closed_rev {l : List (Int × Int)} : closedP l.reverse = closedP l := by
  unfold closedP
  rw [List.length_reverse]
  cases e : decide (4 ≤ l.length)
  · rfl
  · have := of_decide_eq_true e
    rw [pt_rev (show 0 < l.length by omega), pt_rev (show l.length - 1 < l.length by omega), show l.length - 1 - (l.length - 1) = 0 by omega, Nat.sub_zero]
    exact congrArg _ (decide_eq_decide.2 ⟨Eq.symm, Eq.symm⟩)
theorem want_rev {l : List (Int × Int)} {i j : Nat} (hj : j + 1 < l.length) (hij : i < j) : wantP l.reverse i j = wantP l (l.length - 2 - j) (l.length - 2 - i) := by
  unfold wantP
  rw [closed_rev, List.length_reverse]
  by_cases c : closedP l = true
  · simp only [c, true_and]
    by_cases h : j = i + 1 ∨ (i = 0 ∧ j + 2 = l.length)
    · rw [if_pos h, if_pos (by omega)]
    · rw [if_neg h, if_neg (by omega)]
  · simp only [c, Bool.false_eq_true, false_and, or_false]
    by_cases h : j = i + 1
    · rw [if_pos h, if_pos (by omega)]
    · rw [if_neg h, if_neg (by omega)]
theorem rcX_rev {l x : List (Int × Int)} (hl : l.all rtP = true) (hx : x.all rtP = true) {i j : Nat} (hi : i + 1 < l.length) (hj : j + 1 < x.length) : rcX l.reverse x i j = rcX l x (l.length - 2 - i) j := by
  unfold rcX
  rw [pt_rev (show i < l.length by omega), pt_rev hi, show l.length - 1 - i = l.length - 2 - i + 1 by omega, show l.length - 1 - (i + 1) = l.length - 2 - i by omega]
  rw [Geo.meet_in (rt_in (rtp_at hl (by omega))) (rt_in (rtp_at hl (by omega))) (rt_in (rtp_at hx (by omega))) (rt_in (rtp_at hx (by omega))), Geo.meet_in (rt_in (rtp_at hl (by omega))) (rt_in (rtp_at hl (by omega))) (rt_in (rtp_at hx (by omega))) (rt_in (rtp_at hx (by omega)))]
  exact meetG_left _ _ _ _ _ _ _ _
theorem mK_rev {l : List (Int × Int)} (hl : l.all rtP = true) {i j : Nat} (hi : i + 1 < l.length) (hj : j + 1 < l.length) : mK l.reverse i j = mK l (l.length - 2 - j) (l.length - 2 - i) := by
  show rcX l.reverse l.reverse i j = rcX l l (l.length - 2 - j) (l.length - 2 - i)
  have hr : l.reverse.all rtP = true := all_rev.trans hl
  have e : l.reverse.length = l.length := List.length_reverse
  rw [rcX_rev hl hr hi (by omega), ← rcX_swap hl hr (by omega) (by omega), rcX_rev hl hl hj (by omega)]
theorem simpleR_iff {l : List (Int × Int)} : simpleR l = true ↔ ∀ j, j + 1 < l.length → pt l j ≠ pt l (j + 1) ∧ ∀ i, i < j → mK l i j = wantP l i j := by
  unfold simpleR
  rw [Bool.not_eq_true', ← Bool.not_eq_true, anyTo_iff]
  constructor
  · intro h j hj
    refine ⟨fun e => h ⟨j, by omega, ?_⟩, fun i hi => Decidable.byContradiction fun e => h ⟨j, by omega, ?_⟩⟩
    · unfold badS2; rw [Bool.or_eq_true, decide_eq_true_iff]; exact .inl e
    · unfold badS2; rw [Bool.or_eq_true, anyTo_iff]; exact .inr ⟨i, hi, by unfold badM2; exact decide_eq_true e⟩
  · rintro h ⟨j, hj, hb⟩
    have h1 := h j (by omega)
    unfold badS2 at hb
    rw [Bool.or_eq_true, decide_eq_true_iff, anyTo_iff] at hb
    rcases hb with hb | ⟨i, hi, hb⟩
    · exact h1.1 hb
    · unfold badM2 at hb
      exact (of_decide_eq_true hb) (h1.2 i hi)
theorem simple_rev1 {l : List (Int × Int)} (hl : l.all rtP = true) (h : simpleR l = true) : simpleR l.reverse = true := by
  rw [simpleR_iff] at *
  intro j hj
  rw [List.length_reverse] at hj
  refine ⟨?_, fun i hi => ?_⟩
  · rw [pt_rev (show j < l.length by omega), pt_rev hj, show l.length - 1 - j = l.length - 2 - j + 1 by omega, show l.length - 1 - (j + 1) = l.length - 2 - j by omega]
    exact fun e => (h (l.length - 2 - j) (by omega)).1 e.symm
  · rw [mK_rev hl (by omega) hj, want_rev hj hi]
    exact (h (l.length - 2 - i) (by omega)).2 _ (by omega)
theorem simple_rev {l : List (Int × Int)} (hl : l.all rtP = true) : simpleR l.reverse = simpleR l := by
  rw [Bool.eq_iff_iff]
  refine ⟨fun h => ?_, simple_rev1 hl⟩
  have := simple_rev1 (all_rev.trans hl) h
  rw [List.reverse_reverse] at this
  exact this
theorem chk_rev {l : List (Int × Int)} (hl : l.all rtP = true) : chkP l.reverse (simpleP l.reverse) = chkP l (simpleP l) := by
  rw [chk_same, chk_same, simple_rev hl]
  unfold chkP
  rw [List.length_reverse, all_rev]
theorem endR_rev {l x : List (Int × Int)} (hl : l.all rtP = true) (hx : x.all rtP = true) {i j : Nat} (hi : i + 1 < l.length) (hj : j + 1 < x.length) : endR l.reverse x i j = endR l x (l.length - 2 - i) j := by
  have ep : ∀ p : Int × Int, (p = pt x 0 ∨ p = pt x (x.length - 1)) → bothP (pt l (l.length - 2 - i + 1)).1 (pt l (l.length - 2 - i + 1)).2 (pt l (l.length - 2 - i)).1 (pt l (l.length - 2 - i)).2 (pt x j).1 (pt x j).2 (pt x (j + 1)).1 (pt x (j + 1)).2 p = bothP (pt l (l.length - 2 - i)).1 (pt l (l.length - 2 - i)).2 (pt l (l.length - 2 - i + 1)).1 (pt l (l.length - 2 - i + 1)).2 (pt x j).1 (pt x j).2 (pt x (j + 1)).1 (pt x (j + 1)).2 p := by
    intro p hp
    have hq : rtP p = true := by rcases hp with rfl | rfl <;> exact rtp_at hx (by omega)
    unfold bothP
    rw [on_in (rt_in (rtp_at hl (by omega))) (rt_in (rtp_at hl (by omega))) (rt_in hq), on_in (rt_in (rtp_at hl (by omega))) (rt_in (rtp_at hl (by omega))) (rt_in hq)]
    congr 1
    unfold on
    refine decide_eq_decide.2 ?_
    rw [cr_swap, bx_swap]
    exact ⟨fun h => ⟨by omega, h.2⟩, fun h => ⟨by omega, h.2⟩⟩
  rw [Bool.eq_iff_iff, endR_iff, endR_iff, List.length_reverse, pt_rev (show 0 < l.length by omega), pt_rev (show l.length - 1 < l.length by omega), pt_rev (show i < l.length by omega), pt_rev hi, show l.length - 1 - (l.length - 1) = 0 by omega, Nat.sub_zero, show l.length - 1 - i = l.length - 2 - i + 1 by omega, show l.length - 1 - (i + 1) = l.length - 2 - i by omega]
  constructor
  · rintro ⟨p, h1, h2, h3⟩; exact ⟨p, h1.symm, h2, (ep p h2).symm.trans h3⟩
  · rintro ⟨p, h1, h2, h3⟩; exact ⟨p, h1.symm, h2, (ep p h2).trans h3⟩
theorem cross_rev1 {l x : List (Int × Int)} (h : rcrossP l x = true) : rcrossP l.reverse x = true := by
  rw [rcross_iff] at *
  obtain ⟨h1, h2, i, j, hi, hj, h3⟩ := h
  refine ⟨all_rev.trans h1, h2, l.length - 2 - i, j, by rw [List.length_reverse]; omega, hj, ?_⟩
  unfold rcI at *
  rw [rcX_rev h1 h2 (by omega) hj, endR_rev h1 h2 (by omega) hj, show l.length - 2 - (l.length - 2 - i) = i by omega]
  exact h3
theorem cross_rev (l x : List (Int × Int)) : crossP l.reverse x = crossP l x := by
  rw [cross_same, cross_same, Bool.eq_iff_iff]
  refine ⟨fun h => ?_, cross_rev1⟩
  have := cross_rev1 h
  rw [List.reverse_reverse] at this
  exact this
def sumTo (f : Nat → Int) : Nat → Int
  | 0 => 0
  | k + 1 => sumTo f k + f k
theorem sumTo_first (f : Nat → Int) : ∀ k, sumTo f (k + 1) = f 0 + sumTo (fun j => f (j + 1)) k := by
  intro k
  induction k with
  | zero => simp [sumTo]
  | succ k ih => rw [sumTo, ih, sumTo]; omega
theorem sumTo_congr {f g : Nat → Int} : ∀ {n : Nat}, (∀ k, k < n → f k = g k) → sumTo f n = sumTo g n := by
  intro n
  induction n with
  | zero => intro _; rfl
  | succ n ih => intro h; rw [sumTo, sumTo, ih (fun k hk => h k (by omega)), h n (by omega)]
theorem sumTo_rev (f : Nat → Int) : ∀ k, sumTo (fun j => f (k - 1 - j)) k = sumTo f k := by
  intro k
  induction k with
  | zero => rfl
  | succ k ih =>
    rw [sumTo_first, sumTo_congr (g := fun j => f (k - 1 - j)) (fun j hj => by show f (k + 1 - 1 - (j + 1)) = f (k - 1 - j); congr 1; omega), ih, sumTo]
    show f (k + 1 - 1 - 0) + _ = _
    rw [show k + 1 - 1 - 0 = k by omega]; omega
theorem lenTo_sum (l : List (Int × Int)) : ∀ k, lenTo l k = wrap64 (sumTo (lenS l) k) := by
  intro k
  induction k with
  | zero => show (0 : Int) = wrap64 0; exact (w64 (by omega)).symm
  | succ k ih => rw [lenTo, ih, sumTo]; unfold wrap64; omega
theorem length_rev {l : List (Int × Int)} (hl : l.all rtP = true) : lengthP l.reverse = lengthP l := by
  unfold lengthP
  rw [lenTo_sum, lenTo_sum, List.length_reverse, ← sumTo_rev (lenS l)]
  refine congrArg wrap64 (sumTo_congr fun k hk => ?_)
  unfold lenS
  rw [pt_rev (show k < l.length by omega), pt_rev (show k + 1 < l.length by omega), show l.length - 1 - (k + 1) = l.length - 1 - 1 - k by omega, show l.length - 1 - k = l.length - 1 - 1 - k + 1 by omega]
  rw [lenD_rt (rtp_at hl (by omega)) (rtp_at hl (by omega)), lenD_rt (rtp_at hl (by omega)) (rtp_at hl (by omega))]
  congr 1
  grind
theorem segW_rev (a0 a1 b0 b1 p0 p1 n : Int) : segW b0 b1 a0 a1 p0 p1 n = segW a0 a1 b0 b1 p0 p1 n := by
  have e1 : (a0 - b0) * (p0 - b0) + (a1 - b1) * (p1 - b1) = -((b0 - a0) * (p0 - b0) + (b1 - a1) * (p1 - b1)) := by grind
  have e2 : (a0 - b0) * (p0 - a0) + (a1 - b1) * (p1 - a1) = -((b0 - a0) * (p0 - a0) + (b1 - a1) * (p1 - a1)) := by grind
  have e3 : (2 * ((a0 - b0) * (p1 - b1) - (a1 - b1) * (p0 - b0))) * (2 * ((a0 - b0) * (p1 - b1) - (a1 - b1) * (p0 - b0))) = (2 * ((b0 - a0) * (p1 - a1) - (b1 - a1) * (p0 - a0))) * (2 * ((b0 - a0) * (p1 - a1) - (b1 - a1) * (p0 - a0))) := by grind
  have e4 : (a0 - b0) * (a0 - b0) + (a1 - b1) * (a1 - b1) = (b0 - a0) * (b0 - a0) + (b1 - a1) * (b1 - a1) := by grind
  have e5 : (b0 - a0) * (p0 - a0) + (b1 - a1) * (p1 - a1) - ((b0 - a0) * (p0 - b0) + (b1 - a1) * (p1 - b1)) = (b0 - a0) * (b0 - a0) + (b1 - a1) * (b1 - a1) := by grind
  unfold segW
  rw [e1, e2, e3, e4]
  by_cases h1 : (b0 - a0) * (p0 - a0) + (b1 - a1) * (p1 - a1) ≤ 0
  · by_cases h2 : (b0 - a0) * (p0 - b0) + (b1 - a1) * (p1 - b1) ≥ 0
    · obtain ⟨z0, z1⟩ := sq_zero (x := b0 - a0) (y := b1 - a1) (by omega)
      obtain rfl : b0 = a0 := by omega
      obtain rfl : b1 = a1 := by omega
      rw [if_pos (by omega), if_pos (by omega)]
    · rw [if_neg (by omega), if_pos (by omega), if_pos h1]
  · by_cases h2 : (b0 - a0) * (p0 - b0) + (b1 - a1) * (p1 - b1) ≥ 0
    · rw [if_pos (by omega), if_neg h1, if_pos h2]
    · rw [if_neg (by omega), if_neg (by omega), if_neg h1, if_neg h2]
theorem within_rev1 {l : List (Int × Int)} {p : Int × Int} {n : Int} (h : withinP l p n = true) : withinP l.reverse p n = true := by
  unfold withinP at *
  rw [Bool.and_eq_true, Bool.and_eq_true] at *
  obtain ⟨h1, h2, h3⟩ := h
  obtain ⟨k, hk, h4⟩ := anyTo_iff.1 h3
  refine ⟨all_rev.trans h1, h2, anyTo_iff.2 ⟨l.length - 2 - k, by rw [List.length_reverse]; omega, ?_⟩⟩
  unfold sgw at *
  rw [pt_rev (show l.length - 2 - k < l.length by omega), pt_rev (show l.length - 2 - k + 1 < l.length by omega), show l.length - 1 - (l.length - 2 - k) = k + 1 by omega, show l.length - 1 - (l.length - 2 - k + 1) = k by omega, segW_rev]
  exact h4
theorem within_rev (l : List (Int × Int)) (p : Int × Int) (n : Int) : withinP l.reverse p n = withinP l p n := by
  rw [Bool.eq_iff_iff]
  refine ⟨fun h => ?_, within_rev1⟩
  have := within_rev1 h
  rw [List.reverse_reverse] at this
  exact this

end Go.Proofs.Ytkejilomempogaa
