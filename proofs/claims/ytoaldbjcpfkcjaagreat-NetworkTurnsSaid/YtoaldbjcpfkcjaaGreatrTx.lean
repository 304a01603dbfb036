/- x -/
import Derived.Test.YtoaldbjcpfkcjaaGreatrTa
namespace Go.Proofs.YtoaldbjcpfkcjaaGreat
open Go.RowKit Go.Lib Geo

theorem w64 {x : Int} (h : -9223372036854775808 ≤ x ∧ x ≤ 9223372036854775807) : wrap64 x = x := IntWalk.wrap64_in _ h
theorem end_same {l m : List (Int × Int)} {i j : Nat} (hi : i + 1 < l.length) (hj : j + 1 < m.length) : (comP l m).any (bothP (pt l i).1 (pt l i).2 (pt l (i + 1)).1 (pt l (i + 1)).2 (pt m j).1 (pt m j).2 (pt m (j + 1)).1 (pt m (j + 1)).2) = endR l m i j := by
  unfold comP endsP endR
  rw [if_neg (by omega), if_neg (by omega), List.any_filter]
  simp only [List.any_cons, List.any_nil, anyTo, endQ, endE, if_true, Bool.or_false, Bool.false_or, if_neg (show ¬ (1 = 0) by decide)]
  rw [Bool.and_comm (eqP (pt l 0) (pt m 0) || _), Bool.and_comm (eqP (pt l (l.length - 1)) (pt m 0) || _)]
theorem cross_in {l m : List (Int × Int)} {i j : Nat} (hl : l.all rtP = true) (hm : m.all rtP = true) (hi : i + 1 < l.length) (hj : j + 1 < m.length) : crI l m (comP l m) i j = rcI l m i j := by
  unfold crI rcI mbP
  rw [lmeet_pt (rtp_at hl (by omega)) (rtp_at hl (by omega)) (rtp_at hm (by omega)) (rtp_at hm (by omega)), end_same hi hj]
  have hb := meet_bd (rt_in (rtp_at hl (show i < l.length by omega))) (rt_in (rtp_at hl hi)) (rt_in (rtp_at hm (show j < m.length by omega))) (rt_in (rtp_at hm hj))
  unfold rcX
  generalize meetOf (pt l i).1 (pt l i).2 (pt l (i + 1)).1 (pt l (i + 1)).2 (pt m j).1 (pt m j).2 (pt m (j + 1)).1 (pt m (j + 1)).2 = X at *
  rcases (show X = 0 ∨ X = 1 ∨ X = 2 by omega) with rfl | rfl | rfl <;> simp
theorem cross_same (l m : List (Int × Int)) : crossP l m = rcrossP l m := by
  unfold crossP rcrossP
  cases hl : l.all rtP
  · rfl
  · cases hm : m.all rtP
    · rfl
    · have e : anyTo (crO l m (comP l m)) (l.length - 1) = anyTo (rcO l m) (l.length - 1) := anyTo_congr fun i hi => anyTo_congr fun j hj => cross_in hl hm (by omega) (by omega)
      rw [e]
      cases hn : nearP l m
      · simp only [Bool.true_and, Bool.false_and]
        refine (Decidable.byContradiction fun h => ?_)
        have h' : anyTo (rcO l m) (l.length - 1) = true := by cases hx : anyTo (rcO l m) (l.length - 1); exact absurd hx.symm h; rfl
        obtain ⟨i, hi, h2⟩ := anyTo_iff.1 h'
        obtain ⟨j, hj, h3⟩ := anyTo_iff.1 h2
        have hx : rcX l m i j ≠ 0 := by
          intro h0
          unfold rcI at h3
          rw [h0] at h3
          simp at h3
        have := near_of (l := l) (m := m) (i := i) (j := j) (by omega) (by omega) (bnear_of_meet (rt_in (rtp_at hl (by omega))) (rt_in (rtp_at hl (by omega))) (rt_in (rtp_at hm (by omega))) (rt_in (rtp_at hm (by omega))) hx)
        rw [hn] at this
        cases this
      · rfl

/-- A list that is turned and moved, and lists of right points. -/
structure Mvd (m : Nat) (u v : Int) (l l' : List (Int × Int)) : Prop where
  hm : m ≤ 3
  len : l'.length = l.length
  tm : ∀ k, k < l.length → Tm m u v (pt l k).1 (pt l k).2 (pt l' k).1 (pt l' k).2
  r : l.all rtP = true
  r' : l'.all rtP = true

theorem pt_map (f : Int × Int → Int × Int) {l : List (Int × Int)} {k : Nat} (hk : k < l.length) : pt (l.map f) k = f (pt l k) := by
  unfold pt
  rw [List.getElem?_map, List.getElem?_eq_getElem hk]; rfl
theorem pt_eq {p q : Int × Int} : p = q ↔ (p.1 = q.1 ∧ p.2 = q.2) := by cases p; cases q; simp
theorem eq_mvd {m : Nat} {u v : Int} {l l' x x' : List (Int × Int)} (h : Mvd m u v l l') (g : Mvd m u v x x') {i j : Nat} (hi : i < l.length) (hj : j < x.length) : pt l' i = pt x' j ↔ pt l i = pt x j := by
  rw [pt_eq, pt_eq]
  exact eq_tm h.hm (h.tm i hi) (g.tm j hj)
theorem meet_mvd {m : Nat} {u v : Int} {l l' x x' : List (Int × Int)} (h : Mvd m u v l l') (g : Mvd m u v x x') {i j : Nat} (hi : i + 1 < l.length) (hj : j + 1 < x.length) : rcX l' x' i j = rcX l x i j := by
  have e1 := h.len
  have e2 := g.len
  unfold rcX
  rw [Geo.meet_in (rt_in (rtp_at h.r' (by omega))) (rt_in (rtp_at h.r' (by omega))) (rt_in (rtp_at g.r' (by omega))) (rt_in (rtp_at g.r' (by omega))), Geo.meet_in (rt_in (rtp_at h.r (by omega))) (rt_in (rtp_at h.r (by omega))) (rt_in (rtp_at g.r (by omega))) (rt_in (rtp_at g.r (by omega)))]
  exact meet_tm h.hm (h.tm i (by omega)) (h.tm (i + 1) hi) (g.tm j (by omega)) (g.tm (j + 1) hj)
theorem on_mvd {m : Nat} {u v : Int} {l l' x x' : List (Int × Int)} (h : Mvd m u v l l') (g : Mvd m u v x x') {i j : Nat} (hi : i + 1 < l.length) (hj : j < x.length) : onOf (pt l' i).1 (pt l' i).2 (pt l' (i + 1)).1 (pt l' (i + 1)).2 (pt x' j).1 (pt x' j).2 = onOf (pt l i).1 (pt l i).2 (pt l (i + 1)).1 (pt l (i + 1)).2 (pt x j).1 (pt x j).2 := by
  have e1 := h.len
  have e2 := g.len
  rw [on_in (rt_in (rtp_at h.r' (by omega))) (rt_in (rtp_at h.r' (by omega))) (rt_in (rtp_at g.r' (by omega))), on_in (rt_in (rtp_at h.r (by omega))) (rt_in (rtp_at h.r (by omega))) (rt_in (rtp_at g.r (by omega)))]
  exact on_tm h.hm (h.tm i (by omega)) (h.tm (i + 1) hi) (g.tm j hj)

theorem closed_mvd {m : Nat} {u v : Int} {l l' : List (Int × Int)} (h : Mvd m u v l l') : closedP l' = closedP l := by
  unfold closedP
  rw [h.len]
  cases e : decide (4 ≤ l.length)
  · rfl
  · have := of_decide_eq_true e
    rw [decide_eq_decide.2 (eq_mvd h h (show 0 < l.length by omega) (show l.length - 1 < l.length by omega))]
theorem want_mvd {m : Nat} {u v : Int} {l l' : List (Int × Int)} (h : Mvd m u v l l') (i j : Nat) : wantP l' i j = wantP l i j := by
  unfold wantP; rw [closed_mvd h, h.len]
theorem simple_mvd {m : Nat} {u v : Int} {l l' : List (Int × Int)} (h : Mvd m u v l l') : simpleR l' = simpleR l := by
  unfold simpleR
  rw [h.len, anyTo_congr (g := badS2 l)]
  intro j hj
  unfold badS2
  rw [decide_eq_decide.2 (eq_mvd h h (show j < l.length by omega) (show j + 1 < l.length by omega)), anyTo_congr (g := badM2 l j)]
  intro i hi
  unfold badM2
  have e : mK l' i j = mK l i j := meet_mvd h h (show i + 1 < l.length by omega) (show j + 1 < l.length by omega)
  rw [e, want_mvd h]
theorem chk_mvd {m : Nat} {u v : Int} {l l' : List (Int × Int)} (h : Mvd m u v l l') : chkP l' (simpleP l') = chkP l (simpleP l) := by
  rw [chk_same, chk_same, simple_mvd h]
  unfold chkP
  rw [h.len, h.r, h.r']
theorem eqP_mvd {m : Nat} {u v : Int} {l l' x x' : List (Int × Int)} (h : Mvd m u v l l') (g : Mvd m u v x x') {i j : Nat} (hi : i < l.length) (hj : j < x.length) : eqP (pt l' i) (pt x' j) = eqP (pt l i) (pt x j) := decide_eq_decide.2 (eq_mvd h g hi hj)
theorem endR_mvd {m : Nat} {u v : Int} {l l' x x' : List (Int × Int)} (h : Mvd m u v l l') (g : Mvd m u v x x') {i j : Nat} (hi : i + 1 < l.length) (hj : j + 1 < x.length) : endR l' x' i j = endR l x i j := by
  unfold endR
  refine anyTo_congr fun n hn => ?_
  obtain ⟨k, hk, e, e'⟩ : ∃ k, k < l.length ∧ endE l n = pt l k ∧ endE l' n = pt l' k := by
    unfold endE
    rw [h.len]
    split
    · exact ⟨0, by omega, rfl, rfl⟩
    · exact ⟨l.length - 1, by omega, rfl, rfl⟩
  rw [e, e']
  unfold endQ bothP
  rw [on_mvd h h hi hk, on_mvd g h hj hk, g.len, eqP_mvd h g hk (by omega), eqP_mvd h g hk (by omega)]
theorem cross_mvd {m : Nat} {u v : Int} {l l' x x' : List (Int × Int)} (h : Mvd m u v l l') (g : Mvd m u v x x') : crossP l' x' = crossP l x := by
  rw [cross_same, cross_same]
  unfold rcrossP
  rw [h.r, h.r', g.r, g.r', h.len, anyTo_congr (g := rcO l x)]
  intro i hi
  unfold rcO
  rw [g.len]
  refine anyTo_congr fun j hj => ?_
  unfold rcI
  rw [meet_mvd h g (by omega) (by omega), endR_mvd h g (by omega) (by omega)]

theorem rcX_swap {l x : List (Int × Int)} (hl : l.all rtP = true) (hx : x.all rtP = true) {i j : Nat} (hi : i + 1 < l.length) (hj : j + 1 < x.length) : rcX x l j i = rcX l x i j := by
  unfold rcX
  rw [Geo.meet_in (rt_in (rtp_at hx (by omega))) (rt_in (rtp_at hx (by omega))) (rt_in (rtp_at hl (by omega))) (rt_in (rtp_at hl (by omega))), Geo.meet_in (rt_in (rtp_at hl (by omega))) (rt_in (rtp_at hl (by omega))) (rt_in (rtp_at hx (by omega))) (rt_in (rtp_at hx (by omega)))]
  exact meetG_swap _ _ _ _ _ _ _ _
theorem endR_iff {l x : List (Int × Int)} {i j : Nat} : endR l x i j = true ↔ ∃ p, (p = pt l 0 ∨ p = pt l (l.length - 1)) ∧ (p = pt x 0 ∨ p = pt x (x.length - 1)) ∧ bothP (pt l i).1 (pt l i).2 (pt l (i + 1)).1 (pt l (i + 1)).2 (pt x j).1 (pt x j).2 (pt x (j + 1)).1 (pt x (j + 1)).2 p = true := by
  unfold endR
  rw [anyTo_iff]
  constructor
  · rintro ⟨n, hn, h⟩
    unfold endQ eqP at h
    rw [Bool.and_eq_true, Bool.or_eq_true, decide_eq_true_iff, decide_eq_true_iff] at h
    refine ⟨endE l n, ?_, h.2, h.1⟩
    unfold endE
    split
    · exact .inl rfl
    · exact .inr rfl
  · rintro ⟨p, h1, h2, h3⟩
    have h4 : endQ (pt l i).1 (pt l i).2 (pt l (i + 1)).1 (pt l (i + 1)).2 (pt x j).1 (pt x j).2 (pt x (j + 1)).1 (pt x (j + 1)).2 (pt x 0) (pt x (x.length - 1)) p = true := by
      unfold endQ eqP
      rw [Bool.and_eq_true, Bool.or_eq_true, decide_eq_true_iff, decide_eq_true_iff]
      exact ⟨h3, h2⟩
    rcases h1 with rfl | rfl
    · exact ⟨0, by omega, h4⟩
    · exact ⟨1, by omega, h4⟩
theorem both_comm (a0 a1 b0 b1 c0 c1 d0 d1 : Int) (p : Int × Int) : bothP c0 c1 d0 d1 a0 a1 b0 b1 p = bothP a0 a1 b0 b1 c0 c1 d0 d1 p := by unfold bothP; rw [Bool.and_comm]
theorem endR_swap {l x : List (Int × Int)} {i j : Nat} : endR x l j i = endR l x i j := by
  rw [Bool.eq_iff_iff, endR_iff, endR_iff]
  constructor <;> rintro ⟨p, h1, h2, h3⟩ <;> exact ⟨p, h2, h1, by rw [both_comm]; exact h3⟩
theorem rcI_swap {l x : List (Int × Int)} (hl : l.all rtP = true) (hx : x.all rtP = true) {i j : Nat} (hi : i + 1 < l.length) (hj : j + 1 < x.length) : rcI x l j i = rcI l x i j := by
  unfold rcI; rw [rcX_swap hl hx hi hj, endR_swap]
theorem rcross_iff {l x : List (Int × Int)} : rcrossP l x = true ↔ l.all rtP = true ∧ x.all rtP = true ∧ ∃ i j, i + 1 < l.length ∧ j + 1 < x.length ∧ rcI l x i j = true := by
  unfold rcrossP
  rw [Bool.and_eq_true, Bool.and_eq_true, anyTo_iff]
  constructor
  · rintro ⟨h1, h2, i, hi, h3⟩
    obtain ⟨j, hj, h4⟩ := anyTo_iff.1 h3
    exact ⟨h1, h2, i, j, by omega, by omega, h4⟩
  · rintro ⟨h1, h2, i, j, hi, hj, h4⟩
    exact ⟨h1, h2, i, by omega, anyTo_iff.2 ⟨j, by omega, h4⟩⟩
theorem cross_swap (l x : List (Int × Int)) : crossP x l = crossP l x := by
  rw [cross_same, cross_same, Bool.eq_iff_iff, rcross_iff, rcross_iff]
  constructor
  · rintro ⟨h1, h2, i, j, hi, hj, h⟩; exact ⟨h2, h1, j, i, hj, hi, (rcI_swap h1 h2 hi hj).trans h⟩
  · rintro ⟨h1, h2, i, j, hi, hj, h⟩; exact ⟨h2, h1, j, i, hj, hi, (rcI_swap h1 h2 hi hj).trans h⟩

theorem pt_rev {l : List (Int × Int)} {k : Nat} (hk : k < l.length) : pt l.reverse k = pt l (l.length - 1 - k) := by
  unfold pt; rw [List.getElem?_reverse hk]
theorem all_rev {l : List (Int × Int)} : l.reverse.all rtP = l.all rtP := List.all_reverse
theorem closed_rev {l : List (Int × Int)} : closedP l.reverse = closedP l := by
  unfold closedP
  rw [List.length_reverse]
  cases e : decide (4 ≤ l.length)
  · rfl
  · have := of_decide_eq_true e
    rw [pt_rev (show 0 < l.length by omega), pt_rev (show l.length - 1 < l.length by omega), show l.length - 1 - (l.length - 1) = 0 by omega, Nat.sub_zero]
    exact congrArg _ (decide_eq_decide.2 ⟨Eq.symm, Eq.symm⟩)
theorem want_rev {l : List (Int × Int)} {i j : Nat} (hj : j + 1 < l.length) (hij : i < j) : wantP l.reverse i j = wantP l (l.length - 2 - j) (l.length - 2 - i) := by
  unfold wantP
  rw [closed_rev, List.length_reverse]
  by_cases c : closedP l = true
  · simp only [c, true_and]
    by_cases h : j = i + 1 ∨ (i = 0 ∧ j + 2 = l.length)
    · rw [if_pos h, if_pos (by omega)]
    · rw [if_neg h, if_neg (by omega)]
  · simp only [c, Bool.false_eq_true, false_and, or_false]
    by_cases h : j = i + 1
    · rw [if_pos h, if_pos (by omega)]
    · rw [if_neg h, if_neg (by omega)]
theorem rcX_rev {l x : List (Int × Int)} (hl : l.all rtP = true) (hx : x.all rtP = true) {i j : Nat} (hi : i + 1 < l.length) (hj : j + 1 < x.length) : rcX l.reverse x i j = rcX l x (l.length - 2 - i) j := by
  unfold rcX
  rw [pt_rev (show i < l.length by omega), pt_rev hi, show l.length - 1 - i = l.length - 2 - i + 1 by omega, show l.length - 1 - (i + 1) = l.length - 2 - i by omega]
  rw [Geo.meet_in (rt_in (rtp_at hl (by omega))) (rt_in (rtp_at hl (by omega))) (rt_in (rtp_at hx (by omega))) (rt_in (rtp_at hx (by omega))), Geo.meet_in (rt_in (rtp_at hl (by omega))) (rt_in (rtp_at hl (by omega))) (rt_in (rtp_at hx (by omega))) (rt_in (rtp_at hx (by omega)))]
  exact meetG_left _ _ _ _ _ _ _ _
theorem mK_rev {l : List (Int × Int)} (hl : l.all rtP = true) {i j : Nat} (hi : i + 1 < l.length) (hj : j + 1 < l.length) : mK l.reverse i j = mK l (l.length - 2 - j) (l.length - 2 - i) := by
  show rcX l.reverse l.reverse i j = rcX l l (l.length - 2 - j) (l.length - 2 - i)
  have hr : l.reverse.all rtP = true := all_rev.trans hl
  have e : l.reverse.length = l.length := List.length_reverse
  rw [rcX_rev hl hr hi (by omega), ← rcX_swap hl hr (by omega) (by omega), rcX_rev hl hl hj (by omega)]
theorem simpleR_iff {l : List (Int × Int)} : simpleR l = true ↔ ∀ j, j + 1 < l.length → pt l j ≠ pt l (j + 1) ∧ ∀ i, i < j → mK l i j = wantP l i j := by
  unfold simpleR
  rw [Bool.not_eq_true', ← Bool.not_eq_true, anyTo_iff]
  constructor
  · intro h j hj
    refine ⟨fun e => h ⟨j, by omega, ?_⟩, fun i hi => Decidable.byContradiction fun e => h ⟨j, by omega, ?_⟩⟩
    · unfold badS2; rw [Bool.or_eq_true, decide_eq_true_iff]; exact .inl e
    · unfold badS2; rw [Bool.or_eq_true, anyTo_iff]; exact .inr ⟨i, hi, by unfold badM2; exact decide_eq_true e⟩
  · rintro h ⟨j, hj, hb⟩
    have h1 := h j (by omega)
    unfold badS2 at hb
    rw [Bool.or_eq_true, decide_eq_true_iff, anyTo_iff] at hb
    rcases hb with hb | ⟨i, hi, hb⟩
    · exact h1.1 hb
    · unfold badM2 at hb
      exact (of_decide_eq_true hb) (h1.2 i hi)
theorem simple_rev1 {l : List (Int × Int)} (hl : l.all rtP = true) (h : simpleR l = true) : simpleR l.reverse = true := by
  rw [simpleR_iff] at *
  intro j hj
  rw [List.length_reverse] at hj
  refine ⟨?_, fun i hi => ?_⟩
  · rw [pt_rev (show j < l.length by omega), pt_rev hj, show l.length - 1 - j = l.length - 2 - j + 1 by omega, show l.length - 1 - (j + 1) = l.length - 2 - j by omega]
    exact fun e => (h (l.length - 2 - j) (by omega)).1 e.symm
  · rw [mK_rev hl (by omega) hj, want_rev hj hi]
    exact (h (l.length - 2 - i) (by omega)).2 _ (by omega)
theorem simple_rev {l : List (Int × Int)} (hl : l.all rtP = true) : simpleR l.reverse = simpleR l := by
  rw [Bool.eq_iff_iff]
  refine ⟨fun h => ?_, simple_rev1 hl⟩
  have := simple_rev1 (all_rev.trans hl) h
  rw [List.reverse_reverse] at this
  exact this
theorem chk_rev {l : List (Int × Int)} (hl : l.all rtP = true) : chkP l.reverse (simpleP l.reverse) = chkP l (simpleP l) := by
  rw [chk_same, chk_same, simple_rev hl]
  unfold chkP
  rw [List.length_reverse, all_rev]
theorem endR_rev {l x : List (Int × Int)} (hl : l.all rtP = true) (hx : x.all rtP = true) {i j : Nat} (hi : i + 1 < l.length) (hj : j + 1 < x.length) : endR l.reverse x i j = endR l x (l.length - 2 - i) j := by
  have ep : ∀ p : Int × Int, (p = pt x 0 ∨ p = pt x (x.length - 1)) → bothP (pt l (l.length - 2 - i + 1)).1 (pt l (l.length - 2 - i + 1)).2 (pt l (l.length - 2 - i)).1 (pt l (l.length - 2 - i)).2 (pt x j).1 (pt x j).2 (pt x (j + 1)).1 (pt x (j + 1)).2 p = bothP (pt l (l.length - 2 - i)).1 (pt l (l.length - 2 - i)).2 (pt l (l.length - 2 - i + 1)).1 (pt l (l.length - 2 - i + 1)).2 (pt x j).1 (pt x j).2 (pt x (j + 1)).1 (pt x (j + 1)).2 p := by
    intro p hp
    have hq : rtP p = true := by rcases hp with rfl | rfl <;> exact rtp_at hx (by omega)
    unfold bothP
    rw [on_in (rt_in (rtp_at hl (by omega))) (rt_in (rtp_at hl (by omega))) (rt_in hq), on_in (rt_in (rtp_at hl (by omega))) (rt_in (rtp_at hl (by omega))) (rt_in hq)]
    congr 1
    unfold on
    refine decide_eq_decide.2 ?_
    rw [cr_swap, bx_swap]
    exact ⟨fun h => ⟨by omega, h.2⟩, fun h => ⟨by omega, h.2⟩⟩
  rw [Bool.eq_iff_iff, endR_iff, endR_iff, List.length_reverse, pt_rev (show 0 < l.length by omega), pt_rev (show l.length - 1 < l.length by omega), pt_rev (show i < l.length by omega), pt_rev hi, show l.length - 1 - (l.length - 1) = 0 by omega, Nat.sub_zero, show l.length - 1 - i = l.length - 2 - i + 1 by omega, show l.length - 1 - (i + 1) = l.length - 2 - i by omega]
  constructor
  · rintro ⟨p, h1, h2, h3⟩; exact ⟨p, h1.symm, h2, (ep p h2).symm.trans h3⟩
  · rintro ⟨p, h1, h2, h3⟩; exact ⟨p, h1.symm, h2, (ep p h2).trans h3⟩
theorem cross_rev1 {l x : List (Int × Int)} (h : rcrossP l x = true) : rcrossP l.reverse x = true := by
  rw [rcross_iff] at *
  obtain ⟨h1, h2, i, j, hi, hj, h3⟩ := h
  refine ⟨all_rev.trans h1, h2, l.length - 2 - i, j, by rw [List.length_reverse]; omega, hj, ?_⟩
  unfold rcI at *
  rw [rcX_rev h1 h2 (by omega) hj, endR_rev h1 h2 (by omega) hj, show l.length - 2 - (l.length - 2 - i) = i by omega]
  exact h3
theorem cross_rev (l x : List (Int × Int)) : crossP l.reverse x = crossP l x := by
  rw [cross_same, cross_same, Bool.eq_iff_iff]
  refine ⟨fun h => ?_, cross_rev1⟩
  have := cross_rev1 h
  rw [List.reverse_reverse] at this
  exact this
end Go.Proofs.YtoaldbjcpfkcjaaGreat
