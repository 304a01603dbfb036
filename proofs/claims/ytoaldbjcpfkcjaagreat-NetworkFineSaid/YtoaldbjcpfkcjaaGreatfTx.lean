/- x -/
import Derived.Test.YtoaldbjcpfkcjaaGreatfTa
namespace Go.Proofs.YtoaldbjcpfkcjaaGreat
open Go.RowKit Go.Lib Geo

theorem end_same {l m : List (Int × Int)} {i j : Nat} (hi : i + 1 < l.length) (hj : j + 1 < m.length) : (comP l m).any (bothP (pt l i).1 (pt l i).2 (pt l (i + 1)).1 (pt l (i + 1)).2 (pt m j).1 (pt m j).2 (pt m (j + 1)).1 (pt m (j + 1)).2) = endR l m i j := by
 unfold comP endsP endR
 rw [if_neg (by omega), if_neg (by omega), List.any_filter]
 simp only [List.any_cons, List.any_nil, anyTo, endQ, endE, if_true, Bool.or_false, Bool.false_or, if_neg (show ¬ (1 = 0) by decide)]
 rw [Bool.and_comm (eqP (pt l 0) (pt m 0) || _), Bool.and_comm (eqP (pt l (l.length - 1)) (pt m 0) || _)]
theorem cross_in {l m : List (Int × Int)} {i j : Nat} (hl : l.all rtP = true) (hm : m.all rtP = true) (hi : i + 1 < l.length) (hj : j + 1 < m.length) : crI l m (comP l m) i j = rcI l m i j := by
 unfold crI rcI mbP
 rw [lmeet_pt (rtp_at hl (by omega)) (rtp_at hl (by omega)) (rtp_at hm (by omega)) (rtp_at hm (by omega)), end_same hi hj]
 have hb := meet_bd (rt_in (rtp_at hl (show i < l.length by omega))) (rt_in (rtp_at hl hi)) (rt_in (rtp_at hm (show j < m.length by omega))) (rt_in (rtp_at hm hj))
 unfold rcX
 generalize meetOf (pt l i).1 (pt l i).2 (pt l (i + 1)).1 (pt l (i + 1)).2 (pt m j).1 (pt m j).2 (pt m (j + 1)).1 (pt m (j + 1)).2 = X at *
 rcases (show X = 0 ∨ X = 1 ∨ X = 2 by omega) with rfl | rfl | rfl <;> simp
theorem cross_same (l m : List (Int × Int)) : crossP l m = rcrossP l m := by
 unfold crossP rcrossP
 cases hl : l.all rtP
 ·rfl
 ·cases hm : m.all rtP
  ·rfl
  ·have e : anyTo (crO l m (comP l m)) (l.length - 1) = anyTo (rcO l m) (l.length - 1) := anyTo_congr fun i hi => anyTo_congr fun j hj => cross_in hl hm (by omega) (by omega)
   rw [e]
   cases hn : nearP l m
   ·simp only [Bool.true_and, Bool.false_and]
    refine (Decidable.byContradiction fun h => ?_)
    have h' : anyTo (rcO l m) (l.length - 1) = true := by cases hx : anyTo (rcO l m) (l.length - 1); exact absurd hx.symm h; rfl
    obtain ⟨i, hi, h2⟩ := anyTo_iff.1 h'
    obtain ⟨j, hj, h3⟩ := anyTo_iff.1 h2
    have hx : rcX l m i j ≠ 0 := by
     intro h0
     unfold rcI at h3
     rw [h0] at h3
     simp at h3
    have := near_of (l := l) (m := m) (i := i) (j := j) (by omega) (by omega) (bnear_of_meet (rt_in (rtp_at hl (by omega))) (rt_in (rtp_at hl (by omega))) (rt_in (rtp_at hm (by omega))) (rt_in (rtp_at hm (by omega))) hx)
    rw [hn] at this
    cases this
   ·rfl

theorem pt_eq {p q : Int × Int} : p = q ↔ (p.1 = q.1 ∧ p.2 = q.2) := by cases p; cases q; simp
theorem rcX_swap {l x : List (Int × Int)} (hl : l.all rtP = true) (hx : x.all rtP = true) {i j : Nat} (hi : i + 1 < l.length) (hj : j + 1 < x.length) : rcX x l j i = rcX l x i j := by
 unfold rcX
 rw [Geo.meet_in (rt_in (rtp_at hx (by omega))) (rt_in (rtp_at hx (by omega))) (rt_in (rtp_at hl (by omega))) (rt_in (rtp_at hl (by omega))), Geo.meet_in (rt_in (rtp_at hl (by omega))) (rt_in (rtp_at hl (by omega))) (rt_in (rtp_at hx (by omega))) (rt_in (rtp_at hx (by omega)))]
 exact meetG_swap _ _ _ _ _ _ _ _
theorem endR_iff {l x : List (Int × Int)} {i j : Nat} : endR l x i j = true ↔ ∃ p, (p = pt l 0 ∨ p = pt l (l.length - 1)) ∧ (p = pt x 0 ∨ p = pt x (x.length - 1)) ∧ bothP (pt l i).1 (pt l i).2 (pt l (i + 1)).1 (pt l (i + 1)).2 (pt x j).1 (pt x j).2 (pt x (j + 1)).1 (pt x (j + 1)).2 p = true := by
 unfold endR
 rw [anyTo_iff]
 constructor
 ·rintro ⟨n, hn, h⟩
  unfold endQ eqP at h
  rw [Bool.and_eq_true, Bool.or_eq_true, decide_eq_true_iff, decide_eq_true_iff] at h
  refine ⟨endE l n, ?_, h.2, h.1⟩
  unfold endE
  split
  ·exact .inl rfl
  ·exact .inr rfl
 ·rintro ⟨p, h1, h2, h3⟩
  have h4 : endQ (pt l i).1 (pt l i).2 (pt l (i + 1)).1 (pt l (i + 1)).2 (pt x j).1 (pt x j).2 (pt x (j + 1)).1 (pt x (j + 1)).2 (pt x 0) (pt x (x.length - 1)) p = true := by
   unfold endQ eqP
   rw [Bool.and_eq_true, Bool.or_eq_true, decide_eq_true_iff, decide_eq_true_iff]
   exact ⟨h3, h2⟩
  rcases h1 with rfl | rfl
  ·exact ⟨0, by omega, h4⟩
  ·exact ⟨1, by omega, h4⟩
theorem both_comm (a0 a1 b0 b1 c0 c1 d0 d1 : Int) (p : Int × Int) : bothP c0 c1 d0 d1 a0 a1 b0 b1 p = bothP a0 a1 b0 b1 c0 c1 d0 d1 p := by unfold bothP; rw [Bool.and_comm]
theorem endR_swap {l x : List (Int × Int)} {i j : Nat} : endR x l j i = endR l x i j := by
 rw [Bool.eq_iff_iff, endR_iff, endR_iff]
 constructor <;> rintro ⟨p, h1, h2, h3⟩ <;> exact ⟨p, h2, h1, by rw [both_comm]; exact h3⟩
theorem rcI_swap {l x : List (Int × Int)} (hl : l.all rtP = true) (hx : x.all rtP = true) {i j : Nat} (hi : i + 1 < l.length) (hj : j + 1 < x.length) : rcI x l j i = rcI l x i j := by
 unfold rcI; rw [rcX_swap hl hx hi hj, endR_swap]
theorem rcross_iff {l x : List (Int × Int)} : rcrossP l x = true ↔ l.all rtP = true ∧ x.all rtP = true ∧ ∃ i j, i + 1 < l.length ∧ j + 1 < x.length ∧ rcI l x i j = true := by
 unfold rcrossP
 rw [Bool.and_eq_true, Bool.and_eq_true, anyTo_iff]
 constructor
 ·rintro ⟨h1, h2, i, hi, h3⟩
  obtain ⟨j, hj, h4⟩ := anyTo_iff.1 h3
  exact ⟨h1, h2, i, j, by omega, by omega, h4⟩
 ·rintro ⟨h1, h2, i, j, hi, hj, h4⟩
  exact ⟨h1, h2, i, by omega, anyTo_iff.2 ⟨j, by omega, h4⟩⟩
theorem cross_swap (l x : List (Int × Int)) : crossP x l = crossP l x := by
 rw [cross_same, cross_same, Bool.eq_iff_iff, rcross_iff, rcross_iff]
 constructor
 ·rintro ⟨h1, h2, i, j, hi, hj, h⟩; exact ⟨h2, h1, j, i, hj, hi, (rcI_swap h1 h2 hi hj).trans h⟩
 ·rintro ⟨h1, h2, i, j, hi, hj, h⟩; exact ⟨h2, h1, j, i, hj, hi, (rcI_swap h1 h2 hi hj).trans h⟩

theorem simpleR_iff {l : List (Int × Int)} : simpleR l = true ↔ ∀ j, j + 1 < l.length → pt l j ≠ pt l (j + 1) ∧ ∀ i, i < j → mK l i j = wantP l i j := by
 unfold simpleR
 rw [Bool.not_eq_true', ← Bool.not_eq_true, anyTo_iff]
 constructor
 ·intro h j hj
  refine ⟨fun e => h ⟨j, by omega, ?_⟩, fun i hi => Decidable.byContradiction fun e => h ⟨j, by omega, ?_⟩⟩
  ·unfold badS2; rw [Bool.or_eq_true, decide_eq_true_iff]; exact .inl e
  ·unfold badS2; rw [Bool.or_eq_true, anyTo_iff]; exact .inr ⟨i, hi, by unfold badM2; exact decide_eq_true e⟩
 ·rintro h ⟨j, hj, hb⟩
  have h1 := h j (by omega)
  unfold badS2 at hb
  rw [Bool.or_eq_true, decide_eq_true_iff, anyTo_iff] at hb
  rcases hb with hb | ⟨i, hi, hb⟩
  ·exact h1.1 hb
  ·unfold badM2 at hb
   exact (of_decide_eq_true hb) (h1.2 i hi)
end Go.Proofs.YtoaldbjcpfkcjaaGreat
