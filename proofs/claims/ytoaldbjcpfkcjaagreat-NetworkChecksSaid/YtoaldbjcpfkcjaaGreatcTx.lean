/- x -/
import Derived.Test.YtoaldbjcpfkcjaaGreatcTa
namespace Go.Proofs.YtoaldbjcpfkcjaaGreat
open Go.RowKit Go.Lib Geo

theorem end_same {l m : List (Int × Int)} {i j : Nat} (hi : i + 1 < l.length) (hj : j + 1 < m.length) : (comP l m).any (bothP (pt l i).1 (pt l i).2 (pt l (i + 1)).1 (pt l (i + 1)).2 (pt m j).1 (pt m j).2 (pt m (j + 1)).1 (pt m (j + 1)).2) = endR l m i j := by
 unfold comP endsP endR
 rw [if_neg (by omega), if_neg (by omega), List.any_filter]
 simp only [List.any_cons, List.any_nil, anyTo, endQ, endE, if_true, Bool.or_false, Bool.false_or, if_neg (show ¬ (1 = 0) by decide)]
 rw [Bool.and_comm (eqP (pt l 0) (pt m 0) || _), Bool.and_comm (eqP (pt l (l.length - 1)) (pt m 0) || _)]
theorem cross_in {l m : List (Int × Int)} {i j : Nat} (hl : l.all rtP = true) (hm : m.all rtP = true) (hi : i + 1 < l.length) (hj : j + 1 < m.length) : crI l m (comP l m) i j = rcI l m i j := by
 unfold crI rcI mbP
 rw [lmeet_pt (rtp_at hl (by omega)) (rtp_at hl (by omega)) (rtp_at hm (by omega)) (rtp_at hm (by omega)), end_same hi hj]
 have hb := meet_bd (rt_in (rtp_at hl (show i < l.length by omega))) (rt_in (rtp_at hl hi)) (rt_in (rtp_at hm (show j < m.length by omega))) (rt_in (rtp_at hm hj))
 unfold rcX
 generalize meetOf (pt l i).1 (pt l i).2 (pt l (i + 1)).1 (pt l (i + 1)).2 (pt m j).1 (pt m j).2 (pt m (j + 1)).1 (pt m (j + 1)).2 = X at *
 rcases (show X = 0 ∨ X = 1 ∨ X = 2 by omega) with rfl | rfl | rfl <;> simp
theorem cross_same (l m : List (Int × Int)) : crossP l m = rcrossP l m := by
 unfold crossP rcrossP
 cases hl : l.all rtP
 ·rfl
 ·cases hm : m.all rtP
  ·rfl
  ·have e : anyTo (crO l m (comP l m)) (l.length - 1) = anyTo (rcO l m) (l.length - 1) := anyTo_congr fun i hi => anyTo_congr fun j hj => cross_in hl hm (by omega) (by omega)
   rw [e]
   cases hn : nearP l m
   ·simp only [Bool.true_and, Bool.false_and]
    refine (Decidable.byContradiction fun h => ?_)
    have h' : anyTo (rcO l m) (l.length - 1) = true := by cases hx : anyTo (rcO l m) (l.length - 1); exact absurd hx.symm h; rfl
    obtain ⟨i, hi, h2⟩ := anyTo_iff.1 h'
    obtain ⟨j, hj, h3⟩ := anyTo_iff.1 h2
    have hx : rcX l m i j ≠ 0 := by
     intro h0
     unfold rcI at h3
     rw [h0] at h3
     simp at h3
    have := near_of (l := l) (m := m) (i := i) (j := j) (by omega) (by omega) (bnear_of_meet (rt_in (rtp_at hl (by omega))) (rt_in (rtp_at hl (by omega))) (rt_in (rtp_at hm (by omega))) (rt_in (rtp_at hm (by omega))) hx)
    rw [hn] at this
    cases this
   ·rfl

end Go.Proofs.YtoaldbjcpfkcjaaGreat
