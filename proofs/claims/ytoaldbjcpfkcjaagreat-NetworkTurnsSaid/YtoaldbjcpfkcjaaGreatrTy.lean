/- Turning, moving and reversing changes no crossing. -/
import Derived.Test.YtoaldbjcpfkcjaaGreatrTx
namespace Go.Proofs.YtoaldbjcpfkcjaaGreat
open Go.RowKit Go.Lib Geo

theorem mvP_small20 (q0 q1 q2 : Int) {p : Int × Int} (h : (0 ≤ p.1 ∧ p.1 ≤ 20) ∧ (0 ≤ p.2 ∧ p.2 ≤ 20)) : Tm ((q0.tmod 4) % 4).toNat (q1.tmod 10000) (q2.tmod 10000) p.1 p.2 (mvP q0 q1 q2 p).1 (mvP q0 q1 q2 p).2 ∧ rtP (mvP q0 q1 q2 p) = true ∧ ((q0.tmod 4) % 4).toNat ≤ 3 := by
  have hm : ((q0.tmod 4) % 4).toNat ≤ 3 := by omega
  have b1 := tmod_bd q1 10000 (by omega)
  have b2 := tmod_bd q2 10000 (by omega)
  unfold mvP
  generalize ((q0.tmod 4) % 4).toNat = m at *
  generalize q1.tmod 10000 = u at *
  generalize q2.tmod 10000 = v at *
  rw [rotN_rq hm (by omega) (by omega)]
  have b3 := rq_bd (B := 20) hm (x := p.1) (y := p.2) (by omega) (by omega)
  rw [w64 (by omega), w64 (by omega)]
  refine ⟨⟨rfl, rfl⟩, ?_, hm⟩
  unfold rtP
  rw [inl_iff]
  simp only
  omega
def In20 (l : List (Int × Int)) : Prop := ∀ p ∈ l, (0 ≤ p.1 ∧ p.1 ≤ 20) ∧ (0 ≤ p.2 ∧ p.2 ≤ 20)
theorem In20.rev {l : List (Int × Int)} (h : In20 l) : In20 l.reverse := fun p hp => h p (List.mem_reverse.1 hp)
theorem in20_rt {l : List (Int × Int)} (h : In20 l) : l.all rtP = true := List.all_eq_true.2 fun p hp => by
  have := h p hp
  unfold rtP
  rw [inl_iff]; omega
theorem mvd20 {l : List (Int × Int)} (h : In20 l) (q0 q1 q2 : Int) : Mvd ((q0.tmod 4) % 4).toNat (q1.tmod 10000) (q2.tmod 10000) l (l.map (mvP q0 q1 q2)) where
  hm := by omega
  len := by simp
  tm := fun k hk => by rw [pt_map _ hk]; exact (mvP_small20 q0 q1 q2 (h _ (List.mem_of_getElem? (at_pt hk)))).1
  r := in20_rt h
  r' := List.all_eq_true.2 fun p hp => by
    obtain ⟨p', h1, rfl⟩ := List.mem_map.1 hp
    exact (mvP_small20 q0 q1 q2 (h p' h1)).2.1
/-- Two lists have a common point. -/
def XX (l m : List (Int × Int)) : Prop := ∃ i j, i + 1 < l.length ∧ j + 1 < m.length ∧ rcX l m i j ≠ 0
theorem cross_XX {l m : List (Int × Int)} (hl : l.all rtP = true) (hm : m.all rtP = true) : anyTo (crK l m) (l.length - 1) = true ↔ XX l m := by
  rw [anyTo_iff]
  constructor
  · rintro ⟨i, hi, h⟩
    unfold crK at h
    rw [Bool.and_eq_true] at h
    obtain ⟨j, hj, h2⟩ := anyTo_iff.1 h.2
    unfold msK at h2
    have := of_decide_eq_true h2
    exact ⟨i, j, by omega, by omega, by unfold rcX; omega⟩
  · rintro ⟨i, j, hi, hj, h⟩
    refine ⟨i, by omega, ?_⟩
    unfold crK
    rw [Bool.and_eq_true]
    constructor
    · have hb := bnear_of_meet (rt_in (rtp_at hl (show i < l.length by omega))) (rt_in (rtp_at hl hi)) (rt_in (rtp_at hm (show j < m.length by omega))) (rt_in (rtp_at hm hj)) h
      exact near_of (l := [pt l i, pt l (i + 1)]) (m := m) (i := 0) (j := j) (by simp) hj hb
    · refine anyTo_iff.2 ⟨j, by omega, ?_⟩
      unfold msK
      refine decide_eq_true ?_
      have := (meet_bd (rt_in (rtp_at hl (show i < l.length by omega))) (rt_in (rtp_at hl hi)) (rt_in (rtp_at hm (show j < m.length by omega))) (rt_in (rtp_at hm hj))).1
      unfold rcX at h
      omega
theorem XX_swap {l m : List (Int × Int)} (hl : l.all rtP = true) (hm : m.all rtP = true) (h : XX l m) : XX m l := by
  obtain ⟨i, j, hi, hj, h⟩ := h
  exact ⟨j, i, hj, hi, by rw [rcX_swap hl hm hi hj]; exact h⟩
theorem XX_rev {l m : List (Int × Int)} (hl : l.all rtP = true) (hm : m.all rtP = true) (h : XX l m) : XX l.reverse m := by
  obtain ⟨i, j, hi, hj, h⟩ := h
  refine ⟨l.length - 2 - i, j, by rw [List.length_reverse]; omega, hj, ?_⟩
  rw [rcX_rev hl hm (by omega) hj, show l.length - 2 - (l.length - 2 - i) = i by omega]
  exact h
theorem XX_rev_iff {l m : List (Int × Int)} (hl : l.all rtP = true) (hm : m.all rtP = true) : XX l.reverse m ↔ XX l m :=
  ⟨fun h => by have := XX_rev (by rw [all_rev]; exact hl) hm h; rwa [List.reverse_reverse] at this, XX_rev hl hm⟩
theorem XX_mvd {m : Nat} {u v : Int} {l l' x x' : List (Int × Int)} (h : Mvd m u v l l') (g : Mvd m u v x x') : XX l' x' ↔ XX l x := by
  constructor
  · rintro ⟨i, j, hi, hj, e⟩
    rw [h.len] at hi; rw [g.len] at hj
    exact ⟨i, j, hi, hj, by rwa [meet_mvd h g hi hj] at e⟩
  · rintro ⟨i, j, hi, hj, e⟩
    exact ⟨i, j, by rw [h.len]; exact hi, by rw [g.len]; exact hj, by rw [meet_mvd h g hi hj]; exact e⟩
/-- A line in the other direction, if so, and turned and moved. -/
def rvl (r : Bool) (l : List (Int × Int)) : List (Int × Int) := if r = true then l.reverse else l
def tnl (q0 q1 q2 : Int) (r : Bool) (l : List (Int × Int)) : List (Int × Int) := (rvl r l).map (mvP q0 q1 q2)
def tnW (q0 q1 q2 : Int) (r : Bool) (a : Wy) : Wy := { a with ln := tnl q0 q1 q2 r a.ln }
theorem rvl_20 {l : List (Int × Int)} (h : In20 l) (r : Bool) : In20 (rvl r l) := by
  unfold rvl
  split
  · exact h.rev
  · exact h
theorem XX_rvl {l m : List (Int × Int)} (hl : l.all rtP = true) (hm : m.all rtP = true) (r : Bool) : XX (rvl r l) m ↔ XX l m := by
  unfold rvl
  split
  · exact XX_rev_iff hl hm
  · exact Iff.rfl
theorem XX_tn {l m : List (Int × Int)} (hl : In20 l) (hm : In20 m) (q0 q1 q2 : Int) (r s : Bool) : XX (tnl q0 q1 q2 s m) (tnl q0 q1 q2 r l) ↔ XX l m := by
  have a1 := mvd20 (rvl_20 hl r) q0 q1 q2
  have a2 := mvd20 (rvl_20 hm s) q0 q1 q2
  unfold tnl
  rw [XX_mvd a2 a1, XX_rvl (in20_rt hm) a1.r]
  have b : XX (rvl r l) m ↔ XX l m := XX_rvl (in20_rt hl) (in20_rt hm) r
  rw [← b]
  exact ⟨XX_swap (in20_rt hm) a1.r, XX_swap a1.r (in20_rt hm)⟩
theorem cross_tn {a b : Wy} (ha : In20 a.ln) (hb : In20 b.ln) (q0 q1 q2 : Int) (r s : Bool) : crossW (tnW q0 q1 q2 s b) (tnW q0 q1 q2 r a) = crossW a b := by
  have r1 := (mvd20 (rvl_20 ha r) q0 q1 q2).r'
  have r2 := (mvd20 (rvl_20 hb s) q0 q1 q2).r'
  unfold crossW
  rw [show decide ((tnW q0 q1 q2 s b).lv ≠ (tnW q0 q1 q2 r a).lv) = decide (a.lv ≠ b.lv) by rw [decide_eq_decide]; exact ne_comm]
  rw [show anyTo (crK (tnW q0 q1 q2 s b).ln (tnW q0 q1 q2 r a).ln) ((tnW q0 q1 q2 s b).ln.length - 1) = anyTo (crK a.ln b.ln) (a.ln.length - 1) by
    rw [Bool.eq_iff_iff, cross_XX (in20_rt ha) (in20_rt hb)]
    exact (cross_XX r2 r1).trans (XX_tn ha hb q0 q1 q2 r s)]

end Go.Proofs.YtoaldbjcpfkcjaaGreat
