/- Joined. -/
import Derived.Test.YtoaldbjcpfkcjaaGreatcKb
namespace Go.Proofs.YtoaldbjcpfkcjaaGreat
open Go.RowKit Go.Lib

theorem RowP.form {w : World} {u : Value} {ps : List (Int × Int)} (h : RowP w u ps) : ∃ a n c, u = .slice a n c ∧ ps.length = n ∧ RowP w (.slice a n c) ps := by
 have h0 := h
 obtain ⟨a, c, rfl, -⟩ := h0
 exact ⟨a, _, c, rfl, rfl, h⟩
/-- Whether two stops are one. -/
def keq (a b c d e f : Int) : Bool := decide (((a, b, c) : Key) = (d, e, f))
theorem keq_is (a b c d e f : Int) : keq a b c d e f = (decide (a = d) && (decide (b = e) && decide (c = f))) := by
 unfold keq; rw [Bool.eq_iff_iff]; simp [Prod.ext_iff]
theorem run_keyeq (p0 p1 p2 r0 r1 r2 : Int) (w : World) : Sem.run Tryz.prog (binOp .eql 39 (.agg #[.int .i64 p0, .int .i64 p1, .int .i64 p2]) (.agg #[.int .i64 r0, .int .i64 r1, .int .i64 r2])) w = .ok (.bool (keq p0 p1 p2 r0 r1 r2)) w := by
 rw [keq_is]
 go_simp
 by_cases h0 : p0 = r0 <;> by_cases h1 : p1 = r1 <;> by_cases h2 : p2 = r2 <;> simp [h0, h1, h2]
theorem run_keyne (p0 p1 p2 r0 r1 r2 : Int) (w : World) : Sem.run Tryz.prog (binOp .neq 39 (.agg #[.int .i64 p0, .int .i64 p1, .int .i64 p2]) (.agg #[.int .i64 r0, .int .i64 r1, .int .i64 r2])) w = .ok (.bool (!keq p0 p1 p2 r0 r1 r2)) w := by
 rw [keq_is]
 go_simp
 by_cases h0 : p0 = r0 <;> by_cases h1 : p1 = r1 <;> by_cases h2 : p2 = r2 <;> simp [h0, h1, h2]
attribute [local go_sem ↓] run_keyeq run_keyne
set_option maxRecDepth 100000 in
set_option maxHeartbeats 2000000 in
theorem joined_any (x y : Wy) (u v : Value) (w : World) (hu : RowP w u x.ln) (hv : RowP w v y.ln) :
  Calls Tryz.prog 20 #[wv x u, wv y v] w fun e w' => e = .returned (.bool (joinP x y)) ∧ Below w.heap.size w w' := by
 obtain ⟨aid, aln, alv, acl, anm, ast, awt, ads⟩ := x
 obtain ⟨bid, bln, blv, bcl, bnm, bst, bwt, bds⟩ := y
 obtain ⟨aa, an, ac, rfl, han, hu⟩ := hu.form
 obtain ⟨ba, bn, bc, rfl, hbn, hv⟩ := hv.form
 simp only at hu hv han hbn
 have HA := Lib.hid hu
 have HB := Lib.hid hv
 by_cases ga : 0 < an
 ·have GA := Lib.hid (show goes ⟨aid, aln, alv, acl, anm, ast, awt, ads⟩ = true from by unfold goes; simpa [han] using ga)
  by_cases gb : 0 < bn
  ·have GB := Lib.hid (show goes ⟨bid, bln, blv, bcl, bnm, bst, bwt, bds⟩ = true from by unfold goes; simpa [hbn] using gb)
   obtain ⟨⟨p0, p1, p2⟩, hp⟩ : ∃ k, fstK ⟨aid, aln, alv, acl, anm, ast, awt, ads⟩ = k := ⟨_, rfl⟩
   obtain ⟨⟨q0, q1, q2⟩, hq⟩ : ∃ k, lstK ⟨aid, aln, alv, acl, anm, ast, awt, ads⟩ = k := ⟨_, rfl⟩
   obtain ⟨⟨r0, r1, r2⟩, hr⟩ : ∃ k, fstK ⟨bid, bln, blv, bcl, bnm, bst, bwt, bds⟩ = k := ⟨_, rfl⟩
   obtain ⟨⟨s0, s1, s2⟩, hs⟩ : ∃ k, lstK ⟨bid, bln, blv, bcl, bnm, bst, bwt, bds⟩ = k := ⟨_, rfl⟩
   have KA := Lib.hid hp
   have KB := Lib.hid hq
   have KC := Lib.hid hr
   have KD := Lib.hid hs
   have za : ((an : Int) == 0) = false := by rw [beq_eq_false_iff_ne]; omega
   have zb : ((bn : Int) == 0) = false := by rw [beq_eq_false_iff_ne]; omega
   have HJ := Lib.hid (show joinP ⟨aid, aln, alv, acl, anm, ast, awt, ads⟩ ⟨bid, bln, blv, bcl, bnm, bst, bwt, bds⟩ = (keq p0 p1 p2 r0 r1 r2 || keq p0 p1 p2 s0 s1 s2 || keq q0 q1 q2 r0 r1 r2 || keq q0 q1 q2 s0 s1 s2) from by unfold joinP; rw [GA.out, GB.out, hp, hq, hr, hs]; rfl)
   clear hp hq hr hs hu hv han hbn ga gb
   rw [HJ.out]
   clear HJ
   unfold wv
   simp only
   have C0 := ((Has.nil (Below.refl w.heap.size w)).push [.int .i64 aid, .slice aa an ac, .int .i64 alv, .string acl, .string anm, .bool ast, .int .i64 awt, .int .i64 ads] 44).push [.int .i64 bid, .slice ba bn bc, .int .i64 blv, .string bcl, .string bnm, .bool bst, .int .i64 bwt, .int .i64 bds] 44
   simp only [size_alloc] at C0
   go_enter Tryz.func20, Tryz.ntmps20
   go_wp2_with fail
   change Has w [(w.heap.size + 1, [.int .i64 bid, .slice ba bn bc, .int .i64 blv, .string bcl, .string bnm, .bool bst, .int .i64 bwt, .int .i64 bds]), (w.heap.size, [.int .i64 aid, .slice aa an ac, .int .i64 alv, .string acl, .string anm, .bool ast, .int .i64 awt, .int .i64 ads])] ((w.alloc (.cells #[.int .i64 aid, .slice aa an ac, .int .i64 alv, .string acl, .string anm, .bool ast, .int .i64 awt, .int .i64 ads] 44)).alloc (.cells #[.int .i64 bid, .slice ba bn bc, .int .i64 blv, .string bcl, .string bnm, .bool bst, .int .i64 bwt, .int .i64 bds] 44)) at C0
   generalize ((w.alloc (.cells #[.int .i64 aid, .slice aa an ac, .int .i64 alv, .string acl, .string anm, .bool ast, .int .i64 awt, .int .i64 ads] 44)).alloc (.cells #[.int .i64 bid, .slice ba bn bc, .int .i64 blv, .string bcl, .string bnm, .bool bst, .int .i64 bwt, .int .i64 bds] 44)) = w0 at *
   have k0 := C0.tail.fact (.head _) (i := 0) rfl
   have l0 := C0.fact (.head _) (i := 0) rfl
   have k1 := C0.tail.fact (.head _) (i := 1) rfl
   have l1 := C0.fact (.head _) (i := 1) rfl
   have k2 := C0.tail.fact (.head _) (i := 2) rfl
   have l2 := C0.fact (.head _) (i := 2) rfl
   have k3 := C0.tail.fact (.head _) (i := 3) rfl
   have l3 := C0.fact (.head _) (i := 3) rfl
   have k4 := C0.tail.fact (.head _) (i := 4) rfl
   have l4 := C0.fact (.head _) (i := 4) rfl
   have k5 := C0.tail.fact (.head _) (i := 5) rfl
   have l5 := C0.fact (.head _) (i := 5) rfl
   have k6 := C0.tail.fact (.head _) (i := 6) rfl
   have l6 := C0.fact (.head _) (i := 6) rfl
   have k7 := C0.tail.fact (.head _) (i := 7) rfl
   have l7 := C0.fact (.head _) (i := 7) rfl
   go_wp2_with fail
   refine (Has.call C0 (stopping_is ⟨aid, aln, alv, acl, anm, ast, awt, ads⟩ (.slice aa an ac) true GA.out _ (HA.out.later C0.low))).mono ?_
   rintro e w1 ⟨rfl, C1⟩
   clear k0 l0 k1 l1 k2 l2 k3 l3 k4 l4 k5 l5 k6 l6 k7 l7
   clear C0
   have k0 := C1.tail.fact (.head _) (i := 0) rfl
   have l0 := C1.fact (.head _) (i := 0) rfl
   have k1 := C1.tail.fact (.head _) (i := 1) rfl
   have l1 := C1.fact (.head _) (i := 1) rfl
   have k2 := C1.tail.fact (.head _) (i := 2) rfl
   have l2 := C1.fact (.head _) (i := 2) rfl
   have k3 := C1.tail.fact (.head _) (i := 3) rfl
   have l3 := C1.fact (.head _) (i := 3) rfl
   have k4 := C1.tail.fact (.head _) (i := 4) rfl
   have l4 := C1.fact (.head _) (i := 4) rfl
   have k5 := C1.tail.fact (.head _) (i := 5) rfl
   have l5 := C1.fact (.head _) (i := 5) rfl
   have k6 := C1.tail.fact (.head _) (i := 6) rfl
   have l6 := C1.fact (.head _) (i := 6) rfl
   have k7 := C1.tail.fact (.head _) (i := 7) rfl
   have l7 := C1.fact (.head _) (i := 7) rfl
   go_wp2_with fail
   refine (Has.call C1 (stopping_is ⟨bid, bln, blv, bcl, bnm, bst, bwt, bds⟩ (.slice ba bn bc) true GB.out _ (HB.out.later C1.low))).mono ?_
   rintro e w2 ⟨rfl, C2⟩
   clear k0 l0 k1 l1 k2 l2 k3 l3 k4 l4 k5 l5 k6 l6 k7 l7
   clear C1
   have k0 := C2.tail.fact (.head _) (i := 0) rfl
   have l0 := C2.fact (.head _) (i := 0) rfl
   have k1 := C2.tail.fact (.head _) (i := 1) rfl
   have l1 := C2.fact (.head _) (i := 1) rfl
   have k2 := C2.tail.fact (.head _) (i := 2) rfl
   have l2 := C2.fact (.head _) (i := 2) rfl
   have k3 := C2.tail.fact (.head _) (i := 3) rfl
   have l3 := C2.fact (.head _) (i := 3) rfl
   have k4 := C2.tail.fact (.head _) (i := 4) rfl
   have l4 := C2.fact (.head _) (i := 4) rfl
   have k5 := C2.tail.fact (.head _) (i := 5) rfl
   have l5 := C2.fact (.head _) (i := 5) rfl
   have k6 := C2.tail.fact (.head _) (i := 6) rfl
   have l6 := C2.fact (.head _) (i := 6) rfl
   have k7 := C2.tail.fact (.head _) (i := 7) rfl
   have l7 := C2.fact (.head _) (i := 7) rfl
   go_wp2_with fail
   refine (Has.call C2 (stops_at ⟨aid, aln, alv, acl, anm, ast, awt, ads⟩ (.slice aa an ac) p0 p1 p2 q0 q1 q2 KA.out KB.out _ (HA.out.later C2.low))).mono ?_
   rintro e w3 ⟨rfl, C3⟩
   clear k0 l0 k1 l1 k2 l2 k3 l3 k4 l4 k5 l5 k6 l6 k7 l7
   clear C2
   go_upto_region 4 with fail
   have C4 := (C3.push [.int .i64 p0, .int .i64 p1, .int .i64 p2] 39).push [.int .i64 q0, .int .i64 q1, .int .i64 q2] 39
   simp only [size_alloc] at C4
   change Has w _ ((w3.alloc (.cells #[.int .i64 p0, .int .i64 p1, .int .i64 p2] 39)).alloc (.cells #[.int .i64 q0, .int .i64 q1, .int .i64 q2] 39)) at C4
   generalize ((w3.alloc (.cells #[.int .i64 p0, .int .i64 p1, .int .i64 p2] 39)).alloc (.cells #[.int .i64 q0, .int .i64 q1, .int .i64 q2] 39)) = w4 at *
   generalize w3.heap.size + 1 = S2 at *
   generalize w3.heap.size = S1 at *
   clear C3
   have k0 := C4.tail.tail.tail.fact (.head _) (i := 0) rfl
   have l0 := C4.tail.tail.fact (.head _) (i := 0) rfl
   have k1 := C4.tail.tail.tail.fact (.head _) (i := 1) rfl
   have l1 := C4.tail.tail.fact (.head _) (i := 1) rfl
   have k2 := C4.tail.tail.tail.fact (.head _) (i := 2) rfl
   have l2 := C4.tail.tail.fact (.head _) (i := 2) rfl
   have k3 := C4.tail.tail.tail.fact (.head _) (i := 3) rfl
   have l3 := C4.tail.tail.fact (.head _) (i := 3) rfl
   have k4 := C4.tail.tail.tail.fact (.head _) (i := 4) rfl
   have l4 := C4.tail.tail.fact (.head _) (i := 4) rfl
   have k5 := C4.tail.tail.tail.fact (.head _) (i := 5) rfl
   have l5 := C4.tail.tail.fact (.head _) (i := 5) rfl
   have k6 := C4.tail.tail.tail.fact (.head _) (i := 6) rfl
   have l6 := C4.tail.tail.fact (.head _) (i := 6) rfl
   have k7 := C4.tail.tail.tail.fact (.head _) (i := 7) rfl
   have l7 := C4.tail.tail.fact (.head _) (i := 7) rfl
   go_wp2_with fail
   refine (Has.call C4 (stops_at ⟨bid, bln, blv, bcl, bnm, bst, bwt, bds⟩ (.slice ba bn bc) r0 r1 r2 s0 s1 s2 KC.out KD.out _ (HB.out.later C4.low))).mono ?_
   rintro e w5 ⟨rfl, C5⟩
   clear k0 l0 k1 l1 k2 l2 k3 l3 k4 l4 k5 l5 k6 l6 k7 l7
   clear C4
   go_upto_region 5 with fail
   have C6 := (C5.push [.int .i64 r0, .int .i64 r1, .int .i64 r2] 39).push [.int .i64 s0, .int .i64 s1, .int .i64 s2] 39
   simp only [size_alloc] at C6
   change Has w _ ((w5.alloc (.cells #[.int .i64 r0, .int .i64 r1, .int .i64 r2] 39)).alloc (.cells #[.int .i64 s0, .int .i64 s1, .int .i64 s2] 39)) at C6
   generalize ((w5.alloc (.cells #[.int .i64 r0, .int .i64 r1, .int .i64 r2] 39)).alloc (.cells #[.int .i64 s0, .int .i64 s1, .int .i64 s2] 39)) = w6 at *
   generalize w5.heap.size + 1 = S4 at *
   generalize w5.heap.size = S3 at *
   clear C5
   have mm0 := C6.fact (.head _) (i := 0) rfl
   have mm1 := C6.fact (.head _) (i := 1) rfl
   have mm2 := C6.fact (.head _) (i := 2) rfl
   have nn0 := C6.tail.fact (.head _) (i := 0) rfl
   have nn1 := C6.tail.fact (.head _) (i := 1) rfl
   have nn2 := C6.tail.fact (.head _) (i := 2) rfl
   have oo0 := C6.tail.tail.fact (.head _) (i := 0) rfl
   have oo1 := C6.tail.tail.fact (.head _) (i := 1) rfl
   have oo2 := C6.tail.tail.fact (.head _) (i := 2) rfl
   have pp0 := C6.tail.tail.tail.fact (.head _) (i := 0) rfl
   have pp1 := C6.tail.tail.tail.fact (.head _) (i := 1) rfl
   have pp2 := C6.tail.tail.tail.fact (.head _) (i := 2) rfl
   clear HA HB GA GB KA KB KC KD
   cases z0 : keq p0 p1 p2 r0 r1 r2
   ·try simp only [Bool.false_or, Bool.or_false]
    cases z1 : keq p0 p1 p2 s0 s1 s2
    ·try simp only [Bool.false_or, Bool.or_false]
     cases z2 : keq q0 q1 q2 r0 r1 r2
     ·try simp only [Bool.false_or, Bool.or_false]
      cases z3 : keq q0 q1 q2 s0 s1 s2
      ·try simp only [Bool.false_or, Bool.or_false]
       go_wp2_with fail
       go_ret
       exact ⟨rfl, C6.low⟩
      ·try simp only [Bool.true_or, Bool.or_true]
       go_wp2_with fail
       go_ret
       exact ⟨rfl, C6.low⟩
     ·try simp only [Bool.true_or, Bool.or_true]
      go_wp2_with fail
      go_ret
      exact ⟨rfl, C6.low⟩
    ·try simp only [Bool.true_or, Bool.or_true]
     go_wp2_with fail
     go_ret
     exact ⟨rfl, C6.low⟩
   ·try simp only [Bool.true_or, Bool.or_true]
    go_wp2_with fail
    go_ret
    exact ⟨rfl, C6.low⟩
  ·have zb : ((bn : Int) == 0) = true := by rw [beq_iff_eq]; omega
   have GB := Lib.hid (show goes ⟨bid, bln, blv, bcl, bnm, bst, bwt, bds⟩ = false from by unfold goes; simp only [hbn]; exact decide_eq_false gb)
   have za : ((an : Int) == 0) = false := by rw [beq_eq_false_iff_ne]; omega
   have hj : joinP ⟨aid, aln, alv, acl, anm, ast, awt, ads⟩ ⟨bid, bln, blv, bcl, bnm, bst, bwt, bds⟩ = false := by unfold joinP; rw [GB.out, Bool.and_false, Bool.false_and]
   rw [hj]
   clear hj hu hv han hbn ga gb
   unfold wv
   simp only
   have C0 := ((Has.nil (Below.refl w.heap.size w)).push [.int .i64 aid, .slice aa an ac, .int .i64 alv, .string acl, .string anm, .bool ast, .int .i64 awt, .int .i64 ads] 44).push [.int .i64 bid, .slice ba bn bc, .int .i64 blv, .string bcl, .string bnm, .bool bst, .int .i64 bwt, .int .i64 bds] 44
   simp only [size_alloc] at C0
   go_enter Tryz.func20, Tryz.ntmps20
   go_wp2_with fail
   change Has w [(w.heap.size + 1, [.int .i64 bid, .slice ba bn bc, .int .i64 blv, .string bcl, .string bnm, .bool bst, .int .i64 bwt, .int .i64 bds]), (w.heap.size, [.int .i64 aid, .slice aa an ac, .int .i64 alv, .string acl, .string anm, .bool ast, .int .i64 awt, .int .i64 ads])] ((w.alloc (.cells #[.int .i64 aid, .slice aa an ac, .int .i64 alv, .string acl, .string anm, .bool ast, .int .i64 awt, .int .i64 ads] 44)).alloc (.cells #[.int .i64 bid, .slice ba bn bc, .int .i64 blv, .string bcl, .string bnm, .bool bst, .int .i64 bwt, .int .i64 bds] 44)) at C0
   generalize ((w.alloc (.cells #[.int .i64 aid, .slice aa an ac, .int .i64 alv, .string acl, .string anm, .bool ast, .int .i64 awt, .int .i64 ads] 44)).alloc (.cells #[.int .i64 bid, .slice ba bn bc, .int .i64 blv, .string bcl, .string bnm, .bool bst, .int .i64 bwt, .int .i64 bds] 44)) = w0 at *
   have k0 := C0.tail.fact (.head _) (i := 0) rfl
   have l0 := C0.fact (.head _) (i := 0) rfl
   have k1 := C0.tail.fact (.head _) (i := 1) rfl
   have l1 := C0.fact (.head _) (i := 1) rfl
   have k2 := C0.tail.fact (.head _) (i := 2) rfl
   have l2 := C0.fact (.head _) (i := 2) rfl
   have k3 := C0.tail.fact (.head _) (i := 3) rfl
   have l3 := C0.fact (.head _) (i := 3) rfl
   have k4 := C0.tail.fact (.head _) (i := 4) rfl
   have l4 := C0.fact (.head _) (i := 4) rfl
   have k5 := C0.tail.fact (.head _) (i := 5) rfl
   have l5 := C0.fact (.head _) (i := 5) rfl
   have k6 := C0.tail.fact (.head _) (i := 6) rfl
   have l6 := C0.fact (.head _) (i := 6) rfl
   have k7 := C0.tail.fact (.head _) (i := 7) rfl
   have l7 := C0.fact (.head _) (i := 7) rfl
   go_wp2_with fail
   refine (Has.call C0 (stopping_is ⟨aid, aln, alv, acl, anm, ast, awt, ads⟩ (.slice aa an ac) true GA.out _ (HA.out.later C0.low))).mono ?_
   rintro e w1 ⟨rfl, C1⟩
   clear k0 l0 k1 l1 k2 l2 k3 l3 k4 l4 k5 l5 k6 l6 k7 l7
   clear C0
   have k0 := C1.tail.fact (.head _) (i := 0) rfl
   have l0 := C1.fact (.head _) (i := 0) rfl
   have k1 := C1.tail.fact (.head _) (i := 1) rfl
   have l1 := C1.fact (.head _) (i := 1) rfl
   have k2 := C1.tail.fact (.head _) (i := 2) rfl
   have l2 := C1.fact (.head _) (i := 2) rfl
   have k3 := C1.tail.fact (.head _) (i := 3) rfl
   have l3 := C1.fact (.head _) (i := 3) rfl
   have k4 := C1.tail.fact (.head _) (i := 4) rfl
   have l4 := C1.fact (.head _) (i := 4) rfl
   have k5 := C1.tail.fact (.head _) (i := 5) rfl
   have l5 := C1.fact (.head _) (i := 5) rfl
   have k6 := C1.tail.fact (.head _) (i := 6) rfl
   have l6 := C1.fact (.head _) (i := 6) rfl
   have k7 := C1.tail.fact (.head _) (i := 7) rfl
   have l7 := C1.fact (.head _) (i := 7) rfl
   go_wp2_with fail
   refine (Has.call C1 (stopping_is ⟨bid, bln, blv, bcl, bnm, bst, bwt, bds⟩ (.slice ba bn bc) false GB.out _ (HB.out.later C1.low))).mono ?_
   rintro e w2 ⟨rfl, C2⟩
   clear k0 l0 k1 l1 k2 l2 k3 l3 k4 l4 k5 l5 k6 l6 k7 l7
   clear C1
   go_wp2_with fail
   go_ret
   exact ⟨rfl, C2.low⟩
 ·have za : ((an : Int) == 0) = true := by rw [beq_iff_eq]; omega
  have GA := Lib.hid (show goes ⟨aid, aln, alv, acl, anm, ast, awt, ads⟩ = false from by unfold goes; simp only [han]; exact decide_eq_false ga)
  have hj : joinP ⟨aid, aln, alv, acl, anm, ast, awt, ads⟩ ⟨bid, bln, blv, bcl, bnm, bst, bwt, bds⟩ = false := by unfold joinP; rw [GA.out, Bool.false_and, Bool.false_and]
  rw [hj]
  clear hj hu hv han hbn ga
  unfold wv
  simp only
  have C0 := ((Has.nil (Below.refl w.heap.size w)).push [.int .i64 aid, .slice aa an ac, .int .i64 alv, .string acl, .string anm, .bool ast, .int .i64 awt, .int .i64 ads] 44).push [.int .i64 bid, .slice ba bn bc, .int .i64 blv, .string bcl, .string bnm, .bool bst, .int .i64 bwt, .int .i64 bds] 44
  simp only [size_alloc] at C0
  go_enter Tryz.func20, Tryz.ntmps20
  go_wp2_with fail
  change Has w [(w.heap.size + 1, [.int .i64 bid, .slice ba bn bc, .int .i64 blv, .string bcl, .string bnm, .bool bst, .int .i64 bwt, .int .i64 bds]), (w.heap.size, [.int .i64 aid, .slice aa an ac, .int .i64 alv, .string acl, .string anm, .bool ast, .int .i64 awt, .int .i64 ads])] ((w.alloc (.cells #[.int .i64 aid, .slice aa an ac, .int .i64 alv, .string acl, .string anm, .bool ast, .int .i64 awt, .int .i64 ads] 44)).alloc (.cells #[.int .i64 bid, .slice ba bn bc, .int .i64 blv, .string bcl, .string bnm, .bool bst, .int .i64 bwt, .int .i64 bds] 44)) at C0
  generalize ((w.alloc (.cells #[.int .i64 aid, .slice aa an ac, .int .i64 alv, .string acl, .string anm, .bool ast, .int .i64 awt, .int .i64 ads] 44)).alloc (.cells #[.int .i64 bid, .slice ba bn bc, .int .i64 blv, .string bcl, .string bnm, .bool bst, .int .i64 bwt, .int .i64 bds] 44)) = w0 at *
  have k0 := C0.tail.fact (.head _) (i := 0) rfl
  have l0 := C0.fact (.head _) (i := 0) rfl
  have k1 := C0.tail.fact (.head _) (i := 1) rfl
  have l1 := C0.fact (.head _) (i := 1) rfl
  have k2 := C0.tail.fact (.head _) (i := 2) rfl
  have l2 := C0.fact (.head _) (i := 2) rfl
  have k3 := C0.tail.fact (.head _) (i := 3) rfl
  have l3 := C0.fact (.head _) (i := 3) rfl
  have k4 := C0.tail.fact (.head _) (i := 4) rfl
  have l4 := C0.fact (.head _) (i := 4) rfl
  have k5 := C0.tail.fact (.head _) (i := 5) rfl
  have l5 := C0.fact (.head _) (i := 5) rfl
  have k6 := C0.tail.fact (.head _) (i := 6) rfl
  have l6 := C0.fact (.head _) (i := 6) rfl
  have k7 := C0.tail.fact (.head _) (i := 7) rfl
  have l7 := C0.fact (.head _) (i := 7) rfl
  go_wp2_with fail
  refine (Has.call C0 (stopping_is ⟨aid, aln, alv, acl, anm, ast, awt, ads⟩ (.slice aa an ac) false GA.out _ (HA.out.later C0.low))).mono ?_
  rintro e w1 ⟨rfl, C1⟩
  clear k0 l0 k1 l1 k2 l2 k3 l3 k4 l4 k5 l5 k6 l6 k7 l7
  clear C0
  go_wp2_with fail
  go_ret
  exact ⟨rfl, C1.low⟩
set_option maxRecDepth 100000 in
set_option maxHeartbeats 2000000 in
theorem rjoined_any (x y : Wy) (u v : Value) (w : World) (hu : RowP w u x.ln) (hv : RowP w v y.ln) :
  Calls Tryz.prog 21 #[wv x u, wv y v] w fun e w' => e = .returned (.bool (joinP x y)) ∧ Below w.heap.size w w' := by
 obtain ⟨aid, aln, alv, acl, anm, ast, awt, ads⟩ := x
 obtain ⟨bid, bln, blv, bcl, bnm, bst, bwt, bds⟩ := y
 obtain ⟨aa, an, ac, rfl, han, hu⟩ := hu.form
 obtain ⟨ba, bn, bc, rfl, hbn, hv⟩ := hv.form
 simp only at hu hv han hbn
 have HA := Lib.hid hu
 have HB := Lib.hid hv
 by_cases ga : 0 < an
 ·have GA := Lib.hid (show goes ⟨aid, aln, alv, acl, anm, ast, awt, ads⟩ = true from by unfold goes; simpa [han] using ga)
  by_cases gb : 0 < bn
  ·have GB := Lib.hid (show goes ⟨bid, bln, blv, bcl, bnm, bst, bwt, bds⟩ = true from by unfold goes; simpa [hbn] using gb)
   obtain ⟨⟨p0, p1, p2⟩, hp⟩ : ∃ k, fstK ⟨aid, aln, alv, acl, anm, ast, awt, ads⟩ = k := ⟨_, rfl⟩
   obtain ⟨⟨q0, q1, q2⟩, hq⟩ : ∃ k, lstK ⟨aid, aln, alv, acl, anm, ast, awt, ads⟩ = k := ⟨_, rfl⟩
   obtain ⟨⟨r0, r1, r2⟩, hr⟩ : ∃ k, fstK ⟨bid, bln, blv, bcl, bnm, bst, bwt, bds⟩ = k := ⟨_, rfl⟩
   obtain ⟨⟨s0, s1, s2⟩, hs⟩ : ∃ k, lstK ⟨bid, bln, blv, bcl, bnm, bst, bwt, bds⟩ = k := ⟨_, rfl⟩
   have KA := Lib.hid hp
   have KB := Lib.hid hq
   have KC := Lib.hid hr
   have KD := Lib.hid hs
   have za : ((an : Int) == 0) = false := by rw [beq_eq_false_iff_ne]; omega
   have zb : ((bn : Int) == 0) = false := by rw [beq_eq_false_iff_ne]; omega
   have HJ := Lib.hid (show joinP ⟨aid, aln, alv, acl, anm, ast, awt, ads⟩ ⟨bid, bln, blv, bcl, bnm, bst, bwt, bds⟩ = (keq p0 p1 p2 r0 r1 r2 || keq p0 p1 p2 s0 s1 s2 || keq q0 q1 q2 r0 r1 r2 || keq q0 q1 q2 s0 s1 s2) from by unfold joinP; rw [GA.out, GB.out, hp, hq, hr, hs]; rfl)
   clear hp hq hr hs hu hv han hbn ga gb
   rw [HJ.out]
   clear HJ
   unfold wv
   simp only
   have C0 := ((Has.nil (Below.refl w.heap.size w)).push [.int .i64 aid, .slice aa an ac, .int .i64 alv, .string acl, .string anm, .bool ast, .int .i64 awt, .int .i64 ads] 44).push [.int .i64 bid, .slice ba bn bc, .int .i64 blv, .string bcl, .string bnm, .bool bst, .int .i64 bwt, .int .i64 bds] 44
   simp only [size_alloc] at C0
   go_enter Tryz.func21, Tryz.ntmps21
   go_wp2_with fail
   change Has w [(w.heap.size + 1, [.int .i64 bid, .slice ba bn bc, .int .i64 blv, .string bcl, .string bnm, .bool bst, .int .i64 bwt, .int .i64 bds]), (w.heap.size, [.int .i64 aid, .slice aa an ac, .int .i64 alv, .string acl, .string anm, .bool ast, .int .i64 awt, .int .i64 ads])] ((w.alloc (.cells #[.int .i64 aid, .slice aa an ac, .int .i64 alv, .string acl, .string anm, .bool ast, .int .i64 awt, .int .i64 ads] 44)).alloc (.cells #[.int .i64 bid, .slice ba bn bc, .int .i64 blv, .string bcl, .string bnm, .bool bst, .int .i64 bwt, .int .i64 bds] 44)) at C0
   generalize ((w.alloc (.cells #[.int .i64 aid, .slice aa an ac, .int .i64 alv, .string acl, .string anm, .bool ast, .int .i64 awt, .int .i64 ads] 44)).alloc (.cells #[.int .i64 bid, .slice ba bn bc, .int .i64 blv, .string bcl, .string bnm, .bool bst, .int .i64 bwt, .int .i64 bds] 44)) = w0 at *
   have k0 := C0.tail.fact (.head _) (i := 0) rfl
   have l0 := C0.fact (.head _) (i := 0) rfl
   have k1 := C0.tail.fact (.head _) (i := 1) rfl
   have l1 := C0.fact (.head _) (i := 1) rfl
   have k2 := C0.tail.fact (.head _) (i := 2) rfl
   have l2 := C0.fact (.head _) (i := 2) rfl
   have k3 := C0.tail.fact (.head _) (i := 3) rfl
   have l3 := C0.fact (.head _) (i := 3) rfl
   have k4 := C0.tail.fact (.head _) (i := 4) rfl
   have l4 := C0.fact (.head _) (i := 4) rfl
   have k5 := C0.tail.fact (.head _) (i := 5) rfl
   have l5 := C0.fact (.head _) (i := 5) rfl
   have k6 := C0.tail.fact (.head _) (i := 6) rfl
   have l6 := C0.fact (.head _) (i := 6) rfl
   have k7 := C0.tail.fact (.head _) (i := 7) rfl
   have l7 := C0.fact (.head _) (i := 7) rfl
   go_wp2_with fail
   refine (Has.call C0 (rstops_at ⟨aid, aln, alv, acl, anm, ast, awt, ads⟩ (.slice aa an ac) p0 p1 p2 q0 q1 q2 KA.out KB.out _ (HA.out.later C0.low))).mono ?_
   rintro e w3 ⟨rfl, C3⟩
   clear k0 l0 k1 l1 k2 l2 k3 l3 k4 l4 k5 l5 k6 l6 k7 l7
   clear C0
   go_upto_region 4 with fail
   have C4 := (C3.push [.int .i64 p0, .int .i64 p1, .int .i64 p2] 39).push [.int .i64 q0, .int .i64 q1, .int .i64 q2] 39
   simp only [size_alloc] at C4
   change Has w _ ((w3.alloc (.cells #[.int .i64 p0, .int .i64 p1, .int .i64 p2] 39)).alloc (.cells #[.int .i64 q0, .int .i64 q1, .int .i64 q2] 39)) at C4
   generalize ((w3.alloc (.cells #[.int .i64 p0, .int .i64 p1, .int .i64 p2] 39)).alloc (.cells #[.int .i64 q0, .int .i64 q1, .int .i64 q2] 39)) = w4 at *
   generalize w3.heap.size + 1 = S2 at *
   generalize w3.heap.size = S1 at *
   clear C3
   have k0 := C4.tail.tail.tail.fact (.head _) (i := 0) rfl
   have l0 := C4.tail.tail.fact (.head _) (i := 0) rfl
   have k1 := C4.tail.tail.tail.fact (.head _) (i := 1) rfl
   have l1 := C4.tail.tail.fact (.head _) (i := 1) rfl
   have k2 := C4.tail.tail.tail.fact (.head _) (i := 2) rfl
   have l2 := C4.tail.tail.fact (.head _) (i := 2) rfl
   have k3 := C4.tail.tail.tail.fact (.head _) (i := 3) rfl
   have l3 := C4.tail.tail.fact (.head _) (i := 3) rfl
   have k4 := C4.tail.tail.tail.fact (.head _) (i := 4) rfl
   have l4 := C4.tail.tail.fact (.head _) (i := 4) rfl
   have k5 := C4.tail.tail.tail.fact (.head _) (i := 5) rfl
   have l5 := C4.tail.tail.fact (.head _) (i := 5) rfl
   have k6 := C4.tail.tail.tail.fact (.head _) (i := 6) rfl
   have l6 := C4.tail.tail.fact (.head _) (i := 6) rfl
   have k7 := C4.tail.tail.tail.fact (.head _) (i := 7) rfl
   have l7 := C4.tail.tail.fact (.head _) (i := 7) rfl
   go_wp2_with fail
   refine (Has.call C4 (rstops_at ⟨bid, bln, blv, bcl, bnm, bst, bwt, bds⟩ (.slice ba bn bc) r0 r1 r2 s0 s1 s2 KC.out KD.out _ (HB.out.later C4.low))).mono ?_
   rintro e w5 ⟨rfl, C5⟩
   clear k0 l0 k1 l1 k2 l2 k3 l3 k4 l4 k5 l5 k6 l6 k7 l7
   clear C4
   go_upto_region 5 with fail
   have C6 := (C5.push [.int .i64 r0, .int .i64 r1, .int .i64 r2] 39).push [.int .i64 s0, .int .i64 s1, .int .i64 s2] 39
   simp only [size_alloc] at C6
   change Has w _ ((w5.alloc (.cells #[.int .i64 r0, .int .i64 r1, .int .i64 r2] 39)).alloc (.cells #[.int .i64 s0, .int .i64 s1, .int .i64 s2] 39)) at C6
   generalize ((w5.alloc (.cells #[.int .i64 r0, .int .i64 r1, .int .i64 r2] 39)).alloc (.cells #[.int .i64 s0, .int .i64 s1, .int .i64 s2] 39)) = w6 at *
   generalize w5.heap.size + 1 = S4 at *
   generalize w5.heap.size = S3 at *
   clear C5
   have mm0 := C6.fact (.head _) (i := 0) rfl
   have mm1 := C6.fact (.head _) (i := 1) rfl
   have mm2 := C6.fact (.head _) (i := 2) rfl
   have nn0 := C6.tail.fact (.head _) (i := 0) rfl
   have nn1 := C6.tail.fact (.head _) (i := 1) rfl
   have nn2 := C6.tail.fact (.head _) (i := 2) rfl
   have oo0 := C6.tail.tail.fact (.head _) (i := 0) rfl
   have oo1 := C6.tail.tail.fact (.head _) (i := 1) rfl
   have oo2 := C6.tail.tail.fact (.head _) (i := 2) rfl
   have pp0 := C6.tail.tail.tail.fact (.head _) (i := 0) rfl
   have pp1 := C6.tail.tail.tail.fact (.head _) (i := 1) rfl
   have pp2 := C6.tail.tail.tail.fact (.head _) (i := 2) rfl
   clear HA HB GA GB KA KB KC KD
   cases z0 : keq p0 p1 p2 r0 r1 r2
   ·try simp only [Bool.false_or, Bool.or_false]
    cases z1 : keq p0 p1 p2 s0 s1 s2
    ·try simp only [Bool.false_or, Bool.or_false]
     cases z2 : keq q0 q1 q2 r0 r1 r2
     ·try simp only [Bool.false_or, Bool.or_false]
      cases z3 : keq q0 q1 q2 s0 s1 s2
      ·try simp only [Bool.false_or, Bool.or_false]
       go_wp2_with fail
       go_ret
       exact ⟨rfl, C6.low⟩
      ·try simp only [Bool.true_or, Bool.or_true]
       go_wp2_with fail
       go_ret
       exact ⟨rfl, C6.low⟩
     ·try simp only [Bool.true_or, Bool.or_true]
      go_wp2_with fail
      go_ret
      exact ⟨rfl, C6.low⟩
    ·try simp only [Bool.true_or, Bool.or_true]
     go_wp2_with fail
     go_ret
     exact ⟨rfl, C6.low⟩
   ·try simp only [Bool.true_or, Bool.or_true]
    go_wp2_with fail
    go_ret
    exact ⟨rfl, C6.low⟩
  ·have zb : ((bn : Int) == 0) = true := by rw [beq_iff_eq]; omega
   have GB := Lib.hid (show goes ⟨bid, bln, blv, bcl, bnm, bst, bwt, bds⟩ = false from by unfold goes; simp only [hbn]; exact decide_eq_false gb)
   have za : ((an : Int) == 0) = false := by rw [beq_eq_false_iff_ne]; omega
   have hj : joinP ⟨aid, aln, alv, acl, anm, ast, awt, ads⟩ ⟨bid, bln, blv, bcl, bnm, bst, bwt, bds⟩ = false := by unfold joinP; rw [GB.out, Bool.and_false, Bool.false_and]
   rw [hj]
   clear hj hu hv han hbn ga gb
   unfold wv
   simp only
   have C0 := ((Has.nil (Below.refl w.heap.size w)).push [.int .i64 aid, .slice aa an ac, .int .i64 alv, .string acl, .string anm, .bool ast, .int .i64 awt, .int .i64 ads] 44).push [.int .i64 bid, .slice ba bn bc, .int .i64 blv, .string bcl, .string bnm, .bool bst, .int .i64 bwt, .int .i64 bds] 44
   simp only [size_alloc] at C0
   go_enter Tryz.func21, Tryz.ntmps21
   go_wp2_with fail
   change Has w [(w.heap.size + 1, [.int .i64 bid, .slice ba bn bc, .int .i64 blv, .string bcl, .string bnm, .bool bst, .int .i64 bwt, .int .i64 bds]), (w.heap.size, [.int .i64 aid, .slice aa an ac, .int .i64 alv, .string acl, .string anm, .bool ast, .int .i64 awt, .int .i64 ads])] ((w.alloc (.cells #[.int .i64 aid, .slice aa an ac, .int .i64 alv, .string acl, .string anm, .bool ast, .int .i64 awt, .int .i64 ads] 44)).alloc (.cells #[.int .i64 bid, .slice ba bn bc, .int .i64 blv, .string bcl, .string bnm, .bool bst, .int .i64 bwt, .int .i64 bds] 44)) at C0
   generalize ((w.alloc (.cells #[.int .i64 aid, .slice aa an ac, .int .i64 alv, .string acl, .string anm, .bool ast, .int .i64 awt, .int .i64 ads] 44)).alloc (.cells #[.int .i64 bid, .slice ba bn bc, .int .i64 blv, .string bcl, .string bnm, .bool bst, .int .i64 bwt, .int .i64 bds] 44)) = w0 at *
   have k0 := C0.tail.fact (.head _) (i := 0) rfl
   have l0 := C0.fact (.head _) (i := 0) rfl
   have k1 := C0.tail.fact (.head _) (i := 1) rfl
   have l1 := C0.fact (.head _) (i := 1) rfl
   have k2 := C0.tail.fact (.head _) (i := 2) rfl
   have l2 := C0.fact (.head _) (i := 2) rfl
   have k3 := C0.tail.fact (.head _) (i := 3) rfl
   have l3 := C0.fact (.head _) (i := 3) rfl
   have k4 := C0.tail.fact (.head _) (i := 4) rfl
   have l4 := C0.fact (.head _) (i := 4) rfl
   have k5 := C0.tail.fact (.head _) (i := 5) rfl
   have l5 := C0.fact (.head _) (i := 5) rfl
   have k6 := C0.tail.fact (.head _) (i := 6) rfl
   have l6 := C0.fact (.head _) (i := 6) rfl
   have k7 := C0.tail.fact (.head _) (i := 7) rfl
   have l7 := C0.fact (.head _) (i := 7) rfl
   go_wp2_with fail
   go_ret
   exact ⟨rfl, C0.low⟩
 ·have za : ((an : Int) == 0) = true := by rw [beq_iff_eq]; omega
  have GA := Lib.hid (show goes ⟨aid, aln, alv, acl, anm, ast, awt, ads⟩ = false from by unfold goes; simp only [han]; exact decide_eq_false ga)
  have hj : joinP ⟨aid, aln, alv, acl, anm, ast, awt, ads⟩ ⟨bid, bln, blv, bcl, bnm, bst, bwt, bds⟩ = false := by unfold joinP; rw [GA.out, Bool.false_and, Bool.false_and]
  rw [hj]
  clear hj hu hv han hbn ga
  unfold wv
  simp only
  have C0 := ((Has.nil (Below.refl w.heap.size w)).push [.int .i64 aid, .slice aa an ac, .int .i64 alv, .string acl, .string anm, .bool ast, .int .i64 awt, .int .i64 ads] 44).push [.int .i64 bid, .slice ba bn bc, .int .i64 blv, .string bcl, .string bnm, .bool bst, .int .i64 bwt, .int .i64 bds] 44
  simp only [size_alloc] at C0
  go_enter Tryz.func21, Tryz.ntmps21
  go_wp2_with fail
  change Has w [(w.heap.size + 1, [.int .i64 bid, .slice ba bn bc, .int .i64 blv, .string bcl, .string bnm, .bool bst, .int .i64 bwt, .int .i64 bds]), (w.heap.size, [.int .i64 aid, .slice aa an ac, .int .i64 alv, .string acl, .string anm, .bool ast, .int .i64 awt, .int .i64 ads])] ((w.alloc (.cells #[.int .i64 aid, .slice aa an ac, .int .i64 alv, .string acl, .string anm, .bool ast, .int .i64 awt, .int .i64 ads] 44)).alloc (.cells #[.int .i64 bid, .slice ba bn bc, .int .i64 blv, .string bcl, .string bnm, .bool bst, .int .i64 bwt, .int .i64 bds] 44)) at C0
  generalize ((w.alloc (.cells #[.int .i64 aid, .slice aa an ac, .int .i64 alv, .string acl, .string anm, .bool ast, .int .i64 awt, .int .i64 ads] 44)).alloc (.cells #[.int .i64 bid, .slice ba bn bc, .int .i64 blv, .string bcl, .string bnm, .bool bst, .int .i64 bwt, .int .i64 bds] 44)) = w0 at *
  have k0 := C0.tail.fact (.head _) (i := 0) rfl
  have l0 := C0.fact (.head _) (i := 0) rfl
  have k1 := C0.tail.fact (.head _) (i := 1) rfl
  have l1 := C0.fact (.head _) (i := 1) rfl
  have k2 := C0.tail.fact (.head _) (i := 2) rfl
  have l2 := C0.fact (.head _) (i := 2) rfl
  have k3 := C0.tail.fact (.head _) (i := 3) rfl
  have l3 := C0.fact (.head _) (i := 3) rfl
  have k4 := C0.tail.fact (.head _) (i := 4) rfl
  have l4 := C0.fact (.head _) (i := 4) rfl
  have k5 := C0.tail.fact (.head _) (i := 5) rfl
  have l5 := C0.fact (.head _) (i := 5) rfl
  have k6 := C0.tail.fact (.head _) (i := 6) rfl
  have l6 := C0.fact (.head _) (i := 6) rfl
  have k7 := C0.tail.fact (.head _) (i := 7) rfl
  have l7 := C0.fact (.head _) (i := 7) rfl
  go_wp2_with fail
  go_ret
  exact ⟨rfl, C0.low⟩
theorem joined_is (x y : Wy) (u v : Value) (r : Bool) (h : joinP x y = r) (w : World) (hu : RowP w u x.ln) (hv : RowP w v y.ln) :
  Calls Tryz.prog 20 #[wv x u, wv y v] w fun e w' => e = .returned (.bool r) ∧ Below w.heap.size w w' := h ▸ joined_any x y u v w hu hv
theorem rjoined_is (x y : Wy) (u v : Value) (r : Bool) (h : joinP x y = r) (w : World) (hu : RowP w u x.ln) (hv : RowP w v y.ln) :
  Calls Tryz.prog 21 #[wv x u, wv y v] w fun e w' => e = .returned (.bool r) ∧ Below w.heap.size w w' := h ▸ rjoined_any x y u v w hu hv

end Go.Proofs.YtoaldbjcpfkcjaaGreat
