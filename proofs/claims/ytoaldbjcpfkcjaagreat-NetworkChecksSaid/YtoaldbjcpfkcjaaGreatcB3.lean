/- Side of the reference. On of the reference. Meet of the reference, where a point is not bounded. Meet of the reference, where all ends lie on one line. Meet of the reference, where the ends do not all lie on one line. Meet of the reference. -/
import Derived.Test.YtoaldbjcpfkcjaaGreatcB1
import Derived.IntWalk
namespace Go.Proofs.YtoaldbjcpfkcjaaGreat
open Go.RowKit Go.Lib

set_option maxHeartbeats 4000000 in
theorem rside_any (a0 a1 b0 b1 p0 p1 : Int) (w : World) :
  Calls Tryz.prog 76 #[.agg #[.int .i64 a0, .int .i64 a1], .agg #[.int .i64 b0, .int .i64 b1], .agg #[.int .i64 p0, .int .i64 p1]] w fun e w' => e = .returned (.int .i64 (sideOf a0 a1 b0 b1 p0 p1)) ∧ Below w.heap.size w w' := by
 have C0 := has3 (w := w) [.int .i64 a0, .int .i64 a1] [.int .i64 b0, .int .i64 b1] [.int .i64 p0, .int .i64 p1] 37 37 37
 cases h0 : inl 1152921504606846976 a0 a1
 ·have HV := Lib.hid (sideOf_no0 a0 a1 b0 b1 p0 p1 h0)
  have H0 := Lib.hid h0
  clear h0
  go_enter Tryz.func76, Tryz.ntmps76
  go_wp2_with fail
  change Has w _ (((w.alloc (.cells #[.int .i64 a0, .int .i64 a1] 37)).alloc (.cells #[.int .i64 b0, .int .i64 b1] 37)).alloc (.cells #[.int .i64 p0, .int .i64 p1] 37)) at C0
  generalize ((w.alloc (.cells #[.int .i64 a0, .int .i64 a1] 37)).alloc (.cells #[.int .i64 b0, .int .i64 b1] 37)).alloc (.cells #[.int .i64 p0, .int .i64 p1] 37) = w0 at *
  obtain ⟨⟨k0, k1, k2, k3, k4, k5⟩, -⟩ := C0.three
  go_wp2_with fail
  refine (Has.call C0 (rbounded_is a0 a1 _ H0.out _)).mono ?_
  rintro e w1 ⟨rfl, C1⟩
  clear k0 k1 k2 k3 k4 k5
  obtain ⟨⟨k0, k1, k2, k3, k4, k5⟩, -⟩ := C1.three
  go_wp2_with fail
  go_ret
  exact ⟨ret_i HV.out, C1.low⟩
 ·skip
  cases h1 : inl 1152921504606846976 b0 b1
  ·have HV := Lib.hid (sideOf_no1 a0 a1 b0 b1 p0 p1 h1)
   have H0 := Lib.hid h0
   have H1 := Lib.hid h1
   clear h0 h1
   go_enter Tryz.func76, Tryz.ntmps76
   go_wp2_with fail
   change Has w _ (((w.alloc (.cells #[.int .i64 a0, .int .i64 a1] 37)).alloc (.cells #[.int .i64 b0, .int .i64 b1] 37)).alloc (.cells #[.int .i64 p0, .int .i64 p1] 37)) at C0
   generalize ((w.alloc (.cells #[.int .i64 a0, .int .i64 a1] 37)).alloc (.cells #[.int .i64 b0, .int .i64 b1] 37)).alloc (.cells #[.int .i64 p0, .int .i64 p1] 37) = w0 at *
   obtain ⟨⟨k0, k1, k2, k3, k4, k5⟩, -⟩ := C0.three
   go_wp2_with fail
   refine (Has.call C0 (rbounded_is a0 a1 _ H0.out _)).mono ?_
   rintro e w1 ⟨rfl, C1⟩
   clear k0 k1 k2 k3 k4 k5
   obtain ⟨⟨k0, k1, k2, k3, k4, k5⟩, -⟩ := C1.three
   go_wp2_with fail
   refine (Has.call C1 (rbounded_is b0 b1 _ H1.out _)).mono ?_
   rintro e w2 ⟨rfl, C2⟩
   clear k0 k1 k2 k3 k4 k5
   obtain ⟨⟨k0, k1, k2, k3, k4, k5⟩, -⟩ := C2.three
   go_wp2_with fail
   go_ret
   exact ⟨ret_i HV.out, C2.low⟩
  ·skip
   cases h2 : inl 1152921504606846976 p0 p1
   ·have HV := Lib.hid (sideOf_no2 a0 a1 b0 b1 p0 p1 h2)
    have H0 := Lib.hid h0
    have H1 := Lib.hid h1
    have H2 := Lib.hid h2
    clear h0 h1 h2
    go_enter Tryz.func76, Tryz.ntmps76
    go_wp2_with fail
    change Has w _ (((w.alloc (.cells #[.int .i64 a0, .int .i64 a1] 37)).alloc (.cells #[.int .i64 b0, .int .i64 b1] 37)).alloc (.cells #[.int .i64 p0, .int .i64 p1] 37)) at C0
    generalize ((w.alloc (.cells #[.int .i64 a0, .int .i64 a1] 37)).alloc (.cells #[.int .i64 b0, .int .i64 b1] 37)).alloc (.cells #[.int .i64 p0, .int .i64 p1] 37) = w0 at *
    obtain ⟨⟨k0, k1, k2, k3, k4, k5⟩, -⟩ := C0.three
    go_wp2_with fail
    refine (Has.call C0 (rbounded_is a0 a1 _ H0.out _)).mono ?_
    rintro e w1 ⟨rfl, C1⟩
    clear k0 k1 k2 k3 k4 k5
    obtain ⟨⟨k0, k1, k2, k3, k4, k5⟩, -⟩ := C1.three
    go_wp2_with fail
    refine (Has.call C1 (rbounded_is b0 b1 _ H1.out _)).mono ?_
    rintro e w2 ⟨rfl, C2⟩
    clear k0 k1 k2 k3 k4 k5
    obtain ⟨⟨k0, k1, k2, k3, k4, k5⟩, -⟩ := C2.three
    go_wp2_with fail
    refine (Has.call C2 (rbounded_is p0 p1 _ H2.out _)).mono ?_
    rintro e w3 ⟨rfl, C3⟩
    clear k0 k1 k2 k3 k4 k5
    obtain ⟨⟨k0, k1, k2, k3, k4, k5⟩, -⟩ := C3.three
    go_wp2_with fail
    go_ret
    exact ⟨ret_i HV.out, C3.low⟩
   ·skip
    have HV := Lib.hid (sideOf_yes a0 a1 b0 b1 p0 p1 h0 h1 h2)
    have B := inl_all h0 h1 h2
    have H0 := Lib.hid h0
    have H1 := Lib.hid h1
    have H2 := Lib.hid h2
    have HB := Lib.hid B
    clear h0 h1 h2 B
    go_enter Tryz.func76, Tryz.ntmps76
    go_wp2_with fail
    change Has w _ (((w.alloc (.cells #[.int .i64 a0, .int .i64 a1] 37)).alloc (.cells #[.int .i64 b0, .int .i64 b1] 37)).alloc (.cells #[.int .i64 p0, .int .i64 p1] 37)) at C0
    generalize ((w.alloc (.cells #[.int .i64 a0, .int .i64 a1] 37)).alloc (.cells #[.int .i64 b0, .int .i64 b1] 37)).alloc (.cells #[.int .i64 p0, .int .i64 p1] 37) = w0 at *
    obtain ⟨⟨k0, k1, k2, k3, k4, k5⟩, -⟩ := C0.three
    go_wp2_with fail
    refine (Has.call C0 (rbounded_is a0 a1 _ H0.out _)).mono ?_
    rintro e w1 ⟨rfl, C1⟩
    clear k0 k1 k2 k3 k4 k5
    obtain ⟨⟨k0, k1, k2, k3, k4, k5⟩, -⟩ := C1.three
    go_wp2_with fail
    refine (Has.call C1 (rbounded_is b0 b1 _ H1.out _)).mono ?_
    rintro e w2 ⟨rfl, C2⟩
    clear k0 k1 k2 k3 k4 k5
    obtain ⟨⟨k0, k1, k2, k3, k4, k5⟩, -⟩ := C2.three
    go_wp2_with fail
    refine (Has.call C2 (rbounded_is p0 p1 _ H2.out _)).mono ?_
    rintro e w3 ⟨rfl, C3⟩
    clear k0 k1 k2 k3 k4 k5
    obtain ⟨⟨k0, k1, k2, k3, k4, k5⟩, -⟩ := C3.three
    go_wp2_with fail
    refine (Has.call C3 (rsub_bd b0 b1 a0 a1 _ HB.out.1 HB.out.2.1)).mono ?_
    rintro e w4 ⟨rfl, C4⟩
    clear k0 k1 k2 k3 k4 k5
    obtain ⟨⟨k0, k1, k2, k3, k4, k5⟩, -⟩ := C4.three
    go_upto_region 4 with fail
    have C5 := C4.push [.int .i64 (b0 - a0), .int .i64 (b1 - a1)] 37
    change Has w _ (w4.alloc (.cells #[.int .i64 (b0 - a0), .int .i64 (b1 - a1)] 37)) at C5
    generalize w4.alloc (.cells #[.int .i64 (b0 - a0), .int .i64 (b1 - a1)] 37) = w5 at *
    generalize w4.heap.size = P at *
    clear k0 k1 k2 k3 k4 k5
    obtain ⟨⟨k0, k1, k2, k3, k4, k5⟩, -⟩ := C5.tail.three
    go_wp2_with fail
    refine (Has.call C5 (rsub_bd p0 p1 a0 a1 _ HB.out.2.2.1 HB.out.2.1)).mono ?_
    rintro e w6 ⟨rfl, C6⟩
    clear k0 k1 k2 k3 k4 k5
    go_upto_region 5 with fail
    have C7 := C6.push [.int .i64 (p0 - a0), .int .i64 (p1 - a1)] 37
    change Has w _ (w6.alloc (.cells #[.int .i64 (p0 - a0), .int .i64 (p1 - a1)] 37)) at C7
    generalize w6.alloc (.cells #[.int .i64 (p0 - a0), .int .i64 (p1 - a1)] 37) = w7 at *
    generalize w6.heap.size = Q at *
    obtain ⟨⟨k0, k1, k2, k3⟩, -⟩ := C7.two
    go_wp2_with fail
    refine (Has.call C7 (rsign2_any _ _ _ _ _ HB.out.2.2.2.1 HB.out.2.2.2.2.1 HB.out.2.2.2.2.2.1 HB.out.2.2.2.2.2.2)).mono ?_
    rintro e w8 ⟨rfl, C8⟩
    go_wp2_with fail
    go_ret
    exact ⟨ret_i HV.out, C8.low⟩

theorem rside_is (a0 a1 b0 b1 p0 p1 s : Int) (h : sideOf a0 a1 b0 b1 p0 p1 = s) (w : World) :
  Calls Tryz.prog 76 #[.agg #[.int .i64 a0, .int .i64 a1], .agg #[.int .i64 b0, .int .i64 b1], .agg #[.int .i64 p0, .int .i64 p1]] w fun e w' => e = .returned (.int .i64 s) ∧ Below w.heap.size w w' := h ▸ rside_any a0 a1 b0 b1 p0 p1 w

end Go.Proofs.YtoaldbjcpfkcjaaGreat

namespace Go.Proofs.YtoaldbjcpfkcjaaGreat
open Go.RowKit Go.Lib


set_option maxHeartbeats 4000000 in
theorem ron_any (a0 a1 b0 b1 p0 p1 : Int) (w : World) :
  Calls Tryz.prog 77 #[.agg #[.int .i64 a0, .int .i64 a1], .agg #[.int .i64 b0, .int .i64 b1], .agg #[.int .i64 p0, .int .i64 p1]] w fun e w' => e = .returned (.bool (ronOf a0 a1 b0 b1 p0 p1)) ∧ Below w.heap.size w w' := by
 have C0 := has3 (w := w) [.int .i64 a0, .int .i64 a1] [.int .i64 b0, .int .i64 b1] [.int .i64 p0, .int .i64 p1] 37 37 37
 cases h0 : inl 1152921504606846976 a0 a1
 ·have HV := Lib.hid (show ronOf a0 a1 b0 b1 p0 p1 = false by unfold ronOf; simp [h0])
  have H0 := Lib.hid h0
  clear h0
  go_enter Tryz.func77, Tryz.ntmps77
  go_wp2_with fail
  change Has w _ (((w.alloc (.cells #[.int .i64 a0, .int .i64 a1] 37)).alloc (.cells #[.int .i64 b0, .int .i64 b1] 37)).alloc (.cells #[.int .i64 p0, .int .i64 p1] 37)) at C0
  generalize ((w.alloc (.cells #[.int .i64 a0, .int .i64 a1] 37)).alloc (.cells #[.int .i64 b0, .int .i64 b1] 37)).alloc (.cells #[.int .i64 p0, .int .i64 p1] 37) = w0 at *
  obtain ⟨⟨k0, k1, k2, k3, k4, k5⟩, -⟩ := C0.three
  go_wp2_with fail
  refine (Has.call C0 (rbounded_is a0 a1 _ H0.out _)).mono ?_
  rintro e w1 ⟨rfl, C1⟩
  clear k0 k1 k2 k3 k4 k5
  obtain ⟨⟨k0, k1, k2, k3, k4, k5⟩, -⟩ := C1.three
  go_wp2_with fail
  go_ret
  exact ⟨ret_b HV.out.symm, C1.low⟩
 ·skip
  cases h1 : inl 1152921504606846976 b0 b1
  ·have HV := Lib.hid (show ronOf a0 a1 b0 b1 p0 p1 = false by unfold ronOf; simp [h0, h1])
   have H0 := Lib.hid h0
   have H1 := Lib.hid h1
   clear h0 h1
   go_enter Tryz.func77, Tryz.ntmps77
   go_wp2_with fail
   change Has w _ (((w.alloc (.cells #[.int .i64 a0, .int .i64 a1] 37)).alloc (.cells #[.int .i64 b0, .int .i64 b1] 37)).alloc (.cells #[.int .i64 p0, .int .i64 p1] 37)) at C0
   generalize ((w.alloc (.cells #[.int .i64 a0, .int .i64 a1] 37)).alloc (.cells #[.int .i64 b0, .int .i64 b1] 37)).alloc (.cells #[.int .i64 p0, .int .i64 p1] 37) = w0 at *
   obtain ⟨⟨k0, k1, k2, k3, k4, k5⟩, -⟩ := C0.three
   go_wp2_with fail
   refine (Has.call C0 (rbounded_is a0 a1 _ H0.out _)).mono ?_
   rintro e w1 ⟨rfl, C1⟩
   clear k0 k1 k2 k3 k4 k5
   obtain ⟨⟨k0, k1, k2, k3, k4, k5⟩, -⟩ := C1.three
   go_wp2_with fail
   refine (Has.call C1 (rbounded_is b0 b1 _ H1.out _)).mono ?_
   rintro e w2 ⟨rfl, C2⟩
   clear k0 k1 k2 k3 k4 k5
   obtain ⟨⟨k0, k1, k2, k3, k4, k5⟩, -⟩ := C2.three
   go_wp2_with fail
   go_ret
   exact ⟨ret_b HV.out.symm, C2.low⟩
  ·skip
   cases h2 : inl 1152921504606846976 p0 p1
   ·have HV := Lib.hid (show ronOf a0 a1 b0 b1 p0 p1 = false by unfold ronOf; simp [h0, h1, h2])
    have H0 := Lib.hid h0
    have H1 := Lib.hid h1
    have H2 := Lib.hid h2
    clear h0 h1 h2
    go_enter Tryz.func77, Tryz.ntmps77
    go_wp2_with fail
    change Has w _ (((w.alloc (.cells #[.int .i64 a0, .int .i64 a1] 37)).alloc (.cells #[.int .i64 b0, .int .i64 b1] 37)).alloc (.cells #[.int .i64 p0, .int .i64 p1] 37)) at C0
    generalize ((w.alloc (.cells #[.int .i64 a0, .int .i64 a1] 37)).alloc (.cells #[.int .i64 b0, .int .i64 b1] 37)).alloc (.cells #[.int .i64 p0, .int .i64 p1] 37) = w0 at *
    obtain ⟨⟨k0, k1, k2, k3, k4, k5⟩, -⟩ := C0.three
    go_wp2_with fail
    refine (Has.call C0 (rbounded_is a0 a1 _ H0.out _)).mono ?_
    rintro e w1 ⟨rfl, C1⟩
    clear k0 k1 k2 k3 k4 k5
    obtain ⟨⟨k0, k1, k2, k3, k4, k5⟩, -⟩ := C1.three
    go_wp2_with fail
    refine (Has.call C1 (rbounded_is b0 b1 _ H1.out _)).mono ?_
    rintro e w2 ⟨rfl, C2⟩
    clear k0 k1 k2 k3 k4 k5
    obtain ⟨⟨k0, k1, k2, k3, k4, k5⟩, -⟩ := C2.three
    go_wp2_with fail
    refine (Has.call C2 (rbounded_is p0 p1 _ H2.out _)).mono ?_
    rintro e w3 ⟨rfl, C3⟩
    clear k0 k1 k2 k3 k4 k5
    obtain ⟨⟨k0, k1, k2, k3, k4, k5⟩, -⟩ := C3.three
    go_wp2_with fail
    go_ret
    exact ⟨ret_b HV.out.symm, C3.low⟩
   ·skip
    cases hx : btw (min a0 b0) p0 (max a0 b0)
    ·have HV := Lib.hid (show ronOf a0 a1 b0 b1 p0 p1 = false by unfold ronOf; simp [h0, h1, h2, hx])
     have H0 := Lib.hid h0
     have H1 := Lib.hid h1
     have H2 := Lib.hid h2
     have HX := Lib.hid hx
     clear h0 h1 h2 hx
     go_enter Tryz.func77, Tryz.ntmps77
     go_wp2_with fail
     change Has w _ (((w.alloc (.cells #[.int .i64 a0, .int .i64 a1] 37)).alloc (.cells #[.int .i64 b0, .int .i64 b1] 37)).alloc (.cells #[.int .i64 p0, .int .i64 p1] 37)) at C0
     generalize ((w.alloc (.cells #[.int .i64 a0, .int .i64 a1] 37)).alloc (.cells #[.int .i64 b0, .int .i64 b1] 37)).alloc (.cells #[.int .i64 p0, .int .i64 p1] 37) = w0 at *
     obtain ⟨⟨k0, k1, k2, k3, k4, k5⟩, -⟩ := C0.three
     go_wp2_with fail
     refine (Has.call C0 (rbounded_is a0 a1 _ H0.out _)).mono ?_
     rintro e w1 ⟨rfl, C1⟩
     clear k0 k1 k2 k3 k4 k5
     obtain ⟨⟨k0, k1, k2, k3, k4, k5⟩, -⟩ := C1.three
     go_wp2_with fail
     refine (Has.call C1 (rbounded_is b0 b1 _ H1.out _)).mono ?_
     rintro e w2 ⟨rfl, C2⟩
     clear k0 k1 k2 k3 k4 k5
     obtain ⟨⟨k0, k1, k2, k3, k4, k5⟩, -⟩ := C2.three
     go_wp2_with fail
     refine (Has.call C2 (rbounded_is p0 p1 _ H2.out _)).mono ?_
     rintro e w3 ⟨rfl, C3⟩
     clear k0 k1 k2 k3 k4 k5
     obtain ⟨⟨k0, k1, k2, k3, k4, k5⟩, -⟩ := C3.three
     go_wp2_with fail
     all_goals
      refine (between_is _ _ _ false (by rw [← HX.out]; unfold btw; exact decide_eq_decide.2 (by omega)) _).mono ?_
      rintro e w' ⟨rfl, rfl⟩
      go_wp2_with fail
      go_ret
      exact ⟨ret_b HV.out.symm, C3.low⟩
    ·cases hy : btw (min a1 b1) p1 (max a1 b1)
     ·have HV := Lib.hid (show ronOf a0 a1 b0 b1 p0 p1 = false by unfold ronOf; simp [h0, h1, h2, hx, hy])
      have HY := Lib.hid hy
      clear hy
      have H0 := Lib.hid h0
      have H1 := Lib.hid h1
      have H2 := Lib.hid h2
      have HX := Lib.hid hx
      clear h0 h1 h2 hx
      go_enter Tryz.func77, Tryz.ntmps77
      go_wp2_with fail
      change Has w _ (((w.alloc (.cells #[.int .i64 a0, .int .i64 a1] 37)).alloc (.cells #[.int .i64 b0, .int .i64 b1] 37)).alloc (.cells #[.int .i64 p0, .int .i64 p1] 37)) at C0
      generalize ((w.alloc (.cells #[.int .i64 a0, .int .i64 a1] 37)).alloc (.cells #[.int .i64 b0, .int .i64 b1] 37)).alloc (.cells #[.int .i64 p0, .int .i64 p1] 37) = w0 at *
      obtain ⟨⟨k0, k1, k2, k3, k4, k5⟩, -⟩ := C0.three
      go_wp2_with fail
      refine (Has.call C0 (rbounded_is a0 a1 _ H0.out _)).mono ?_
      rintro e w1 ⟨rfl, C1⟩
      clear k0 k1 k2 k3 k4 k5
      obtain ⟨⟨k0, k1, k2, k3, k4, k5⟩, -⟩ := C1.three
      go_wp2_with fail
      refine (Has.call C1 (rbounded_is b0 b1 _ H1.out _)).mono ?_
      rintro e w2 ⟨rfl, C2⟩
      clear k0 k1 k2 k3 k4 k5
      obtain ⟨⟨k0, k1, k2, k3, k4, k5⟩, -⟩ := C2.three
      go_wp2_with fail
      refine (Has.call C2 (rbounded_is p0 p1 _ H2.out _)).mono ?_
      rintro e w3 ⟨rfl, C3⟩
      clear k0 k1 k2 k3 k4 k5
      obtain ⟨⟨k0, k1, k2, k3, k4, k5⟩, -⟩ := C3.three
      go_wp2_with fail
      all_goals
       refine (between_is _ _ _ true (by rw [← HX.out]; unfold btw; exact decide_eq_decide.2 (by omega)) _).mono ?_
       rintro e w' ⟨rfl, rfl⟩
       go_wp2_with fail
       all_goals
        refine (between_is _ _ _ false (by rw [← HY.out]; unfold btw; exact decide_eq_decide.2 (by omega)) _).mono ?_
        rintro e w' ⟨rfl, rfl⟩
        go_wp2_with fail
        go_ret
        exact ⟨ret_b HV.out.symm, C3.low⟩
     ·obtain ⟨s, hs⟩ : ∃ s, sideOf a0 a1 b0 b1 p0 p1 = s := ⟨_, rfl⟩
      have HV := Lib.hid (show ronOf a0 a1 b0 b1 p0 p1 = decide (s = 0) by unfold ronOf; simp [h0, h1, h2, hx, hy, hs])
      have HY := Lib.hid hy
      have HS := Lib.hid hs
      clear hy hs
      by_cases hz : s = 0
      ·have HW := Lib.hid (show true = decide (s = 0) by simp [hz])
       have e2 : (s == 0) = true := by rw [hz]; rfl
       clear hz
       have H0 := Lib.hid h0
       have H1 := Lib.hid h1
       have H2 := Lib.hid h2
       have HX := Lib.hid hx
       clear h0 h1 h2 hx
       go_enter Tryz.func77, Tryz.ntmps77
       go_wp2_with fail
       change Has w _ (((w.alloc (.cells #[.int .i64 a0, .int .i64 a1] 37)).alloc (.cells #[.int .i64 b0, .int .i64 b1] 37)).alloc (.cells #[.int .i64 p0, .int .i64 p1] 37)) at C0
       generalize ((w.alloc (.cells #[.int .i64 a0, .int .i64 a1] 37)).alloc (.cells #[.int .i64 b0, .int .i64 b1] 37)).alloc (.cells #[.int .i64 p0, .int .i64 p1] 37) = w0 at *
       obtain ⟨⟨k0, k1, k2, k3, k4, k5⟩, -⟩ := C0.three
       go_wp2_with fail
       refine (Has.call C0 (rbounded_is a0 a1 _ H0.out _)).mono ?_
       rintro e w1 ⟨rfl, C1⟩
       clear k0 k1 k2 k3 k4 k5
       obtain ⟨⟨k0, k1, k2, k3, k4, k5⟩, -⟩ := C1.three
       go_wp2_with fail
       refine (Has.call C1 (rbounded_is b0 b1 _ H1.out _)).mono ?_
       rintro e w2 ⟨rfl, C2⟩
       clear k0 k1 k2 k3 k4 k5
       obtain ⟨⟨k0, k1, k2, k3, k4, k5⟩, -⟩ := C2.three
       go_wp2_with fail
       refine (Has.call C2 (rbounded_is p0 p1 _ H2.out _)).mono ?_
       rintro e w3 ⟨rfl, C3⟩
       clear k0 k1 k2 k3 k4 k5
       obtain ⟨⟨k0, k1, k2, k3, k4, k5⟩, -⟩ := C3.three
       go_wp2_with fail
       all_goals
        refine (between_is _ _ _ true (by rw [← HX.out]; unfold btw; exact decide_eq_decide.2 (by omega)) _).mono ?_
        rintro e w' ⟨rfl, rfl⟩
        go_wp2_with fail
        all_goals
         refine (between_is _ _ _ true (by rw [← HY.out]; unfold btw; exact decide_eq_decide.2 (by omega)) _).mono ?_
         rintro e w' ⟨rfl, rfl⟩
         go_wp2_with fail
         refine (Has.call C3 (rside_is a0 a1 b0 b1 p0 p1 _ HS.out _)).mono ?_
         rintro e w4 ⟨rfl, C4⟩
         go_wp2_with fail
         go_ret
         exact ⟨ret_b (HW.out.trans HV.out.symm), C4.low⟩
      ·have HW := Lib.hid (show false = decide (s = 0) by simp [hz])
       have e2 : (s == 0) = false := by rw [beq_eq_false_iff_ne]; exact hz
       clear hz
       have H0 := Lib.hid h0
       have H1 := Lib.hid h1
       have H2 := Lib.hid h2
       have HX := Lib.hid hx
       clear h0 h1 h2 hx
       go_enter Tryz.func77, Tryz.ntmps77
       go_wp2_with fail
       change Has w _ (((w.alloc (.cells #[.int .i64 a0, .int .i64 a1] 37)).alloc (.cells #[.int .i64 b0, .int .i64 b1] 37)).alloc (.cells #[.int .i64 p0, .int .i64 p1] 37)) at C0
       generalize ((w.alloc (.cells #[.int .i64 a0, .int .i64 a1] 37)).alloc (.cells #[.int .i64 b0, .int .i64 b1] 37)).alloc (.cells #[.int .i64 p0, .int .i64 p1] 37) = w0 at *
       obtain ⟨⟨k0, k1, k2, k3, k4, k5⟩, -⟩ := C0.three
       go_wp2_with fail
       refine (Has.call C0 (rbounded_is a0 a1 _ H0.out _)).mono ?_
       rintro e w1 ⟨rfl, C1⟩
       clear k0 k1 k2 k3 k4 k5
       obtain ⟨⟨k0, k1, k2, k3, k4, k5⟩, -⟩ := C1.three
       go_wp2_with fail
       refine (Has.call C1 (rbounded_is b0 b1 _ H1.out _)).mono ?_
       rintro e w2 ⟨rfl, C2⟩
       clear k0 k1 k2 k3 k4 k5
       obtain ⟨⟨k0, k1, k2, k3, k4, k5⟩, -⟩ := C2.three
       go_wp2_with fail
       refine (Has.call C2 (rbounded_is p0 p1 _ H2.out _)).mono ?_
       rintro e w3 ⟨rfl, C3⟩
       clear k0 k1 k2 k3 k4 k5
       obtain ⟨⟨k0, k1, k2, k3, k4, k5⟩, -⟩ := C3.three
       go_wp2_with fail
       all_goals
        refine (between_is _ _ _ true (by rw [← HX.out]; unfold btw; exact decide_eq_decide.2 (by omega)) _).mono ?_
        rintro e w' ⟨rfl, rfl⟩
        go_wp2_with fail
        all_goals
         refine (between_is _ _ _ true (by rw [← HY.out]; unfold btw; exact decide_eq_decide.2 (by omega)) _).mono ?_
         rintro e w' ⟨rfl, rfl⟩
         go_wp2_with fail
         refine (Has.call C3 (rside_is a0 a1 b0 b1 p0 p1 _ HS.out _)).mono ?_
         rintro e w4 ⟨rfl, C4⟩
         go_wp2_with fail
         go_ret
         exact ⟨ret_b (HW.out.trans HV.out.symm), C4.low⟩

end Go.Proofs.YtoaldbjcpfkcjaaGreat

namespace Go.Proofs.YtoaldbjcpfkcjaaGreat
open Go.RowKit Go.Lib

set_option maxHeartbeats 4000000 in
theorem rmeet_no (a0 a1 b0 b1 c0 c1 d0 d1 : Int) (w : World) (h : ¬ (inl 1152921504606846976 a0 a1 = true ∧ inl 1152921504606846976 b0 b1 = true ∧ inl 1152921504606846976 c0 c1 = true ∧ inl 1152921504606846976 d0 d1 = true)) :
  Calls Tryz.prog 49 #[.agg #[.int .i64 a0, .int .i64 a1], .agg #[.int .i64 b0, .int .i64 b1], .agg #[.int .i64 c0, .int .i64 c1], .agg #[.int .i64 d0, .int .i64 d1]] w fun e w' => e = .returned (.int .i64 (meetOf a0 a1 b0 b1 c0 c1 d0 d1)) ∧ Below w.heap.size w w' := by
 have C0 := has4 (w := w) [.int .i64 a0, .int .i64 a1] [.int .i64 b0, .int .i64 b1] [.int .i64 c0, .int .i64 c1] [.int .i64 d0, .int .i64 d1] 37 37 37 37
 cases h0 : inl 1152921504606846976 a0 a1
 ·have HV := Lib.hid (meet_no0 (a0 := a0) (a1 := a1) (b0 := b0) (b1 := b1) (c0 := c0) (c1 := c1) (d0 := d0) (d1 := d1) h0)
  have H0 := Lib.hid h0
  clear h h0
  go_enter Tryz.func49, Tryz.ntmps49
  go_wp2_with fail
  change Has w _ ((((w.alloc (.cells #[.int .i64 a0, .int .i64 a1] 37)).alloc (.cells #[.int .i64 b0, .int .i64 b1] 37)).alloc (.cells #[.int .i64 c0, .int .i64 c1] 37)).alloc (.cells #[.int .i64 d0, .int .i64 d1] 37)) at C0
  generalize (((w.alloc (.cells #[.int .i64 a0, .int .i64 a1] 37)).alloc (.cells #[.int .i64 b0, .int .i64 b1] 37)).alloc (.cells #[.int .i64 c0, .int .i64 c1] 37)).alloc (.cells #[.int .i64 d0, .int .i64 d1] 37) = w0 at *
  obtain ⟨⟨k0, k1, k2, k3, k4, k5, k6, k7⟩, -⟩ := C0.four
  go_wp2_with fail
  refine (Has.call C0 (rbounded_is a0 a1 _ H0.out _)).mono ?_
  rintro e w1 ⟨rfl, C1⟩
  clear k0 k1 k2 k3 k4 k5 k6 k7
  obtain ⟨⟨k0, k1, k2, k3, k4, k5, k6, k7⟩, -⟩ := C1.four
  go_wp2_with fail
  go_ret
  exact ⟨ret_i HV.out, C1.low⟩
 ·skip
  cases h1 : inl 1152921504606846976 b0 b1
  ·have HV := Lib.hid (meet_no1 (a0 := a0) (a1 := a1) (b0 := b0) (b1 := b1) (c0 := c0) (c1 := c1) (d0 := d0) (d1 := d1) h1)
   have H0 := Lib.hid h0
   have H1 := Lib.hid h1
   clear h h0 h1
   go_enter Tryz.func49, Tryz.ntmps49
   go_wp2_with fail
   change Has w _ ((((w.alloc (.cells #[.int .i64 a0, .int .i64 a1] 37)).alloc (.cells #[.int .i64 b0, .int .i64 b1] 37)).alloc (.cells #[.int .i64 c0, .int .i64 c1] 37)).alloc (.cells #[.int .i64 d0, .int .i64 d1] 37)) at C0
   generalize (((w.alloc (.cells #[.int .i64 a0, .int .i64 a1] 37)).alloc (.cells #[.int .i64 b0, .int .i64 b1] 37)).alloc (.cells #[.int .i64 c0, .int .i64 c1] 37)).alloc (.cells #[.int .i64 d0, .int .i64 d1] 37) = w0 at *
   obtain ⟨⟨k0, k1, k2, k3, k4, k5, k6, k7⟩, -⟩ := C0.four
   go_wp2_with fail
   refine (Has.call C0 (rbounded_is a0 a1 _ H0.out _)).mono ?_
   rintro e w1 ⟨rfl, C1⟩
   clear k0 k1 k2 k3 k4 k5 k6 k7
   obtain ⟨⟨k0, k1, k2, k3, k4, k5, k6, k7⟩, -⟩ := C1.four
   go_wp2_with fail
   refine (Has.call C1 (rbounded_is b0 b1 _ H1.out _)).mono ?_
   rintro e w2 ⟨rfl, C2⟩
   clear k0 k1 k2 k3 k4 k5 k6 k7
   obtain ⟨⟨k0, k1, k2, k3, k4, k5, k6, k7⟩, -⟩ := C2.four
   go_wp2_with fail
   go_ret
   exact ⟨ret_i HV.out, C2.low⟩
  ·skip
   cases h2 : inl 1152921504606846976 c0 c1
   ·have HV := Lib.hid (meet_no2 (a0 := a0) (a1 := a1) (b0 := b0) (b1 := b1) (c0 := c0) (c1 := c1) (d0 := d0) (d1 := d1) h2)
    have H0 := Lib.hid h0
    have H1 := Lib.hid h1
    have H2 := Lib.hid h2
    clear h h0 h1 h2
    go_enter Tryz.func49, Tryz.ntmps49
    go_wp2_with fail
    change Has w _ ((((w.alloc (.cells #[.int .i64 a0, .int .i64 a1] 37)).alloc (.cells #[.int .i64 b0, .int .i64 b1] 37)).alloc (.cells #[.int .i64 c0, .int .i64 c1] 37)).alloc (.cells #[.int .i64 d0, .int .i64 d1] 37)) at C0
    generalize (((w.alloc (.cells #[.int .i64 a0, .int .i64 a1] 37)).alloc (.cells #[.int .i64 b0, .int .i64 b1] 37)).alloc (.cells #[.int .i64 c0, .int .i64 c1] 37)).alloc (.cells #[.int .i64 d0, .int .i64 d1] 37) = w0 at *
    obtain ⟨⟨k0, k1, k2, k3, k4, k5, k6, k7⟩, -⟩ := C0.four
    go_wp2_with fail
    refine (Has.call C0 (rbounded_is a0 a1 _ H0.out _)).mono ?_
    rintro e w1 ⟨rfl, C1⟩
    clear k0 k1 k2 k3 k4 k5 k6 k7
    obtain ⟨⟨k0, k1, k2, k3, k4, k5, k6, k7⟩, -⟩ := C1.four
    go_wp2_with fail
    refine (Has.call C1 (rbounded_is b0 b1 _ H1.out _)).mono ?_
    rintro e w2 ⟨rfl, C2⟩
    clear k0 k1 k2 k3 k4 k5 k6 k7
    obtain ⟨⟨k0, k1, k2, k3, k4, k5, k6, k7⟩, -⟩ := C2.four
    go_wp2_with fail
    refine (Has.call C2 (rbounded_is c0 c1 _ H2.out _)).mono ?_
    rintro e w3 ⟨rfl, C3⟩
    clear k0 k1 k2 k3 k4 k5 k6 k7
    obtain ⟨⟨k0, k1, k2, k3, k4, k5, k6, k7⟩, -⟩ := C3.four
    go_wp2_with fail
    go_ret
    exact ⟨ret_i HV.out, C3.low⟩
   ·skip
    cases h3 : inl 1152921504606846976 d0 d1
    ·have HV := Lib.hid (meet_no3 (a0 := a0) (a1 := a1) (b0 := b0) (b1 := b1) (c0 := c0) (c1 := c1) (d0 := d0) (d1 := d1) h3)
     have H0 := Lib.hid h0
     have H1 := Lib.hid h1
     have H2 := Lib.hid h2
     have H3 := Lib.hid h3
     clear h h0 h1 h2 h3
     go_enter Tryz.func49, Tryz.ntmps49
     go_wp2_with fail
     change Has w _ ((((w.alloc (.cells #[.int .i64 a0, .int .i64 a1] 37)).alloc (.cells #[.int .i64 b0, .int .i64 b1] 37)).alloc (.cells #[.int .i64 c0, .int .i64 c1] 37)).alloc (.cells #[.int .i64 d0, .int .i64 d1] 37)) at C0
     generalize (((w.alloc (.cells #[.int .i64 a0, .int .i64 a1] 37)).alloc (.cells #[.int .i64 b0, .int .i64 b1] 37)).alloc (.cells #[.int .i64 c0, .int .i64 c1] 37)).alloc (.cells #[.int .i64 d0, .int .i64 d1] 37) = w0 at *
     obtain ⟨⟨k0, k1, k2, k3, k4, k5, k6, k7⟩, -⟩ := C0.four
     go_wp2_with fail
     refine (Has.call C0 (rbounded_is a0 a1 _ H0.out _)).mono ?_
     rintro e w1 ⟨rfl, C1⟩
     clear k0 k1 k2 k3 k4 k5 k6 k7
     obtain ⟨⟨k0, k1, k2, k3, k4, k5, k6, k7⟩, -⟩ := C1.four
     go_wp2_with fail
     refine (Has.call C1 (rbounded_is b0 b1 _ H1.out _)).mono ?_
     rintro e w2 ⟨rfl, C2⟩
     clear k0 k1 k2 k3 k4 k5 k6 k7
     obtain ⟨⟨k0, k1, k2, k3, k4, k5, k6, k7⟩, -⟩ := C2.four
     go_wp2_with fail
     refine (Has.call C2 (rbounded_is c0 c1 _ H2.out _)).mono ?_
     rintro e w3 ⟨rfl, C3⟩
     clear k0 k1 k2 k3 k4 k5 k6 k7
     obtain ⟨⟨k0, k1, k2, k3, k4, k5, k6, k7⟩, -⟩ := C3.four
     go_wp2_with fail
     refine (Has.call C3 (rbounded_is d0 d1 _ H3.out _)).mono ?_
     rintro e w4 ⟨rfl, C4⟩
     clear k0 k1 k2 k3 k4 k5 k6 k7
     obtain ⟨⟨k0, k1, k2, k3, k4, k5, k6, k7⟩, -⟩ := C4.four
     go_wp2_with fail
     go_ret
     exact ⟨ret_i HV.out, C4.low⟩
    ·skip
     exact absurd ⟨h0, h1, h2, h3⟩ h


end Go.Proofs.YtoaldbjcpfkcjaaGreat

namespace Go.Proofs.YtoaldbjcpfkcjaaGreat
open Go.RowKit Go.Lib

theorem Has.fourth {w0 w : World} {bs : List (Nat × List Value)} {p q r s : Nat × List Value} (h : Has w0 (p :: q :: r :: s :: bs) w) : Has w0 (s :: p :: q :: r :: bs) w :=
 h.perm ((List.Perm.cons _ ((List.Perm.cons _ (.swap _ _ _)).trans (.swap _ _ _))).trans (.swap _ _ _))

set_option maxHeartbeats 2000000 in
theorem ordered_any (a0 a1 b0 b1 : Int) (w : World) :
  Calls Tryz.prog 78 #[.agg #[.int .i64 a0, .int .i64 a1], .agg #[.int .i64 b0, .int .i64 b1]] w fun e w' => e = .returned (.tuple #[.agg #[.int .i64 (lexmin a0 a1 b0 b1).1, .int .i64 (lexmin a0 a1 b0 b1).2], .agg #[.int .i64 (lexmax a0 a1 b0 b1).1, .int .i64 (lexmax a0 a1 b0 b1).2]]) ∧ Below w.heap.size w w' := by
 have C0 := has4 (w := w) [.int .i64 a0, .int .i64 a1] [.int .i64 b0, .int .i64 b1] [.int .i64 0, .int .i64 0] [.int .i64 0, .int .i64 0] 37 37 37 37
 cases h : lexlt b0 b1 a0 a1
 ·obtain ⟨e1, e2⟩ := ord_f h
  rw [e1, e2]
  have H := Lib.hid h
  clear h e1 e2
  go_enter Tryz.func78, Tryz.ntmps78
  go_wp2_with fail
  change Has w _ ((((w.alloc (.cells #[.int .i64 a0, .int .i64 a1] 37)).alloc (.cells #[.int .i64 b0, .int .i64 b1] 37)).alloc (.cells #[.int .i64 0, .int .i64 0] 37)).alloc (.cells #[.int .i64 0, .int .i64 0] 37)) at C0
  generalize (((w.alloc (.cells #[.int .i64 a0, .int .i64 a1] 37)).alloc (.cells #[.int .i64 b0, .int .i64 b1] 37)).alloc (.cells #[.int .i64 0, .int .i64 0] 37)).alloc (.cells #[.int .i64 0, .int .i64 0] 37) = w0 at *
  obtain ⟨⟨k0, k1, k2, k3, k4, k5, k6, k7⟩, -⟩ := C0.four
  go_wp2_with fail
  refine (Has.call C0 (less_is _ _ _ _ _ H.out _)).mono ?_
  rintro e w1 ⟨rfl, C1⟩
  clear k0 k1 k2 k3 k4 k5 k6 k7
  obtain ⟨⟨k0, k1, k2, k3, k4, k5, k6, k7⟩, -⟩ := C1.four
  obtain ⟨f0, f1⟩ := C1.third.ptf
  obtain ⟨f2, f3⟩ := C1.fourth.ptf
  go_wp2_with fail
  go_region
  have C3 := ((C1.third.set2 (.int .i64 a0) (.int .i64 a1)).fourth.set2 (.int .i64 b0) (.int .i64 b1)).drew
  generalize (((World.setCell w1 ⟨w.heap.size + 2, 0, none⟩ (.int .i64 a0)).setCell ⟨w.heap.size + 2, 1, none⟩ (.int .i64 a1)).setCell ⟨w.heap.size + 3, 0, none⟩ (.int .i64 b0)).setCell ⟨w.heap.size + 3, 1, none⟩ (.int .i64 b1) = w3 at *
  obtain ⟨d0, d1⟩ := C3.pt
  obtain ⟨d2, d3⟩ := C3.tail.pt
  go_wp2_with fail
  exact bodyPost_ret (v := .tuple #[.agg #[.int .i64 a0, .int .i64 a1], .agg #[.int .i64 b0, .int .i64 b1]]) (by simp [results, Tryz.results78, go_sem, d0, d1, d2, d3]) rfl ⟨rfl, C3.low⟩
 ·obtain ⟨e1, e2⟩ := ord_t h
  rw [e1, e2]
  have H := Lib.hid h
  clear h e1 e2
  go_enter Tryz.func78, Tryz.ntmps78
  go_wp2_with fail
  change Has w _ ((((w.alloc (.cells #[.int .i64 a0, .int .i64 a1] 37)).alloc (.cells #[.int .i64 b0, .int .i64 b1] 37)).alloc (.cells #[.int .i64 0, .int .i64 0] 37)).alloc (.cells #[.int .i64 0, .int .i64 0] 37)) at C0
  generalize (((w.alloc (.cells #[.int .i64 a0, .int .i64 a1] 37)).alloc (.cells #[.int .i64 b0, .int .i64 b1] 37)).alloc (.cells #[.int .i64 0, .int .i64 0] 37)).alloc (.cells #[.int .i64 0, .int .i64 0] 37) = w0 at *
  obtain ⟨⟨k0, k1, k2, k3, k4, k5, k6, k7⟩, -⟩ := C0.four
  go_wp2_with fail
  refine (Has.call C0 (less_is _ _ _ _ _ H.out _)).mono ?_
  rintro e w1 ⟨rfl, C1⟩
  clear k0 k1 k2 k3 k4 k5 k6 k7
  obtain ⟨⟨k0, k1, k2, k3, k4, k5, k6, k7⟩, -⟩ := C1.four
  obtain ⟨f0, f1⟩ := C1.third.ptf
  obtain ⟨f2, f3⟩ := C1.fourth.ptf
  go_wp2_with fail
  go_region
  have C3 := ((C1.third.set2 (.int .i64 b0) (.int .i64 b1)).fourth.set2 (.int .i64 a0) (.int .i64 a1)).drew
  generalize (((World.setCell w1 ⟨w.heap.size + 2, 0, none⟩ (.int .i64 b0)).setCell ⟨w.heap.size + 2, 1, none⟩ (.int .i64 b1)).setCell ⟨w.heap.size + 3, 0, none⟩ (.int .i64 a0)).setCell ⟨w.heap.size + 3, 1, none⟩ (.int .i64 a1) = w3 at *
  obtain ⟨d0, d1⟩ := C3.pt
  obtain ⟨d2, d3⟩ := C3.tail.pt
  go_wp2_with fail
  exact bodyPost_ret (v := .tuple #[.agg #[.int .i64 b0, .int .i64 b1], .agg #[.int .i64 a0, .int .i64 a1]]) (by simp [results, Tryz.results78, go_sem, d0, d1, d2, d3]) rfl ⟨rfl, C3.low⟩

set_option maxRecDepth 100000 in
set_option maxHeartbeats 8000000 in
theorem rmeet_flat (a0 a1 b0 b1 c0 c1 d0 d1 : Int) (w : World) (h0 : inl 1152921504606846976 a0 a1 = true) (h1 : inl 1152921504606846976 b0 b1 = true) (h2 : inl 1152921504606846976 c0 c1 = true) (h3 : inl 1152921504606846976 d0 d1 = true) (eA : sideOf c0 c1 d0 d1 a0 a1 = 0) (eB : sideOf c0 c1 d0 d1 b0 b1 = 0) (eC : sideOf a0 a1 b0 b1 c0 c1 = 0) (eD : sideOf a0 a1 b0 b1 d0 d1 = 0) :
  Calls Tryz.prog 49 #[.agg #[.int .i64 a0, .int .i64 a1], .agg #[.int .i64 b0, .int .i64 b1], .agg #[.int .i64 c0, .int .i64 c1], .agg #[.int .i64 d0, .int .i64 d1]] w fun e w' => e = .returned (.int .i64 (ovl a0 a1 b0 b1 c0 c1 d0 d1)) ∧ Below w.heap.size w w' := by
 obtain ⟨m, hm⟩ : ∃ m, lexmin a0 a1 b0 b1 = m := ⟨_, rfl⟩
 obtain ⟨M, hM⟩ : ∃ M, lexmax a0 a1 b0 b1 = M := ⟨_, rfl⟩
 obtain ⟨n, hn⟩ : ∃ n, lexmin c0 c1 d0 d1 = n := ⟨_, rfl⟩
 obtain ⟨N, hN⟩ : ∃ N, lexmax c0 c1 d0 d1 = N := ⟨_, rfl⟩
 obtain ⟨L, hL⟩ : ∃ L, lexmax m.1 m.2 n.1 n.2 = L := ⟨_, rfl⟩
 obtain ⟨H, hH⟩ : ∃ H, lexmin N.1 N.2 M.1 M.2 = H := ⟨_, rfl⟩
 have hV : ovl a0 a1 b0 b1 c0 c1 d0 d1 = ovl2 L H := by unfold ovl lowP highP; rw [hm, hM, hn, hN, hL, lexmin_comm, hH]
 have O1 := ordered_any a0 a1 b0 b1
 have O2 := ordered_any c0 c1 d0 d1
 rw [hm, hM] at O1
 rw [hn, hN] at O2
 obtain ⟨m0, m1⟩ := m
 obtain ⟨M0, M1⟩ := M
 obtain ⟨n0, n1⟩ := n
 obtain ⟨N0, N1⟩ := N
 obtain ⟨L0, L1⟩ := L
 obtain ⟨H0, H1⟩ := H
 simp only at O1 O2 hL hH
 have HL := Lib.hid hL
 have HH := Lib.hid hH
 have HV := Lib.hid hV
 have HO1 := Lib.hid O1
 have HO2 := Lib.hid O2
 have EA := Lib.hid eA
 have EB := Lib.hid eB
 have EC := Lib.hid eC
 have ED := Lib.hid eD
 clear hm hM hn hN hL hH hV O1 O2 eA eB eC eD
 have G0 := Lib.hid h0
 have G1 := Lib.hid h1
 have G2 := Lib.hid h2
 have G3 := Lib.hid h3
 clear h0 h1 h2 h3
 have C0 := has4 (w := w) [.int .i64 a0, .int .i64 a1] [.int .i64 b0, .int .i64 b1] [.int .i64 c0, .int .i64 c1] [.int .i64 d0, .int .i64 d1] 37 37 37 37
 go_enter Tryz.func49, Tryz.ntmps49
 go_wp2_with fail
 change Has w _ ((((w.alloc (.cells #[.int .i64 a0, .int .i64 a1] 37)).alloc (.cells #[.int .i64 b0, .int .i64 b1] 37)).alloc (.cells #[.int .i64 c0, .int .i64 c1] 37)).alloc (.cells #[.int .i64 d0, .int .i64 d1] 37)) at C0
 generalize (((w.alloc (.cells #[.int .i64 a0, .int .i64 a1] 37)).alloc (.cells #[.int .i64 b0, .int .i64 b1] 37)).alloc (.cells #[.int .i64 c0, .int .i64 c1] 37)).alloc (.cells #[.int .i64 d0, .int .i64 d1] 37) = w0 at *
 obtain ⟨⟨k0, k1, k2, k3, k4, k5, k6, k7⟩, -⟩ := C0.four
 go_wp2_with fail
 refine (Has.call C0 (rbounded_is a0 a1 _ G0.out _)).mono ?_
 rintro e w1 ⟨rfl, C1⟩
 clear k0 k1 k2 k3 k4 k5 k6 k7
 obtain ⟨⟨k0, k1, k2, k3, k4, k5, k6, k7⟩, -⟩ := C1.four
 go_wp2_with fail
 refine (Has.call C1 (rbounded_is b0 b1 _ G1.out _)).mono ?_
 rintro e w2 ⟨rfl, C2⟩
 clear k0 k1 k2 k3 k4 k5 k6 k7
 obtain ⟨⟨k0, k1, k2, k3, k4, k5, k6, k7⟩, -⟩ := C2.four
 go_wp2_with fail
 refine (Has.call C2 (rbounded_is c0 c1 _ G2.out _)).mono ?_
 rintro e w3 ⟨rfl, C3⟩
 clear k0 k1 k2 k3 k4 k5 k6 k7
 obtain ⟨⟨k0, k1, k2, k3, k4, k5, k6, k7⟩, -⟩ := C3.four
 go_wp2_with fail
 refine (Has.call C3 (rbounded_is d0 d1 _ G3.out _)).mono ?_
 rintro e w4 ⟨rfl, C4⟩
 clear k0 k1 k2 k3 k4 k5 k6 k7
 obtain ⟨⟨k0, k1, k2, k3, k4, k5, k6, k7⟩, -⟩ := C4.four
 go_wp2_with fail
 refine (Has.call C4 (rside_is a0 a1 b0 b1 c0 c1 _ EC.out _)).mono ?_
 rintro e w5 ⟨rfl, C5⟩
 clear k0 k1 k2 k3 k4 k5 k6 k7
 obtain ⟨⟨k0, k1, k2, k3, k4, k5, k6, k7⟩, -⟩ := C5.four
 go_wp2_with fail
 refine (Has.call C5 (rside_is a0 a1 b0 b1 d0 d1 _ ED.out _)).mono ?_
 rintro e w6 ⟨rfl, C6⟩
 clear k0 k1 k2 k3 k4 k5 k6 k7
 obtain ⟨⟨k0, k1, k2, k3, k4, k5, k6, k7⟩, -⟩ := C6.four
 go_wp2_with fail
 refine (Has.call C6 (rside_is c0 c1 d0 d1 a0 a1 _ EA.out _)).mono ?_
 rintro e w7 ⟨rfl, C7⟩
 clear k0 k1 k2 k3 k4 k5 k6 k7
 obtain ⟨⟨k0, k1, k2, k3, k4, k5, k6, k7⟩, -⟩ := C7.four
 go_wp2_with fail
 refine (Has.call C7 (rside_is c0 c1 d0 d1 b0 b1 _ EB.out _)).mono ?_
 rintro e w8 ⟨rfl, C8⟩
 clear k0 k1 k2 k3 k4 k5 k6 k7
 obtain ⟨⟨k0, k1, k2, k3, k4, k5, k6, k7⟩, -⟩ := C8.four
 go_wp2_with fail
 refine (Has.call C8 (HO1.out _)).mono ?_
 rintro e w9 ⟨rfl, C9⟩
 clear k0 k1 k2 k3 k4 k5 k6 k7
 obtain ⟨⟨k0, k1, k2, k3, k4, k5, k6, k7⟩, -⟩ := C9.four
 obtain ⟨f0, f1⟩ := C9.ptf
 obtain ⟨f2, f3⟩ := C9.swap.ptf
 go_upto_region 11 with fail
 have C10 : Has w [(w.heap.size, [.int .i64 m0, .int .i64 m1]), (w.heap.size + 1, [.int .i64 M0, .int .i64 M1]), (w.heap.size + 2, [.int .i64 c0, .int .i64 c1]), (w.heap.size + 3, [.int .i64 d0, .int .i64 d1])] _ := ((C9.set2 (.int .i64 m0) (.int .i64 m1)).swap.set2 (.int .i64 M0) (.int .i64 M1)).swap
 generalize (((World.setCell w9 ⟨w.heap.size, 0, none⟩ (.int .i64 m0)).setCell ⟨w.heap.size, 1, none⟩ (.int .i64 m1)).setCell ⟨w.heap.size + 1, 0, none⟩ (.int .i64 M0)).setCell ⟨w.heap.size + 1, 1, none⟩ (.int .i64 M1) = w10 at *
 clear k0 k1 k2 k3 k4 k5 k6 k7 f0 f1 f2 f3 C9
 obtain ⟨⟨k0, k1, k2, k3, k4, k5, k6, k7⟩, -⟩ := C10.four
 go_wp2_with fail
 refine (Has.call C10 (HO2.out _)).mono ?_
 rintro e w11 ⟨rfl, C11⟩
 clear k0 k1 k2 k3 k4 k5 k6 k7 C10
 obtain ⟨⟨k0, k1, k2, k3, k4, k5, k6, k7⟩, -⟩ := C11.four
 obtain ⟨f0, f1⟩ := C11.third.ptf
 obtain ⟨f2, f3⟩ := C11.fourth.ptf
 go_upto_region 12 with fail
 have C12 : Has w [(w.heap.size + 3, [.int .i64 N0, .int .i64 N1]), (w.heap.size + 2, [.int .i64 n0, .int .i64 n1]), (w.heap.size, [.int .i64 m0, .int .i64 m1]), (w.heap.size + 1, [.int .i64 M0, .int .i64 M1])] _ := (C11.third.set2 (.int .i64 n0) (.int .i64 n1)).fourth.set2 (.int .i64 N0) (.int .i64 N1)
 generalize (((World.setCell w11 ⟨w.heap.size + 2, 0, none⟩ (.int .i64 n0)).setCell ⟨w.heap.size + 2, 1, none⟩ (.int .i64 n1)).setCell ⟨w.heap.size + 3, 0, none⟩ (.int .i64 N0)).setCell ⟨w.heap.size + 3, 1, none⟩ (.int .i64 N1) = w12 at *
 clear k0 k1 k2 k3 k4 k5 k6 k7 f0 f1 f2 f3 C11
 obtain ⟨⟨k0, k1, k2, k3, k4, k5, k6, k7⟩, -⟩ := C12.four
 go_upto_region 13 with fail
 have C13 := C12.push [.int .i64 m0, .int .i64 m1] 37
 change Has w _ (w12.alloc (.cells #[.int .i64 m0, .int .i64 m1] 37)) at C13
 generalize w12.alloc (.cells #[.int .i64 m0, .int .i64 m1] 37) = w13 at *
 generalize w12.heap.size = F at *
 clear k0 k1 k2 k3 k4 k5 k6 k7 C12
 obtain ⟨⟨k0, k1, k2, k3, k4, k5, k6, k7⟩, -⟩ := C13.tail.four
 obtain ⟨k8, k9⟩ := C13.pt
 obtain ⟨r, hr⟩ : ∃ r, lexlt m0 m1 n0 n1 = r := ⟨_, rfl⟩
 have hL1 : r = true → L0 = n0 ∧ L1 = n1 := by
  intro h; rw [h] at hr
  have := HL.out; rw [(lex_lt hr).2] at this
  exact ⟨(congrArg Prod.fst this).symm, (congrArg Prod.snd this).symm⟩
 have hL2 : r = false → L0 = m0 ∧ L1 = m1 := by
  intro h; rw [h] at hr
  have := HL.out; rw [(lex_ge hr).2] at this
  exact ⟨(congrArg Prod.fst this).symm, (congrArg Prod.snd this).symm⟩
 have HR := Lib.hid hr
 have HL1 := Lib.hid hL1
 have HL2 := Lib.hid hL2
 clear hr hL1 hL2
 go_wp2_with fail
 refine (Has.call C13 (less_is _ _ _ _ _ HR.out _)).mono ?_
 rintro e w14 ⟨rfl, C14⟩
 clear k0 k1 k2 k3 k4 k5 k6 k7 k8 k9 C13
 obtain ⟨⟨k0, k1, k2, k3, k4, k5, k6, k7⟩, -⟩ := C14.tail.four
 obtain ⟨k8, k9⟩ := C14.pt
 obtain ⟨f0, f1⟩ := C14.ptf
 go_upto_if 117 with fail
 go_cut [118] (fun _ wx => Has w [(F, [.int .i64 L0, .int .i64 L1]), (w.heap.size + 3, [.int .i64 N0, .int .i64 N1]), (w.heap.size + 2, [.int .i64 n0, .int .i64 n1]), (w.heap.size, [.int .i64 m0, .int .i64 m1]), (w.heap.size + 1, [.int .i64 M0, .int .i64 M1])] wx)
 case first =>
  cases r
  ·obtain ⟨rfl, rfl⟩ := HL2.out rfl
   go_wp2_with fail
   go_meet
   exact C14
  ·obtain ⟨rfl, rfl⟩ := HL1.out rfl
   go_wp2_with fail
   go_meet
   exact C14.set2 _ _
 case rest =>
  have C15 := hcut
  clear hcut C14 k0 k1 k2 k3 k4 k5 k6 k7 k8 k9 f0 f1
  obtain ⟨⟨k0, k1, k2, k3, k4, k5, k6, k7⟩, -⟩ := C15.tail.four
  obtain ⟨k8, k9⟩ := C15.pt
  go_upto_region 16 with fail
  have C16 := C15.push [.int .i64 M0, .int .i64 M1] 37
  change Has w _ (wc.alloc (.cells #[.int .i64 M0, .int .i64 M1] 37)) at C16
  generalize wc.alloc (.cells #[.int .i64 M0, .int .i64 M1] 37) = w16 at *
  generalize wc.heap.size = T at *
  clear k0 k1 k2 k3 k4 k5 k6 k7 k8 k9 C15
  obtain ⟨⟨k0, k1, k2, k3, k4, k5, k6, k7⟩, -⟩ := C16.tail.tail.four
  obtain ⟨k8, k9⟩ := C16.tail.pt
  obtain ⟨k10, k11⟩ := C16.pt
  obtain ⟨s, hr⟩ : ∃ s, lexlt N0 N1 M0 M1 = s := ⟨_, rfl⟩
  have hL1 : s = true → H0 = N0 ∧ H1 = N1 := by
   intro h; rw [h] at hr
   have := HH.out; rw [(lex_lt hr).1] at this
   exact ⟨(congrArg Prod.fst this).symm, (congrArg Prod.snd this).symm⟩
  have hL2 : s = false → H0 = M0 ∧ H1 = M1 := by
   intro h; rw [h] at hr
   have := HH.out; rw [(lex_ge hr).1] at this
   exact ⟨(congrArg Prod.fst this).symm, (congrArg Prod.snd this).symm⟩
  have HS := Lib.hid hr
  have HM1 := Lib.hid hL1
  have HM2 := Lib.hid hL2
  clear hr hL1 hL2
  go_wp2_with fail
  refine (Has.call C16 (less_is _ _ _ _ _ HS.out _)).mono ?_
  rintro e w17 ⟨rfl, C17⟩
  clear k0 k1 k2 k3 k4 k5 k6 k7 k8 k9 k10 k11 C16
  obtain ⟨⟨k0, k1, k2, k3, k4, k5, k6, k7⟩, -⟩ := C17.tail.tail.four
  obtain ⟨k8, k9⟩ := C17.tail.pt
  obtain ⟨k10, k11⟩ := C17.pt
  obtain ⟨f0, f1⟩ := C17.ptf
  go_upto_if 122 with fail
  go_cut [123] (fun _ wx => Has w [(T, [.int .i64 H0, .int .i64 H1]), (F, [.int .i64 L0, .int .i64 L1]), (w.heap.size + 3, [.int .i64 N0, .int .i64 N1]), (w.heap.size + 2, [.int .i64 n0, .int .i64 n1]), (w.heap.size, [.int .i64 m0, .int .i64 m1]), (w.heap.size + 1, [.int .i64 M0, .int .i64 M1])] wx)
  case first =>
   cases s
   ·obtain ⟨rfl, rfl⟩ := HM2.out rfl
    go_wp2_with fail
    go_meet
    exact C17
   ·obtain ⟨rfl, rfl⟩ := HM1.out rfl
    go_wp2_with fail
    go_meet
    exact C17.set2 _ _
  case rest =>
   have C18 := hcut
   clear hcut C17 k0 k1 k2 k3 k4 k5 k6 k7 k8 k9 k10 k11 f0 f1
   obtain ⟨⟨k0, k1, k2, k3⟩, -⟩ := C18.two
   cases hq : lexlt H0 H1 L0 L1
   ·by_cases z0 : H0 = L0
    ·by_cases z1 : H1 = L1
     ·have HW := Lib.hid (show 1 = ovl2 (L0, L1) (H0, H1) by unfold ovl2; rw [if_pos (by rw [z0, z1])])
      have x0 : (H0 == L0) = true := by rw [z0]; simp
      have x1 : (H1 == L1) = true := by rw [z1]; simp
      have HQ := Lib.hid hq
      clear hq z0 z1
      go_wp2_with fail
      refine (Has.call C18 (less_is _ _ _ _ _ HQ.out _)).mono ?_
      rintro e w19 ⟨rfl, C19⟩
      clear k0 k1 k2 k3
      obtain ⟨⟨k0, k1, k2, k3⟩, -⟩ := C19.two
      go_wp2_with fail
      go_ret
      exact ⟨ret_i (HW.out.trans HV.out.symm), C19.low⟩
     ·have HW := Lib.hid (show 2 = ovl2 (L0, L1) (H0, H1) by unfold ovl2; rw [if_neg (by intro e; injection e with e1 e2; exact z1 e2.symm), if_pos (by rw [lexlt_no] at hq; rw [lexlt_iff]; omega)])
      have x0 : (H0 == L0) = true := by rw [z0]; simp
      have x1 : (H1 == L1) = false := by rw [beq_eq_false_iff_ne]; exact z1
      have HQ := Lib.hid hq
      clear hq z0 z1
      go_wp2_with fail
      refine (Has.call C18 (less_is _ _ _ _ _ HQ.out _)).mono ?_
      rintro e w19 ⟨rfl, C19⟩
      clear k0 k1 k2 k3
      obtain ⟨⟨k0, k1, k2, k3⟩, -⟩ := C19.two
      go_wp2_with fail
      go_ret
      exact ⟨ret_i (HW.out.trans HV.out.symm), C19.low⟩
    ·have HW := Lib.hid (show 2 = ovl2 (L0, L1) (H0, H1) by unfold ovl2; rw [if_neg (by intro e; injection e with e1 e2; exact z0 e1.symm), if_pos (by rw [lexlt_no] at hq; rw [lexlt_iff]; omega)])
     have x0 : (H0 == L0) = false := by rw [beq_eq_false_iff_ne]; exact z0
     have HQ := Lib.hid hq
     clear hq z0
     go_wp2_with fail
     refine (Has.call C18 (less_is _ _ _ _ _ HQ.out _)).mono ?_
     rintro e w19 ⟨rfl, C19⟩
     clear k0 k1 k2 k3
     obtain ⟨⟨k0, k1, k2, k3⟩, -⟩ := C19.two
     go_wp2_with fail
     go_ret
     exact ⟨ret_i (HW.out.trans HV.out.symm), C19.low⟩
   ·have HW := Lib.hid (show 0 = ovl2 (L0, L1) (H0, H1) by
     rw [lexlt_iff] at hq
     unfold ovl2; rw [if_neg (by intro e; injection e with e1 e2; omega), if_neg (by rw [lexlt_iff]; simp only; omega)])
    have HQ := Lib.hid hq
    clear hq
    go_wp2_with fail
    refine (Has.call C18 (less_is _ _ _ _ _ HQ.out _)).mono ?_
    rintro e w19 ⟨rfl, C19⟩
    clear k0 k1 k2 k3
    obtain ⟨⟨k0, k1, k2, k3⟩, -⟩ := C19.two
    go_wp2_with fail
    go_ret
    exact ⟨ret_i (HW.out.trans HV.out.symm), C19.low⟩

end Go.Proofs.YtoaldbjcpfkcjaaGreat

namespace Go.Proofs.YtoaldbjcpfkcjaaGreat
open Go.RowKit Go.Lib

set_option maxRecDepth 100000 in
set_option maxHeartbeats 8000000 in
theorem rmeet_skew (a0 a1 b0 b1 c0 c1 d0 d1 sA sB sC sD : Int) (w : World) (h0 : inl 1152921504606846976 a0 a1 = true) (h1 : inl 1152921504606846976 b0 b1 = true) (h2 : inl 1152921504606846976 c0 c1 = true) (h3 : inl 1152921504606846976 d0 d1 = true) (eA : sideOf c0 c1 d0 d1 a0 a1 = sA) (eB : sideOf c0 c1 d0 d1 b0 b1 = sB) (eC : sideOf a0 a1 b0 b1 c0 c1 = sC) (eD : sideOf a0 a1 b0 b1 d0 d1 = sD) (hs : ¬ (sA = 0 ∧ sB = 0 ∧ sC = 0 ∧ sD = 0)) :
  Calls Tryz.prog 49 #[.agg #[.int .i64 a0, .int .i64 a1], .agg #[.int .i64 b0, .int .i64 b1], .agg #[.int .i64 c0, .int .i64 c1], .agg #[.int .i64 d0, .int .i64 d1]] w fun e w' => e = .returned (.int .i64 (if sA * sB ≤ 0 ∧ sC * sD ≤ 0 then 1 else 0)) ∧ Below w.heap.size w w' := by
 have bA := sideOf_bd c0 c1 d0 d1 a0 a1
 have bB := sideOf_bd c0 c1 d0 d1 b0 b1
 have bC := sideOf_bd a0 a1 b0 b1 c0 c1
 have bD := sideOf_bd a0 a1 b0 b1 d0 d1
 rw [eA] at bA
 rw [eB] at bB
 rw [eC] at bC
 rw [eD] at bD
 have p1 := prod_bd bC bD
 have p2 := prod_bd bA bB
 have nab : sA * sB ≤ 0 → sC * sD ≤ 0 → ¬ (a0 = b0 ∧ a1 = b1) := by
  rintro q1 q2 ⟨rfl, rfl⟩
  have z1 := sideOf_same a0 a1 c0 c1
  have z2 := sideOf_same a0 a1 d0 d1
  rw [eC] at z1
  rw [eD] at z2
  rw [eA] at eB
  subst eB
  have := self_pos bA (by omega)
  omega
 have ncd : sA * sB ≤ 0 → sC * sD ≤ 0 → ¬ (c0 = d0 ∧ c1 = d1) := by
  rintro q1 q2 ⟨rfl, rfl⟩
  have z1 := sideOf_same c0 c1 a0 a1
  have z2 := sideOf_same c0 c1 b0 b1
  rw [eA] at z1
  rw [eB] at z2
  rw [eC] at eD
  subst eD
  have := self_pos bC (by omega)
  omega
 have NAB := Lib.hid nab
 have NCD := Lib.hid ncd
 clear nab ncd
 have EA := Lib.hid eA
 have EB := Lib.hid eB
 have EC := Lib.hid eC
 have ED := Lib.hid eD
 have HS := Lib.hid hs
 clear eA eB eC eD hs
 have H0 := Lib.hid h0
 have H1 := Lib.hid h1
 have H2 := Lib.hid h2
 have H3 := Lib.hid h3
 clear h0 h1 h2 h3
 have C0 := has4 (w := w) [.int .i64 a0, .int .i64 a1] [.int .i64 b0, .int .i64 b1] [.int .i64 c0, .int .i64 c1] [.int .i64 d0, .int .i64 d1] 37 37 37 37
 go_enter Tryz.func49, Tryz.ntmps49
 go_wp2_with fail
 change Has w _ ((((w.alloc (.cells #[.int .i64 a0, .int .i64 a1] 37)).alloc (.cells #[.int .i64 b0, .int .i64 b1] 37)).alloc (.cells #[.int .i64 c0, .int .i64 c1] 37)).alloc (.cells #[.int .i64 d0, .int .i64 d1] 37)) at C0
 generalize (((w.alloc (.cells #[.int .i64 a0, .int .i64 a1] 37)).alloc (.cells #[.int .i64 b0, .int .i64 b1] 37)).alloc (.cells #[.int .i64 c0, .int .i64 c1] 37)).alloc (.cells #[.int .i64 d0, .int .i64 d1] 37) = w0 at *
 obtain ⟨⟨k0, k1, k2, k3, k4, k5, k6, k7⟩, -⟩ := C0.four
 go_wp2_with fail
 refine (Has.call C0 (rbounded_is a0 a1 _ H0.out _)).mono ?_
 rintro e w1 ⟨rfl, C1⟩
 clear k0 k1 k2 k3 k4 k5 k6 k7
 obtain ⟨⟨k0, k1, k2, k3, k4, k5, k6, k7⟩, -⟩ := C1.four
 go_wp2_with fail
 refine (Has.call C1 (rbounded_is b0 b1 _ H1.out _)).mono ?_
 rintro e w2 ⟨rfl, C2⟩
 clear k0 k1 k2 k3 k4 k5 k6 k7
 obtain ⟨⟨k0, k1, k2, k3, k4, k5, k6, k7⟩, -⟩ := C2.four
 go_wp2_with fail
 refine (Has.call C2 (rbounded_is c0 c1 _ H2.out _)).mono ?_
 rintro e w3 ⟨rfl, C3⟩
 clear k0 k1 k2 k3 k4 k5 k6 k7
 obtain ⟨⟨k0, k1, k2, k3, k4, k5, k6, k7⟩, -⟩ := C3.four
 go_wp2_with fail
 refine (Has.call C3 (rbounded_is d0 d1 _ H3.out _)).mono ?_
 rintro e w4 ⟨rfl, C4⟩
 clear k0 k1 k2 k3 k4 k5 k6 k7
 obtain ⟨⟨k0, k1, k2, k3, k4, k5, k6, k7⟩, -⟩ := C4.four
 go_upto_region 3 with fail
 go_cut [9] (fun v wx => v = .bool false ∧ Has w [(w.heap.size, [.int .i64 a0, .int .i64 a1]), (w.heap.size + 1, [.int .i64 b0, .int .i64 b1]), (w.heap.size + 2, [.int .i64 c0, .int .i64 c1]), (w.heap.size + 3, [.int .i64 d0, .int .i64 d1])] wx)
 case first =>
  by_cases z1 : sC = 0
  ·have y1 : (sC == 0) = true := by rw [z1]; rfl
   by_cases z2 : sD = 0
   ·have y2 : (sD == 0) = true := by rw [z2]; rfl
    by_cases z3 : sA = 0
    ·have y3 : (sA == 0) = true := by rw [z3]; rfl
     have y4 : (sB == 0) = false := by rw [beq_eq_false_iff_ne]; exact fun z => HS.out ⟨z3, z, z1, z2⟩
     clear z1 z2 z3
     go_wp2_with fail
     refine (Has.call C4 (rside_is a0 a1 b0 b1 c0 c1 _ EC.out _)).mono ?_
     rintro e w5 ⟨rfl, C5⟩
     clear k0 k1 k2 k3 k4 k5 k6 k7
     obtain ⟨⟨k0, k1, k2, k3, k4, k5, k6, k7⟩, -⟩ := C5.four
     go_wp2_with fail
     refine (Has.call C5 (rside_is a0 a1 b0 b1 d0 d1 _ ED.out _)).mono ?_
     rintro e w6 ⟨rfl, C6⟩
     clear k0 k1 k2 k3 k4 k5 k6 k7
     obtain ⟨⟨k0, k1, k2, k3, k4, k5, k6, k7⟩, -⟩ := C6.four
     go_wp2_with fail
     refine (Has.call C6 (rside_is c0 c1 d0 d1 a0 a1 _ EA.out _)).mono ?_
     rintro e w7 ⟨rfl, C7⟩
     clear k0 k1 k2 k3 k4 k5 k6 k7
     obtain ⟨⟨k0, k1, k2, k3, k4, k5, k6, k7⟩, -⟩ := C7.four
     go_wp2_with fail
     refine (Has.call C7 (rside_is c0 c1 d0 d1 b0 b1 _ EB.out _)).mono ?_
     rintro e w8 ⟨rfl, C8⟩
     clear k0 k1 k2 k3 k4 k5 k6 k7
     obtain ⟨⟨k0, k1, k2, k3, k4, k5, k6, k7⟩, -⟩ := C8.four
     go_wp2_with fail
     go_meet
     exact ⟨rfl, C8⟩
    ·have y3 : (sA == 0) = false := by rw [beq_eq_false_iff_ne]; exact z3
     clear z1 z2 z3
     go_wp2_with fail
     refine (Has.call C4 (rside_is a0 a1 b0 b1 c0 c1 _ EC.out _)).mono ?_
     rintro e w5 ⟨rfl, C5⟩
     clear k0 k1 k2 k3 k4 k5 k6 k7
     obtain ⟨⟨k0, k1, k2, k3, k4, k5, k6, k7⟩, -⟩ := C5.four
     go_wp2_with fail
     refine (Has.call C5 (rside_is a0 a1 b0 b1 d0 d1 _ ED.out _)).mono ?_
     rintro e w6 ⟨rfl, C6⟩
     clear k0 k1 k2 k3 k4 k5 k6 k7
     obtain ⟨⟨k0, k1, k2, k3, k4, k5, k6, k7⟩, -⟩ := C6.four
     go_wp2_with fail
     refine (Has.call C6 (rside_is c0 c1 d0 d1 a0 a1 _ EA.out _)).mono ?_
     rintro e w7 ⟨rfl, C7⟩
     clear k0 k1 k2 k3 k4 k5 k6 k7
     obtain ⟨⟨k0, k1, k2, k3, k4, k5, k6, k7⟩, -⟩ := C7.four
     go_wp2_with fail
     go_meet
     exact ⟨rfl, C7⟩
   ·have y2 : (sD == 0) = false := by rw [beq_eq_false_iff_ne]; exact z2
    clear z1 z2
    go_wp2_with fail
    refine (Has.call C4 (rside_is a0 a1 b0 b1 c0 c1 _ EC.out _)).mono ?_
    rintro e w5 ⟨rfl, C5⟩
    clear k0 k1 k2 k3 k4 k5 k6 k7
    obtain ⟨⟨k0, k1, k2, k3, k4, k5, k6, k7⟩, -⟩ := C5.four
    go_wp2_with fail
    refine (Has.call C5 (rside_is a0 a1 b0 b1 d0 d1 _ ED.out _)).mono ?_
    rintro e w6 ⟨rfl, C6⟩
    clear k0 k1 k2 k3 k4 k5 k6 k7
    obtain ⟨⟨k0, k1, k2, k3, k4, k5, k6, k7⟩, -⟩ := C6.four
    go_wp2_with fail
    go_meet
    exact ⟨rfl, C6⟩
  ·have y1 : (sC == 0) = false := by rw [beq_eq_false_iff_ne]; exact z1
   clear z1
   go_wp2_with fail
   refine (Has.call C4 (rside_is a0 a1 b0 b1 c0 c1 _ EC.out _)).mono ?_
   rintro e w5 ⟨rfl, C5⟩
   clear k0 k1 k2 k3 k4 k5 k6 k7
   obtain ⟨⟨k0, k1, k2, k3, k4, k5, k6, k7⟩, -⟩ := C5.four
   go_wp2_with fail
   go_meet
   exact ⟨rfl, C5⟩
 case rest =>
  obtain ⟨rfl, D0⟩ := hcut
  clear C0 C1 C2 C3 C4 k0 k1 k2 k3 k4 k5 k6 k7
  obtain ⟨⟨k0, k1, k2, k3, k4, k5, k6, k7⟩, -⟩ := D0.four
  have m1 : IntKind.i64.wrap (sC * sD) = sC * sD := IntWalk.i64_in _ (by omega)
  have m2 : IntKind.i64.wrap (sA * sB) = sA * sB := IntWalk.i64_in _ (by omega)
  go_wp2_with fail
  by_cases q1 : sC * sD ≤ 0
  ·by_cases q2 : sA * sB ≤ 0
   ·have HV := Lib.hid (show (1 : Int) = if sA * sB ≤ 0 ∧ sC * sD ≤ 0 then 1 else 0 by rw [if_pos ⟨q2, q1⟩])
    have nab := NAB.out q2 q1
    have ncd := NCD.out q2 q1
    have NA := Lib.hid nab
    have NC := Lib.hid ncd
    clear nab ncd NAB NCD
    have x1 : decide (0 < sC * sD) = false := by simp; omega
    have x2 : decide (0 < sA * sB) = false := by simp; omega
    go_region_held3 (fun w' => (w'.cell? ⟨w.heap.size, 0, none⟩ = some (.int .i64 a0) ∧ w'.cell? ⟨w.heap.size, 1, none⟩ = some (.int .i64 a1) ∧ w'.cell? ⟨w.heap.size + 1, 0, none⟩ = some (.int .i64 b0) ∧ w'.cell? ⟨w.heap.size + 1, 1, none⟩ = some (.int .i64 b1) ∧ w'.cell? ⟨w.heap.size + 2, 0, none⟩ = some (.int .i64 c0) ∧ w'.cell? ⟨w.heap.size + 2, 1, none⟩ = some (.int .i64 c1) ∧ w'.cell? ⟨w.heap.size + 3, 0, none⟩ = some (.int .i64 d0) ∧ w'.cell? ⟨w.heap.size + 3, 1, none⟩ = some (.int .i64 d1)) ∧ Has w [(w.heap.size, [.int .i64 a0, .int .i64 a1]), (w.heap.size + 1, [.int .i64 b0, .int .i64 b1]), (w.heap.size + 2, [.int .i64 c0, .int .i64 c1]), (w.heap.size + 3, [.int .i64 d0, .int .i64 d1])] w')
     (first | exact D0.drew.four | exact Has.four (by assumption))
     (first
      | (go_at_call 76; (with_reducible refine (Has.call (by first | assumption | exact And.right (by assumption)) (rside_is a0 a1 b0 b1 c0 c1 _ EC.out _)).mono ?_); rintro e w' ⟨rfl, hC⟩)
      | (go_at_call 76; (with_reducible refine (Has.call (by first | assumption | exact And.right (by assumption)) (rside_is a0 a1 b0 b1 d0 d1 _ ED.out _)).mono ?_); rintro e w' ⟨rfl, hC⟩)
      | (go_at_call 76; (with_reducible refine (Has.call (by first | assumption | exact And.right (by assumption)) (rside_is c0 c1 d0 d1 a0 a1 _ EA.out _)).mono ?_); rintro e w' ⟨rfl, hC⟩)
      | (go_at_call 76; (with_reducible refine (Has.call (by first | assumption | exact And.right (by assumption)) (rside_is c0 c1 d0 d1 b0 b1 _ EB.out _)).mono ?_); rintro e w' ⟨rfl, hC⟩))
    have D1 : Has w [(w.heap.size, [.int .i64 a0, .int .i64 a1]), (w.heap.size + 1, [.int .i64 b0, .int .i64 b1]), (w.heap.size + 2, [.int .i64 c0, .int .i64 c1]), (w.heap.size + 3, [.int .i64 d0, .int .i64 d1])] _ := hC
    clear k0 k1 k2 k3 k4 k5 k6 k7
    obtain ⟨⟨k0, k1, k2, k3, k4, k5, k6, k7⟩, -⟩ := D1.four
    have hab : (a0 == b0) = false ∨ ((a0 == b0) = true ∧ (a1 == b1) = false) := by
     by_cases z : a0 = b0
     ·exact Or.inr ⟨by rw [z]; simp, by rw [beq_eq_false_iff_ne]; exact fun y => NA.out ⟨z, y⟩⟩
     ·exact Or.inl (by rw [beq_eq_false_iff_ne]; exact z)
    have hcd : (c0 == d0) = false ∨ ((c0 == d0) = true ∧ (c1 == d1) = false) := by
     by_cases z : c0 = d0
     ·exact Or.inr ⟨by rw [z]; simp, by rw [beq_eq_false_iff_ne]; exact fun y => NC.out ⟨z, y⟩⟩
     ·exact Or.inl (by rw [beq_eq_false_iff_ne]; exact z)
    rcases hab with r1 | ⟨r1, r2⟩ <;> rcases hcd with r3 | ⟨r3, r4⟩
    all_goals
     go_wp2_with fail
     go_ret
     first | exact ⟨ret_i HV.out, D1.low⟩ | exact ⟨rfl, D1.low⟩
   ·have HV := Lib.hid (show (0 : Int) = if sA * sB ≤ 0 ∧ sC * sD ≤ 0 then 1 else 0 by rw [if_neg (fun z => q2 z.1)])
    have x1 : decide (0 < sC * sD) = false := by simp; omega
    have x2 : decide (0 < sA * sB) = true := by simp; omega
    go_region_held3 (fun w' => (w'.cell? ⟨w.heap.size, 0, none⟩ = some (.int .i64 a0) ∧ w'.cell? ⟨w.heap.size, 1, none⟩ = some (.int .i64 a1) ∧ w'.cell? ⟨w.heap.size + 1, 0, none⟩ = some (.int .i64 b0) ∧ w'.cell? ⟨w.heap.size + 1, 1, none⟩ = some (.int .i64 b1) ∧ w'.cell? ⟨w.heap.size + 2, 0, none⟩ = some (.int .i64 c0) ∧ w'.cell? ⟨w.heap.size + 2, 1, none⟩ = some (.int .i64 c1) ∧ w'.cell? ⟨w.heap.size + 3, 0, none⟩ = some (.int .i64 d0) ∧ w'.cell? ⟨w.heap.size + 3, 1, none⟩ = some (.int .i64 d1)) ∧ Has w [(w.heap.size, [.int .i64 a0, .int .i64 a1]), (w.heap.size + 1, [.int .i64 b0, .int .i64 b1]), (w.heap.size + 2, [.int .i64 c0, .int .i64 c1]), (w.heap.size + 3, [.int .i64 d0, .int .i64 d1])] w')
     (first | exact D0.drew.four | exact Has.four (by assumption))
     (first
      | (go_at_call 76; (with_reducible refine (Has.call (by first | assumption | exact And.right (by assumption)) (rside_is a0 a1 b0 b1 c0 c1 _ EC.out _)).mono ?_); rintro e w' ⟨rfl, hC⟩)
      | (go_at_call 76; (with_reducible refine (Has.call (by first | assumption | exact And.right (by assumption)) (rside_is a0 a1 b0 b1 d0 d1 _ ED.out _)).mono ?_); rintro e w' ⟨rfl, hC⟩)
      | (go_at_call 76; (with_reducible refine (Has.call (by first | assumption | exact And.right (by assumption)) (rside_is c0 c1 d0 d1 a0 a1 _ EA.out _)).mono ?_); rintro e w' ⟨rfl, hC⟩)
      | (go_at_call 76; (with_reducible refine (Has.call (by first | assumption | exact And.right (by assumption)) (rside_is c0 c1 d0 d1 b0 b1 _ EB.out _)).mono ?_); rintro e w' ⟨rfl, hC⟩))
    have D1 : Has w [(w.heap.size, [.int .i64 a0, .int .i64 a1]), (w.heap.size + 1, [.int .i64 b0, .int .i64 b1]), (w.heap.size + 2, [.int .i64 c0, .int .i64 c1]), (w.heap.size + 3, [.int .i64 d0, .int .i64 d1])] _ := hC
    clear k0 k1 k2 k3 k4 k5 k6 k7
    obtain ⟨⟨k0, k1, k2, k3, k4, k5, k6, k7⟩, -⟩ := D1.four
    go_wp2_with fail
    go_ret
    first | exact ⟨ret_i HV.out, D1.low⟩ | exact ⟨rfl, D1.low⟩
  ·have HV := Lib.hid (show (0 : Int) = if sA * sB ≤ 0 ∧ sC * sD ≤ 0 then 1 else 0 by rw [if_neg (fun z => q1 z.2)])
   have x1 : decide (0 < sC * sD) = true := by simp; omega
   have x2 : 0 < sC * sD := by omega
   refine wp_region_held_drew (S := (fun w' => (w'.cell? ⟨w.heap.size, 0, none⟩ = some (.int .i64 a0) ∧ w'.cell? ⟨w.heap.size, 1, none⟩ = some (.int .i64 a1) ∧ w'.cell? ⟨w.heap.size + 1, 0, none⟩ = some (.int .i64 b0) ∧ w'.cell? ⟨w.heap.size + 1, 1, none⟩ = some (.int .i64 b1) ∧ w'.cell? ⟨w.heap.size + 2, 0, none⟩ = some (.int .i64 c0) ∧ w'.cell? ⟨w.heap.size + 2, 1, none⟩ = some (.int .i64 c1) ∧ w'.cell? ⟨w.heap.size + 3, 0, none⟩ = some (.int .i64 d0) ∧ w'.cell? ⟨w.heap.size + 3, 1, none⟩ = some (.int .i64 d1)) ∧ Has w [(w.heap.size, [.int .i64 a0, .int .i64 a1]), (w.heap.size + 1, [.int .i64 b0, .int .i64 b1]), (w.heap.size + 2, [.int .i64 c0, .int .i64 c1]), (w.heap.size + 3, [.int .i64 d0, .int .i64 d1])] w')) (by kernel_rfl) (D0.drew.four) (fun hHeld => ?_)
   refine tbA [0, 1, 2, 4, 5, 6] ?_
   refine tkA (.agg #[.int .i64 a0, .int .i64 a1]) (oi := ⟨some 58, .load 37 (.tmp 4), 37, _, _, none⟩) ?_
   simp only [Act.put, pA, pB, pC]
   refine tkA (.agg #[.int .i64 b0, .int .i64 b1]) (oi := ⟨some 59, .load 37 (.tmp 5), 37, _, _, none⟩) ?_
   simp only [Act.put, pA, pB, pC]
   refine tkA (.agg #[.int .i64 c0, .int .i64 c1]) (oi := ⟨some 60, .load 37 (.tmp 6), 37, _, _, none⟩) ?_
   simp only [Act.put, pA, pB, pC]
   refine tkA (.agg #[.int .i64 a0, .int .i64 a1]) (oi := ⟨some 62, .load 37 (.tmp 4), 37, _, _, none⟩) ?_
   simp only [Act.put, pA, pB, pC]
   refine tkA (.agg #[.int .i64 b0, .int .i64 b1]) (oi := ⟨some 63, .load 37 (.tmp 5), 37, _, _, none⟩) ?_
   simp only [Act.put, pA, pB, pC]
   refine tkA (.agg #[.int .i64 d0, .int .i64 d1]) (oi := ⟨some 64, .load 37 (.tmp 7), 37, _, _, none⟩) ?_
   simp only [Act.put, pA, pB, pC]
   refine teA ?_
   refine tlA #[true, true, true, false, true, true, true, false, false, false, false, false, false, false, false, false, false, false, false, false, false, false] ?_
   refine trA [3] ?_
   refine AllReadyH.cons (o := ⟨some 61, .call { callee := .value (.func 76), args := #[.tmp 58, .tmp 59, .tmp 60], argTypes := #[37, 37, 37] }, 3, _, _, none⟩) rfl (fun K hK => ?_) AllReadyH.nil
   go_simp
   go_at_call 76
   refine (Has.call hHeld.2 (rside_is a0 a1 b0 b1 c0 c1 _ EC.out _)).mono ?_
   rintro e W1 ⟨rfl, hC⟩
   go_wp2_with fail
   clear hHeld
   refine hK.out _ _ (Has.four hC) (fun hHeld => ?_)
   clear hK K
   try simp only [pA, pB, pC]
   refine tlA #[true, true, true, true, true, true, true, false, false, false, false, false, false, false, false, false, false, false, false, false, false, false] ?_
   refine trA [7] ?_
   refine AllReadyH.cons (o := ⟨some 65, .call { callee := .value (.func 76), args := #[.tmp 62, .tmp 63, .tmp 64], argTypes := #[37, 37, 37] }, 3, _, _, none⟩) rfl (fun K hK => ?_) AllReadyH.nil
   go_simp
   go_at_call 76
   refine (Has.call hHeld.2 (rside_is a0 a1 b0 b1 d0 d1 _ ED.out _)).mono ?_
   rintro e W2 ⟨rfl, hC⟩
   go_wp2_with fail
   clear hHeld
   refine hK.out _ _ (Has.four hC) (fun hHeld => ?_)
   clear hK K
   try simp only [pA, pB, pC]
   refine tlA #[true, true, true, true, true, true, true, true, false, false, false, false, false, false, false, false, false, false, false, false, false, false] ?_
   refine tbA [8, 9, 10] ?_
   refine tkA (.int .i64 (sC * sD)) (oi := ⟨some 66, .binOp .mul 3 (.tmp 61) (.tmp 65) 3, 3, _, _, none⟩) ?_
   simp only [Act.put, pA, pB, pC]
   refine tkA (.bool true) (oi := ⟨some 67, .binOp .gtr 3 (.tmp 66) (.const (.int .i64 0)) 3, 4, _, _, none⟩) ?_
   simp only [Act.put, pA, pB, pC]
   refine tkA (.bool true) (oi := ⟨some 68, .move (.tmp 67), 4, _, _, none⟩) ?_
   simp only [Act.put, pA, pB, pC]
   refine teA ?_
   refine tlA #[true, true, true, true, true, true, true, true, true, true, true, false, false, false, false, false, false, false, false, false, false, false] ?_
   refine tbA [11, 12, 13, 14, 15, 16] ?_
   refine wpAnyT_skip (oi := ⟨some 69, .load 37 (.tmp 6), 37, _, _, some (10, false)⟩) rfl (fun _ _ _ h => h) (by rfl) (by assumption) ?_
   simp only [Act.put, pA, pB, pC]
   refine wpAnyT_skip (oi := ⟨some 70, .load 37 (.tmp 7), 37, _, _, some (10, false)⟩) rfl (fun _ _ _ h => h) (by rfl) (by assumption) ?_
   simp only [Act.put, pA, pB, pC]
   refine wpAnyT_skip (oi := ⟨some 71, .load 37 (.tmp 4), 37, _, _, some (10, false)⟩) rfl (fun _ _ _ h => h) (by rfl) (by assumption) ?_
   simp only [Act.put, pA, pB, pC]
   refine wpAnyT_skip (oi := ⟨some 72, .call { callee := .value (.func 76), args := #[.tmp 69, .tmp 70, .tmp 71], argTypes := #[37, 37, 37] }, 3, _, _, some (10, false)⟩) rfl (fun _ _ _ h => h) (by rfl) (by assumption) ?_
   simp only [Act.put, pA, pB, pC]
   refine wpAnyT_skip (oi := ⟨some 73, .load 37 (.tmp 6), 37, _, _, some (10, false)⟩) rfl (fun _ _ _ h => h) (by rfl) (by assumption) ?_
   simp only [Act.put, pA, pB, pC]
   refine wpAnyT_skip (oi := ⟨some 74, .load 37 (.tmp 7), 37, _, _, some (10, false)⟩) rfl (fun _ _ _ h => h) (by rfl) (by assumption) ?_
   simp only [Act.put, pA, pB, pC]
   refine teA ?_
   refine tlA #[true, true, true, true, true, true, true, true, true, true, true, true, true, true, true, true, true, false, false, false, false, false] ?_
   refine tbA [17, 18, 19, 20] ?_
   refine wpAnyT_skip (oi := ⟨some 75, .load 37 (.tmp 5), 37, _, _, some (10, false)⟩) rfl (fun _ _ _ h => h) (by rfl) (by assumption) ?_
   simp only [Act.put, pA, pB, pC]
   refine wpAnyT_skip (oi := ⟨some 76, .call { callee := .value (.func 76), args := #[.tmp 73, .tmp 74, .tmp 75], argTypes := #[37, 37, 37] }, 3, _, _, some (10, false)⟩) rfl (fun _ _ _ h => h) (by rfl) (by assumption) ?_
   simp only [Act.put, pA, pB, pC]
   refine wpAnyT_skip (oi := ⟨some 77, .binOp .mul 3 (.tmp 72) (.tmp 76) 3, 3, _, _, some (10, false)⟩) rfl (fun _ _ _ h => h) (by rfl) (by assumption) ?_
   simp only [Act.put, pA, pB, pC]
   refine wpAnyT_skip (oi := ⟨some 78, .binOp .gtr 3 (.tmp 77) (.const (.int .i64 0)) 3, 4, _, _, some (10, false)⟩) rfl (fun _ _ _ h => h) (by rfl) (by assumption) ?_
   simp only [Act.put, pA, pB, pC]
   refine teA ?_
   refine tlA #[true, true, true, true, true, true, true, true, true, true, true, true, true, true, true, true, true, true, true, true, true, false] ?_
   refine tbA [21] ?_
   refine tkA (.bool true) (oi := ⟨some 79, .pick (.tmp 68) (.const (.bool true)) (.tmp 78), 4, _, _, none⟩) ?_
   simp only [Act.put, pA, pB, pC]
   refine teA ?_
   refine tlA #[true, true, true, true, true, true, true, true, true, true, true, true, true, true, true, true, true, true, true, true, true, true] ?_
   refine wpAnyH_done (by kernel_rfl) ?_ _
   have D1 : Has w [(w.heap.size, [.int .i64 a0, .int .i64 a1]), (w.heap.size + 1, [.int .i64 b0, .int .i64 b1]), (w.heap.size + 2, [.int .i64 c0, .int .i64 c1]), (w.heap.size + 3, [.int .i64 d0, .int .i64 d1])] _ := hHeld.2
   clear k0 k1 k2 k3 k4 k5 k6 k7
   go_wp2_with fail
   go_ret
   first | exact ⟨ret_i HV.out, D1.low⟩ | exact ⟨rfl, D1.low⟩


end Go.Proofs.YtoaldbjcpfkcjaaGreat

namespace Go.Proofs.YtoaldbjcpfkcjaaGreat
open Go.RowKit Go.Lib

theorem rmeet_any (a0 a1 b0 b1 c0 c1 d0 d1 : Int) (w : World) :
  Calls Tryz.prog 49 #[.agg #[.int .i64 a0, .int .i64 a1], .agg #[.int .i64 b0, .int .i64 b1], .agg #[.int .i64 c0, .int .i64 c1], .agg #[.int .i64 d0, .int .i64 d1]] w fun e w' => e = .returned (.int .i64 (meetOf a0 a1 b0 b1 c0 c1 d0 d1)) ∧ Below w.heap.size w w' := by
 by_cases h : inl 1152921504606846976 a0 a1 = true ∧ inl 1152921504606846976 b0 b1 = true ∧ inl 1152921504606846976 c0 c1 = true ∧ inl 1152921504606846976 d0 d1 = true
 ·obtain ⟨h0, h1, h2, h3⟩ := h
  rw [meet_yes h0 h1 h2 h3 rfl rfl rfl rfl rfl]
  by_cases hs : sideOf c0 c1 d0 d1 a0 a1 = 0 ∧ sideOf c0 c1 d0 d1 b0 b1 = 0 ∧ sideOf a0 a1 b0 b1 c0 c1 = 0 ∧ sideOf a0 a1 b0 b1 d0 d1 = 0
  ·unfold meetS
   rw [if_pos hs]
   exact rmeet_flat a0 a1 b0 b1 c0 c1 d0 d1 w h0 h1 h2 h3 hs.1 hs.2.1 hs.2.2.1 hs.2.2.2
  ·unfold meetS
   rw [if_neg hs]
   exact rmeet_skew a0 a1 b0 b1 c0 c1 d0 d1 _ _ _ _ w h0 h1 h2 h3 rfl rfl rfl rfl hs
 ·exact rmeet_no a0 a1 b0 b1 c0 c1 d0 d1 w h
theorem rmeet_is (a0 a1 b0 b1 c0 c1 d0 d1 s : Int) (h : meetOf a0 a1 b0 b1 c0 c1 d0 d1 = s) (w : World) :
  Calls Tryz.prog 49 #[.agg #[.int .i64 a0, .int .i64 a1], .agg #[.int .i64 b0, .int .i64 b1], .agg #[.int .i64 c0, .int .i64 c1], .agg #[.int .i64 d0, .int .i64 d1]] w fun e w' => e = .returned (.int .i64 s) ∧ Below w.heap.size w w' := h ▸ rmeet_any a0 a1 b0 b1 c0 c1 d0 d1 w

end Go.Proofs.YtoaldbjcpfkcjaaGreat
