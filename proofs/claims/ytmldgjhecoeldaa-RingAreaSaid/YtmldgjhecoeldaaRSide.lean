/- Side of the reference. -/
import Derived.Test.YtmldgjhecoeldaaBd
namespace Go.Proofs.Ytmldgjhecoeldaa
open Go.RowKit Go.Lib

set_option maxHeartbeats 4000000 in
theorem rside_any (a0 a1 b0 b1 p0 p1 : Int) (w : World) :
    Calls Try.prog 42 #[.agg #[.int .i64 a0, .int .i64 a1], .agg #[.int .i64 b0, .int .i64 b1], .agg #[.int .i64 p0, .int .i64 p1]] w fun e w' => e = .returned (.int .i64 (sideOf a0 a1 b0 b1 p0 p1)) ∧ Below w.heap.size w w' := by
  have C0 := has3 (w := w) [.int .i64 a0, .int .i64 a1] [.int .i64 b0, .int .i64 b1] [.int .i64 p0, .int .i64 p1] 24 24 24
  cases h0 : inl 1152921504606846976 a0 a1
  · have HV := Lib.hid (sideOf_no0 a0 a1 b0 b1 p0 p1 h0)
    have H0 := Lib.hid h0
    clear h0
    go_enter Try.func42, Try.ntmps42
    go_wp2_with fail
    change Has w _ (((w.alloc (.cells #[.int .i64 a0, .int .i64 a1] 24)).alloc (.cells #[.int .i64 b0, .int .i64 b1] 24)).alloc (.cells #[.int .i64 p0, .int .i64 p1] 24)) at C0
    generalize ((w.alloc (.cells #[.int .i64 a0, .int .i64 a1] 24)).alloc (.cells #[.int .i64 b0, .int .i64 b1] 24)).alloc (.cells #[.int .i64 p0, .int .i64 p1] 24) = w0 at *
    obtain ⟨⟨k0, k1, k2, k3, k4, k5⟩, -⟩ := C0.three
    go_wp2_with fail
    refine (Has.call C0 (rbounded_is a0 a1 _ H0.out _)).mono ?_
    rintro e w1 ⟨rfl, C1⟩
    clear k0 k1 k2 k3 k4 k5
    obtain ⟨⟨k0, k1, k2, k3, k4, k5⟩, -⟩ := C1.three
    go_wp2_with fail
    go_ret
    exact ⟨ret_i HV.out, C1.low⟩
  · skip
    cases h1 : inl 1152921504606846976 b0 b1
    · have HV := Lib.hid (sideOf_no1 a0 a1 b0 b1 p0 p1 h1)
      have H0 := Lib.hid h0
      have H1 := Lib.hid h1
      clear h0 h1
      go_enter Try.func42, Try.ntmps42
      go_wp2_with fail
      change Has w _ (((w.alloc (.cells #[.int .i64 a0, .int .i64 a1] 24)).alloc (.cells #[.int .i64 b0, .int .i64 b1] 24)).alloc (.cells #[.int .i64 p0, .int .i64 p1] 24)) at C0
      generalize ((w.alloc (.cells #[.int .i64 a0, .int .i64 a1] 24)).alloc (.cells #[.int .i64 b0, .int .i64 b1] 24)).alloc (.cells #[.int .i64 p0, .int .i64 p1] 24) = w0 at *
      obtain ⟨⟨k0, k1, k2, k3, k4, k5⟩, -⟩ := C0.three
      go_wp2_with fail
      refine (Has.call C0 (rbounded_is a0 a1 _ H0.out _)).mono ?_
      rintro e w1 ⟨rfl, C1⟩
      clear k0 k1 k2 k3 k4 k5
      obtain ⟨⟨k0, k1, k2, k3, k4, k5⟩, -⟩ := C1.three
      go_wp2_with fail
      refine (Has.call C1 (rbounded_is b0 b1 _ H1.out _)).mono ?_
      rintro e w2 ⟨rfl, C2⟩
      clear k0 k1 k2 k3 k4 k5
      obtain ⟨⟨k0, k1, k2, k3, k4, k5⟩, -⟩ := C2.three
      go_wp2_with fail
      go_ret
      exact ⟨ret_i HV.out, C2.low⟩
    · skip
      cases h2 : inl 1152921504606846976 p0 p1
      · have HV := Lib.hid (sideOf_no2 a0 a1 b0 b1 p0 p1 h2)
        have H0 := Lib.hid h0
        have H1 := Lib.hid h1
        have H2 := Lib.hid h2
        clear h0 h1 h2
        go_enter Try.func42, Try.ntmps42
        go_wp2_with fail
        change Has w _ (((w.alloc (.cells #[.int .i64 a0, .int .i64 a1] 24)).alloc (.cells #[.int .i64 b0, .int .i64 b1] 24)).alloc (.cells #[.int .i64 p0, .int .i64 p1] 24)) at C0
        generalize ((w.alloc (.cells #[.int .i64 a0, .int .i64 a1] 24)).alloc (.cells #[.int .i64 b0, .int .i64 b1] 24)).alloc (.cells #[.int .i64 p0, .int .i64 p1] 24) = w0 at *
        obtain ⟨⟨k0, k1, k2, k3, k4, k5⟩, -⟩ := C0.three
        go_wp2_with fail
        refine (Has.call C0 (rbounded_is a0 a1 _ H0.out _)).mono ?_
        rintro e w1 ⟨rfl, C1⟩
        clear k0 k1 k2 k3 k4 k5
        obtain ⟨⟨k0, k1, k2, k3, k4, k5⟩, -⟩ := C1.three
        go_wp2_with fail
        refine (Has.call C1 (rbounded_is b0 b1 _ H1.out _)).mono ?_
        rintro e w2 ⟨rfl, C2⟩
        clear k0 k1 k2 k3 k4 k5
        obtain ⟨⟨k0, k1, k2, k3, k4, k5⟩, -⟩ := C2.three
        go_wp2_with fail
        refine (Has.call C2 (rbounded_is p0 p1 _ H2.out _)).mono ?_
        rintro e w3 ⟨rfl, C3⟩
        clear k0 k1 k2 k3 k4 k5
        obtain ⟨⟨k0, k1, k2, k3, k4, k5⟩, -⟩ := C3.three
        go_wp2_with fail
        go_ret
        exact ⟨ret_i HV.out, C3.low⟩
      · skip
        have HV := Lib.hid (sideOf_yes a0 a1 b0 b1 p0 p1 h0 h1 h2)
        have B := inl_all h0 h1 h2
        have H0 := Lib.hid h0
        have H1 := Lib.hid h1
        have H2 := Lib.hid h2
        have HB := Lib.hid B
        clear h0 h1 h2 B
        go_enter Try.func42, Try.ntmps42
        go_wp2_with fail
        change Has w _ (((w.alloc (.cells #[.int .i64 a0, .int .i64 a1] 24)).alloc (.cells #[.int .i64 b0, .int .i64 b1] 24)).alloc (.cells #[.int .i64 p0, .int .i64 p1] 24)) at C0
        generalize ((w.alloc (.cells #[.int .i64 a0, .int .i64 a1] 24)).alloc (.cells #[.int .i64 b0, .int .i64 b1] 24)).alloc (.cells #[.int .i64 p0, .int .i64 p1] 24) = w0 at *
        obtain ⟨⟨k0, k1, k2, k3, k4, k5⟩, -⟩ := C0.three
        go_wp2_with fail
        refine (Has.call C0 (rbounded_is a0 a1 _ H0.out _)).mono ?_
        rintro e w1 ⟨rfl, C1⟩
        clear k0 k1 k2 k3 k4 k5
        obtain ⟨⟨k0, k1, k2, k3, k4, k5⟩, -⟩ := C1.three
        go_wp2_with fail
        refine (Has.call C1 (rbounded_is b0 b1 _ H1.out _)).mono ?_
        rintro e w2 ⟨rfl, C2⟩
        clear k0 k1 k2 k3 k4 k5
        obtain ⟨⟨k0, k1, k2, k3, k4, k5⟩, -⟩ := C2.three
        go_wp2_with fail
        refine (Has.call C2 (rbounded_is p0 p1 _ H2.out _)).mono ?_
        rintro e w3 ⟨rfl, C3⟩
        clear k0 k1 k2 k3 k4 k5
        obtain ⟨⟨k0, k1, k2, k3, k4, k5⟩, -⟩ := C3.three
        go_wp2_with fail
        refine (Has.call C3 (rsub_bd b0 b1 a0 a1 _ HB.out.1 HB.out.2.1)).mono ?_
        rintro e w4 ⟨rfl, C4⟩
        clear k0 k1 k2 k3 k4 k5
        obtain ⟨⟨k0, k1, k2, k3, k4, k5⟩, -⟩ := C4.three
        go_upto_region 4 with fail
        have C5 := C4.push [.int .i64 (b0 - a0), .int .i64 (b1 - a1)] 24
        change Has w _ (w4.alloc (.cells #[.int .i64 (b0 - a0), .int .i64 (b1 - a1)] 24)) at C5
        generalize w4.alloc (.cells #[.int .i64 (b0 - a0), .int .i64 (b1 - a1)] 24) = w5 at *
        generalize w4.heap.size = P at *
        clear k0 k1 k2 k3 k4 k5
        obtain ⟨⟨k0, k1, k2, k3, k4, k5⟩, -⟩ := C5.tail.three
        go_wp2_with fail
        refine (Has.call C5 (rsub_bd p0 p1 a0 a1 _ HB.out.2.2.1 HB.out.2.1)).mono ?_
        rintro e w6 ⟨rfl, C6⟩
        clear k0 k1 k2 k3 k4 k5
        go_upto_region 5 with fail
        have C7 := C6.push [.int .i64 (p0 - a0), .int .i64 (p1 - a1)] 24
        change Has w _ (w6.alloc (.cells #[.int .i64 (p0 - a0), .int .i64 (p1 - a1)] 24)) at C7
        generalize w6.alloc (.cells #[.int .i64 (p0 - a0), .int .i64 (p1 - a1)] 24) = w7 at *
        generalize w6.heap.size = Q at *
        obtain ⟨⟨k0, k1, k2, k3⟩, -⟩ := C7.two
        go_wp2_with fail
        refine (Has.call C7 (rsign2_any _ _ _ _ _ HB.out.2.2.2.1 HB.out.2.2.2.2.1 HB.out.2.2.2.2.2.1 HB.out.2.2.2.2.2.2)).mono ?_
        rintro e w8 ⟨rfl, C8⟩
        go_wp2_with fail
        go_ret
        exact ⟨ret_i HV.out, C8.low⟩

theorem rside_is (a0 a1 b0 b1 p0 p1 s : Int) (h : sideOf a0 a1 b0 b1 p0 p1 = s) (w : World) :
    Calls Try.prog 42 #[.agg #[.int .i64 a0, .int .i64 a1], .agg #[.int .i64 b0, .int .i64 b1], .agg #[.int .i64 p0, .int .i64 p1]] w fun e w' => e = .returned (.int .i64 s) ∧ Below w.heap.size w w' := h ▸ rside_any a0 a1 b0 b1 p0 p1 w

end Go.Proofs.Ytmldgjhecoeldaa
