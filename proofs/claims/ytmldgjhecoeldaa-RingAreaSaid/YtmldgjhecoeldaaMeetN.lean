/- Meet, where a point is not bounded. -/
import Derived.Test.YtmldgjhecoeldaaMeetD
namespace Go.Proofs.Ytmldgjhecoeldaa
open Go.RowKit Go.Lib

set_option maxHeartbeats 4000000 in
theorem meet_no (a0 a1 b0 b1 c0 c1 d0 d1 : Int) (w : World) (h : ¬ (inl 1152921504606846976 a0 a1 = true ∧ inl 1152921504606846976 b0 b1 = true ∧ inl 1152921504606846976 c0 c1 = true ∧ inl 1152921504606846976 d0 d1 = true)) :
    Calls Try.prog 98 #[.agg #[.int .i64 a0, .int .i64 a1], .agg #[.int .i64 b0, .int .i64 b1], .agg #[.int .i64 c0, .int .i64 c1], .agg #[.int .i64 d0, .int .i64 d1]] w fun e w' => e = .returned (.int .i64 (meetOf a0 a1 b0 b1 c0 c1 d0 d1)) ∧ Below w.heap.size w w' := by
  have C0 := has4 (w := w) [.int .i64 a0, .int .i64 a1] [.int .i64 b0, .int .i64 b1] [.int .i64 c0, .int .i64 c1] [.int .i64 d0, .int .i64 d1] 24 24 24 24
  cases h0 : inl 1152921504606846976 a0 a1
  · have HV := Lib.hid (meet_no0 (a0 := a0) (a1 := a1) (b0 := b0) (b1 := b1) (c0 := c0) (c1 := c1) (d0 := d0) (d1 := d1) h0)
    have H0 := Lib.hid h0
    clear h h0
    go_enter Try.func98, Try.ntmps98
    go_wp2_with fail
    change Has w _ ((((w.alloc (.cells #[.int .i64 a0, .int .i64 a1] 24)).alloc (.cells #[.int .i64 b0, .int .i64 b1] 24)).alloc (.cells #[.int .i64 c0, .int .i64 c1] 24)).alloc (.cells #[.int .i64 d0, .int .i64 d1] 24)) at C0
    generalize (((w.alloc (.cells #[.int .i64 a0, .int .i64 a1] 24)).alloc (.cells #[.int .i64 b0, .int .i64 b1] 24)).alloc (.cells #[.int .i64 c0, .int .i64 c1] 24)).alloc (.cells #[.int .i64 d0, .int .i64 d1] 24) = w0 at *
    obtain ⟨⟨k0, k1, k2, k3, k4, k5, k6, k7⟩, -⟩ := C0.four
    go_wp2_with fail
    refine (Has.call C0 (bounded_is a0 a1 _ H0.out _)).mono ?_
    rintro e w1 ⟨rfl, C1⟩
    clear k0 k1 k2 k3 k4 k5 k6 k7
    obtain ⟨⟨k0, k1, k2, k3, k4, k5, k6, k7⟩, -⟩ := C1.four
    go_wp2_with fail
    go_ret
    exact ⟨ret_i HV.out, C1.low⟩
  · skip
    cases h1 : inl 1152921504606846976 b0 b1
    · have HV := Lib.hid (meet_no1 (a0 := a0) (a1 := a1) (b0 := b0) (b1 := b1) (c0 := c0) (c1 := c1) (d0 := d0) (d1 := d1) h1)
      have H0 := Lib.hid h0
      have H1 := Lib.hid h1
      clear h h0 h1
      go_enter Try.func98, Try.ntmps98
      go_wp2_with fail
      change Has w _ ((((w.alloc (.cells #[.int .i64 a0, .int .i64 a1] 24)).alloc (.cells #[.int .i64 b0, .int .i64 b1] 24)).alloc (.cells #[.int .i64 c0, .int .i64 c1] 24)).alloc (.cells #[.int .i64 d0, .int .i64 d1] 24)) at C0
      generalize (((w.alloc (.cells #[.int .i64 a0, .int .i64 a1] 24)).alloc (.cells #[.int .i64 b0, .int .i64 b1] 24)).alloc (.cells #[.int .i64 c0, .int .i64 c1] 24)).alloc (.cells #[.int .i64 d0, .int .i64 d1] 24) = w0 at *
      obtain ⟨⟨k0, k1, k2, k3, k4, k5, k6, k7⟩, -⟩ := C0.four
      go_wp2_with fail
      refine (Has.call C0 (bounded_is a0 a1 _ H0.out _)).mono ?_
      rintro e w1 ⟨rfl, C1⟩
      clear k0 k1 k2 k3 k4 k5 k6 k7
      obtain ⟨⟨k0, k1, k2, k3, k4, k5, k6, k7⟩, -⟩ := C1.four
      go_wp2_with fail
      refine (Has.call C1 (bounded_is b0 b1 _ H1.out _)).mono ?_
      rintro e w2 ⟨rfl, C2⟩
      clear k0 k1 k2 k3 k4 k5 k6 k7
      obtain ⟨⟨k0, k1, k2, k3, k4, k5, k6, k7⟩, -⟩ := C2.four
      go_wp2_with fail
      go_ret
      exact ⟨ret_i HV.out, C2.low⟩
    · skip
      cases h2 : inl 1152921504606846976 c0 c1
      · have HV := Lib.hid (meet_no2 (a0 := a0) (a1 := a1) (b0 := b0) (b1 := b1) (c0 := c0) (c1 := c1) (d0 := d0) (d1 := d1) h2)
        have H0 := Lib.hid h0
        have H1 := Lib.hid h1
        have H2 := Lib.hid h2
        clear h h0 h1 h2
        go_enter Try.func98, Try.ntmps98
        go_wp2_with fail
        change Has w _ ((((w.alloc (.cells #[.int .i64 a0, .int .i64 a1] 24)).alloc (.cells #[.int .i64 b0, .int .i64 b1] 24)).alloc (.cells #[.int .i64 c0, .int .i64 c1] 24)).alloc (.cells #[.int .i64 d0, .int .i64 d1] 24)) at C0
        generalize (((w.alloc (.cells #[.int .i64 a0, .int .i64 a1] 24)).alloc (.cells #[.int .i64 b0, .int .i64 b1] 24)).alloc (.cells #[.int .i64 c0, .int .i64 c1] 24)).alloc (.cells #[.int .i64 d0, .int .i64 d1] 24) = w0 at *
        obtain ⟨⟨k0, k1, k2, k3, k4, k5, k6, k7⟩, -⟩ := C0.four
        go_wp2_with fail
        refine (Has.call C0 (bounded_is a0 a1 _ H0.out _)).mono ?_
        rintro e w1 ⟨rfl, C1⟩
        clear k0 k1 k2 k3 k4 k5 k6 k7
        obtain ⟨⟨k0, k1, k2, k3, k4, k5, k6, k7⟩, -⟩ := C1.four
        go_wp2_with fail
        refine (Has.call C1 (bounded_is b0 b1 _ H1.out _)).mono ?_
        rintro e w2 ⟨rfl, C2⟩
        clear k0 k1 k2 k3 k4 k5 k6 k7
        obtain ⟨⟨k0, k1, k2, k3, k4, k5, k6, k7⟩, -⟩ := C2.four
        go_wp2_with fail
        refine (Has.call C2 (bounded_is c0 c1 _ H2.out _)).mono ?_
        rintro e w3 ⟨rfl, C3⟩
        clear k0 k1 k2 k3 k4 k5 k6 k7
        obtain ⟨⟨k0, k1, k2, k3, k4, k5, k6, k7⟩, -⟩ := C3.four
        go_wp2_with fail
        go_ret
        exact ⟨ret_i HV.out, C3.low⟩
      · skip
        cases h3 : inl 1152921504606846976 d0 d1
        · have HV := Lib.hid (meet_no3 (a0 := a0) (a1 := a1) (b0 := b0) (b1 := b1) (c0 := c0) (c1 := c1) (d0 := d0) (d1 := d1) h3)
          have H0 := Lib.hid h0
          have H1 := Lib.hid h1
          have H2 := Lib.hid h2
          have H3 := Lib.hid h3
          clear h h0 h1 h2 h3
          go_enter Try.func98, Try.ntmps98
          go_wp2_with fail
          change Has w _ ((((w.alloc (.cells #[.int .i64 a0, .int .i64 a1] 24)).alloc (.cells #[.int .i64 b0, .int .i64 b1] 24)).alloc (.cells #[.int .i64 c0, .int .i64 c1] 24)).alloc (.cells #[.int .i64 d0, .int .i64 d1] 24)) at C0
          generalize (((w.alloc (.cells #[.int .i64 a0, .int .i64 a1] 24)).alloc (.cells #[.int .i64 b0, .int .i64 b1] 24)).alloc (.cells #[.int .i64 c0, .int .i64 c1] 24)).alloc (.cells #[.int .i64 d0, .int .i64 d1] 24) = w0 at *
          obtain ⟨⟨k0, k1, k2, k3, k4, k5, k6, k7⟩, -⟩ := C0.four
          go_wp2_with fail
          refine (Has.call C0 (bounded_is a0 a1 _ H0.out _)).mono ?_
          rintro e w1 ⟨rfl, C1⟩
          clear k0 k1 k2 k3 k4 k5 k6 k7
          obtain ⟨⟨k0, k1, k2, k3, k4, k5, k6, k7⟩, -⟩ := C1.four
          go_wp2_with fail
          refine (Has.call C1 (bounded_is b0 b1 _ H1.out _)).mono ?_
          rintro e w2 ⟨rfl, C2⟩
          clear k0 k1 k2 k3 k4 k5 k6 k7
          obtain ⟨⟨k0, k1, k2, k3, k4, k5, k6, k7⟩, -⟩ := C2.four
          go_wp2_with fail
          refine (Has.call C2 (bounded_is c0 c1 _ H2.out _)).mono ?_
          rintro e w3 ⟨rfl, C3⟩
          clear k0 k1 k2 k3 k4 k5 k6 k7
          obtain ⟨⟨k0, k1, k2, k3, k4, k5, k6, k7⟩, -⟩ := C3.four
          go_wp2_with fail
          refine (Has.call C3 (bounded_is d0 d1 _ H3.out _)).mono ?_
          rintro e w4 ⟨rfl, C4⟩
          clear k0 k1 k2 k3 k4 k5 k6 k7
          obtain ⟨⟨k0, k1, k2, k3, k4, k5, k6, k7⟩, -⟩ := C4.four
          go_wp2_with fail
          go_ret
          exact ⟨ret_i HV.out, C4.low⟩
        · skip
          exact absurd ⟨h0, h1, h2, h3⟩ h


end Go.Proofs.Ytmldgjhecoeldaa
