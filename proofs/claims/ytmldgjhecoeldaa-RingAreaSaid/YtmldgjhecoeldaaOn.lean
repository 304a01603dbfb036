/- Side and On of point. -/
import Derived.Test.YtmldgjhecoeldaaSide
import Derived.Test.YtmldgjhecoeldaaOnD
namespace Go.Proofs.Ytmldgjhecoeldaa
open Go.RowKit Go.Lib

set_option maxHeartbeats 1000000 in
theorem side_any (a0 a1 b0 b1 p0 p1 : Int) (w : World) :
    Calls Try.prog 40 #[.agg #[.int .i64 a0, .int .i64 a1], .agg #[.int .i64 b0, .int .i64 b1], .agg #[.int .i64 p0, .int .i64 p1]] w fun e w' => e = .returned (.int .i64 (sideOf a0 a1 b0 b1 p0 p1)) ∧ Below w.heap.size w w' := by
  have C0 := has3 (w := w) [.int .i64 a0, .int .i64 a1] [.int .i64 b0, .int .i64 b1] [.int .i64 p0, .int .i64 p1] 24 24 24
  go_enter Try.func40, Try.ntmps40
  go_wp2_with fail
  refine (Has.call C0 (sideP_any a0 a1 b0 b1 p0 p1 _)).mono ?_
  rintro e w1 ⟨rfl, C1⟩
  go_wp2_with fail
  go_ret
  exact ⟨rfl, C1.low⟩

theorem side_is (a0 a1 b0 b1 p0 p1 s : Int) (h : sideOf a0 a1 b0 b1 p0 p1 = s) (w : World) :
    Calls Try.prog 40 #[.agg #[.int .i64 a0, .int .i64 a1], .agg #[.int .i64 b0, .int .i64 b1], .agg #[.int .i64 p0, .int .i64 p1]] w fun e w' => e = .returned (.int .i64 s) ∧ Below w.heap.size w w' := h ▸ side_any a0 a1 b0 b1 p0 p1 w

set_option maxHeartbeats 4000000 in
theorem on_any (a0 a1 b0 b1 p0 p1 : Int) (w : World) :
    Calls Try.prog 36 #[.agg #[.int .i64 a0, .int .i64 a1], .agg #[.int .i64 b0, .int .i64 b1], .agg #[.int .i64 p0, .int .i64 p1]] w fun e w' => e = .returned (.bool (onOf a0 a1 b0 b1 p0 p1)) ∧ Below w.heap.size w w' := by
  have C0 := has3 (w := w) [.int .i64 a0, .int .i64 a1] [.int .i64 b0, .int .i64 b1] [.int .i64 p0, .int .i64 p1] 24 24 24
  cases h0 : inl 1152921504606846976 a0 a1
  · have HV := Lib.hid (show onOf a0 a1 b0 b1 p0 p1 = false by unfold onOf; simp [h0])
    have H0 := Lib.hid h0
    clear h0
    go_enter Try.func36, Try.ntmps36
    go_wp2_with fail
    change Has w _ (((w.alloc (.cells #[.int .i64 a0, .int .i64 a1] 24)).alloc (.cells #[.int .i64 b0, .int .i64 b1] 24)).alloc (.cells #[.int .i64 p0, .int .i64 p1] 24)) at C0
    generalize ((w.alloc (.cells #[.int .i64 a0, .int .i64 a1] 24)).alloc (.cells #[.int .i64 b0, .int .i64 b1] 24)).alloc (.cells #[.int .i64 p0, .int .i64 p1] 24) = w0 at *
    obtain ⟨⟨k0, k1, k2, k3, k4, k5⟩, -⟩ := C0.three
    go_wp2_with fail
    refine (Has.call C0 (bounded_is a0 a1 _ H0.out _)).mono ?_
    rintro e w1 ⟨rfl, C1⟩
    clear k0 k1 k2 k3 k4 k5
    obtain ⟨⟨k0, k1, k2, k3, k4, k5⟩, -⟩ := C1.three
    go_wp2_with fail
    go_ret
    exact ⟨ret_b HV.out.symm, C1.low⟩
  · skip
    cases h1 : inl 1152921504606846976 b0 b1
    · have HV := Lib.hid (show onOf a0 a1 b0 b1 p0 p1 = false by unfold onOf; simp [h0, h1])
      have H0 := Lib.hid h0
      have H1 := Lib.hid h1
      clear h0 h1
      go_enter Try.func36, Try.ntmps36
      go_wp2_with fail
      change Has w _ (((w.alloc (.cells #[.int .i64 a0, .int .i64 a1] 24)).alloc (.cells #[.int .i64 b0, .int .i64 b1] 24)).alloc (.cells #[.int .i64 p0, .int .i64 p1] 24)) at C0
      generalize ((w.alloc (.cells #[.int .i64 a0, .int .i64 a1] 24)).alloc (.cells #[.int .i64 b0, .int .i64 b1] 24)).alloc (.cells #[.int .i64 p0, .int .i64 p1] 24) = w0 at *
      obtain ⟨⟨k0, k1, k2, k3, k4, k5⟩, -⟩ := C0.three
      go_wp2_with fail
      refine (Has.call C0 (bounded_is a0 a1 _ H0.out _)).mono ?_
      rintro e w1 ⟨rfl, C1⟩
      clear k0 k1 k2 k3 k4 k5
      obtain ⟨⟨k0, k1, k2, k3, k4, k5⟩, -⟩ := C1.three
      go_wp2_with fail
      refine (Has.call C1 (bounded_is b0 b1 _ H1.out _)).mono ?_
      rintro e w2 ⟨rfl, C2⟩
      clear k0 k1 k2 k3 k4 k5
      obtain ⟨⟨k0, k1, k2, k3, k4, k5⟩, -⟩ := C2.three
      go_wp2_with fail
      go_ret
      exact ⟨ret_b HV.out.symm, C2.low⟩
    · skip
      cases h2 : inl 1152921504606846976 p0 p1
      · have HV := Lib.hid (show onOf a0 a1 b0 b1 p0 p1 = false by unfold onOf; simp [h0, h1, h2])
        have H0 := Lib.hid h0
        have H1 := Lib.hid h1
        have H2 := Lib.hid h2
        clear h0 h1 h2
        go_enter Try.func36, Try.ntmps36
        go_wp2_with fail
        change Has w _ (((w.alloc (.cells #[.int .i64 a0, .int .i64 a1] 24)).alloc (.cells #[.int .i64 b0, .int .i64 b1] 24)).alloc (.cells #[.int .i64 p0, .int .i64 p1] 24)) at C0
        generalize ((w.alloc (.cells #[.int .i64 a0, .int .i64 a1] 24)).alloc (.cells #[.int .i64 b0, .int .i64 b1] 24)).alloc (.cells #[.int .i64 p0, .int .i64 p1] 24) = w0 at *
        obtain ⟨⟨k0, k1, k2, k3, k4, k5⟩, -⟩ := C0.three
        go_wp2_with fail
        refine (Has.call C0 (bounded_is a0 a1 _ H0.out _)).mono ?_
        rintro e w1 ⟨rfl, C1⟩
        clear k0 k1 k2 k3 k4 k5
        obtain ⟨⟨k0, k1, k2, k3, k4, k5⟩, -⟩ := C1.three
        go_wp2_with fail
        refine (Has.call C1 (bounded_is b0 b1 _ H1.out _)).mono ?_
        rintro e w2 ⟨rfl, C2⟩
        clear k0 k1 k2 k3 k4 k5
        obtain ⟨⟨k0, k1, k2, k3, k4, k5⟩, -⟩ := C2.three
        go_wp2_with fail
        refine (Has.call C2 (bounded_is p0 p1 _ H2.out _)).mono ?_
        rintro e w3 ⟨rfl, C3⟩
        clear k0 k1 k2 k3 k4 k5
        obtain ⟨⟨k0, k1, k2, k3, k4, k5⟩, -⟩ := C3.three
        go_wp2_with fail
        go_ret
        exact ⟨ret_b HV.out.symm, C3.low⟩
      · skip
        obtain ⟨s, hs⟩ : ∃ s, sideOf a0 a1 b0 b1 p0 p1 = s := ⟨_, rfl⟩
        by_cases hz : s = 0
        · obtain ⟨t, ht⟩ : ∃ t, ovl a0 a1 b0 b1 p0 p1 p0 p1 = t := ⟨_, rfl⟩
          have HT := Lib.hid ht
          have HV := Lib.hid (show onOf a0 a1 b0 b1 p0 p1 = decide (t = 1) by unfold onOf; simp [h0, h1, h2, hs, ht, hz])
          have e1 : (s == 0) = true := by rw [hz]; rfl
          clear ht hz
          have H0 := Lib.hid h0
          have H1 := Lib.hid h1
          have H2 := Lib.hid h2
          have HS := Lib.hid hs
          clear h0 h1 h2 hs
          go_enter Try.func36, Try.ntmps36
          go_wp2_with fail
          change Has w _ (((w.alloc (.cells #[.int .i64 a0, .int .i64 a1] 24)).alloc (.cells #[.int .i64 b0, .int .i64 b1] 24)).alloc (.cells #[.int .i64 p0, .int .i64 p1] 24)) at C0
          generalize ((w.alloc (.cells #[.int .i64 a0, .int .i64 a1] 24)).alloc (.cells #[.int .i64 b0, .int .i64 b1] 24)).alloc (.cells #[.int .i64 p0, .int .i64 p1] 24) = w0 at *
          obtain ⟨⟨k0, k1, k2, k3, k4, k5⟩, -⟩ := C0.three
          go_wp2_with fail
          refine (Has.call C0 (bounded_is a0 a1 _ H0.out _)).mono ?_
          rintro e w1 ⟨rfl, C1⟩
          clear k0 k1 k2 k3 k4 k5
          obtain ⟨⟨k0, k1, k2, k3, k4, k5⟩, -⟩ := C1.three
          go_wp2_with fail
          refine (Has.call C1 (bounded_is b0 b1 _ H1.out _)).mono ?_
          rintro e w2 ⟨rfl, C2⟩
          clear k0 k1 k2 k3 k4 k5
          obtain ⟨⟨k0, k1, k2, k3, k4, k5⟩, -⟩ := C2.three
          go_wp2_with fail
          refine (Has.call C2 (bounded_is p0 p1 _ H2.out _)).mono ?_
          rintro e w3 ⟨rfl, C3⟩
          clear k0 k1 k2 k3 k4 k5
          obtain ⟨⟨k0, k1, k2, k3, k4, k5⟩, -⟩ := C3.three
          go_wp2_with fail
          refine (Has.call C3 (side_is a0 a1 b0 b1 p0 p1 _ HS.out _)).mono ?_
          rintro e w4 ⟨rfl, C4⟩
          clear k0 k1 k2 k3 k4 k5
          obtain ⟨⟨k0, k1, k2, k3, k4, k5⟩, -⟩ := C4.three
          go_wp2_with fail
          refine (Has.call C4 (overlap_is _ _ _ _ _ _ _ _ _ HT.out _)).mono ?_
          rintro e w5 ⟨rfl, C5⟩
          by_cases h1 : t = 1
          · have HW := Lib.hid (show true = decide (t = 1) by simp [h1])
            have e2 : (t == 1) = true := by rw [h1]; rfl
            clear h1
            go_wp2_with fail
            go_ret
            exact ⟨ret_b (HW.out.trans HV.out.symm), C5.low⟩
          · have HW := Lib.hid (show false = decide (t = 1) by simp [h1])
            have e2 : (t == 1) = false := by rw [beq_eq_false_iff_ne]; exact h1
            clear h1
            go_wp2_with fail
            go_ret
            exact ⟨ret_b (HW.out.trans HV.out.symm), C5.low⟩
        · have HV := Lib.hid (show onOf a0 a1 b0 b1 p0 p1 = false by unfold onOf; simp [h0, h1, h2, hs, hz])
          have e1 : (s == 0) = false := by rw [beq_eq_false_iff_ne]; exact hz
          clear hz
          have H0 := Lib.hid h0
          have H1 := Lib.hid h1
          have H2 := Lib.hid h2
          have HS := Lib.hid hs
          clear h0 h1 h2 hs
          go_enter Try.func36, Try.ntmps36
          go_wp2_with fail
          change Has w _ (((w.alloc (.cells #[.int .i64 a0, .int .i64 a1] 24)).alloc (.cells #[.int .i64 b0, .int .i64 b1] 24)).alloc (.cells #[.int .i64 p0, .int .i64 p1] 24)) at C0
          generalize ((w.alloc (.cells #[.int .i64 a0, .int .i64 a1] 24)).alloc (.cells #[.int .i64 b0, .int .i64 b1] 24)).alloc (.cells #[.int .i64 p0, .int .i64 p1] 24) = w0 at *
          obtain ⟨⟨k0, k1, k2, k3, k4, k5⟩, -⟩ := C0.three
          go_wp2_with fail
          refine (Has.call C0 (bounded_is a0 a1 _ H0.out _)).mono ?_
          rintro e w1 ⟨rfl, C1⟩
          clear k0 k1 k2 k3 k4 k5
          obtain ⟨⟨k0, k1, k2, k3, k4, k5⟩, -⟩ := C1.three
          go_wp2_with fail
          refine (Has.call C1 (bounded_is b0 b1 _ H1.out _)).mono ?_
          rintro e w2 ⟨rfl, C2⟩
          clear k0 k1 k2 k3 k4 k5
          obtain ⟨⟨k0, k1, k2, k3, k4, k5⟩, -⟩ := C2.three
          go_wp2_with fail
          refine (Has.call C2 (bounded_is p0 p1 _ H2.out _)).mono ?_
          rintro e w3 ⟨rfl, C3⟩
          clear k0 k1 k2 k3 k4 k5
          obtain ⟨⟨k0, k1, k2, k3, k4, k5⟩, -⟩ := C3.three
          go_wp2_with fail
          refine (Has.call C3 (side_is a0 a1 b0 b1 p0 p1 _ HS.out _)).mono ?_
          rintro e w4 ⟨rfl, C4⟩
          clear k0 k1 k2 k3 k4 k5
          obtain ⟨⟨k0, k1, k2, k3, k4, k5⟩, -⟩ := C4.three
          go_wp2_with fail
          go_ret
          exact ⟨ret_b HV.out.symm, C4.low⟩

end Go.Proofs.Ytmldgjhecoeldaa
