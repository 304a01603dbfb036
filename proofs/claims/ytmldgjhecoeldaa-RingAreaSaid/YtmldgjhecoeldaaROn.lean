/- On of the reference. -/
import Derived.Test.YtmldgjhecoeldaaOnD
import Derived.Test.YtmldgjhecoeldaaRSide
namespace Go.Proofs.Ytmldgjhecoeldaa
open Go.RowKit Go.Lib


set_option maxHeartbeats 4000000 in
theorem ron_any (a0 a1 b0 b1 p0 p1 : Int) (w : World) :
    Calls Try.prog 37 #[.agg #[.int .i64 a0, .int .i64 a1], .agg #[.int .i64 b0, .int .i64 b1], .agg #[.int .i64 p0, .int .i64 p1]] w fun e w' => e = .returned (.bool (ronOf a0 a1 b0 b1 p0 p1)) ∧ Below w.heap.size w w' := by
  have C0 := has3 (w := w) [.int .i64 a0, .int .i64 a1] [.int .i64 b0, .int .i64 b1] [.int .i64 p0, .int .i64 p1] 24 24 24
  cases h0 : inl 1152921504606846976 a0 a1
  · have HV := Lib.hid (show ronOf a0 a1 b0 b1 p0 p1 = false by unfold ronOf; simp [h0])
    have H0 := Lib.hid h0
    clear h0
    go_enter Try.func37, Try.ntmps37
    go_wp2_with fail
    change Has w _ (((w.alloc (.cells #[.int .i64 a0, .int .i64 a1] 24)).alloc (.cells #[.int .i64 b0, .int .i64 b1] 24)).alloc (.cells #[.int .i64 p0, .int .i64 p1] 24)) at C0
    generalize ((w.alloc (.cells #[.int .i64 a0, .int .i64 a1] 24)).alloc (.cells #[.int .i64 b0, .int .i64 b1] 24)).alloc (.cells #[.int .i64 p0, .int .i64 p1] 24) = w0 at *
    obtain ⟨⟨k0, k1, k2, k3, k4, k5⟩, -⟩ := C0.three
    go_wp2_with fail
    refine (Has.call C0 (rbounded_is a0 a1 _ H0.out _)).mono ?_
    rintro e w1 ⟨rfl, C1⟩
    clear k0 k1 k2 k3 k4 k5
    obtain ⟨⟨k0, k1, k2, k3, k4, k5⟩, -⟩ := C1.three
    go_wp2_with fail
    go_ret
    exact ⟨ret_b HV.out.symm, C1.low⟩
  · skip
    cases h1 : inl 1152921504606846976 b0 b1
    · have HV := Lib.hid (show ronOf a0 a1 b0 b1 p0 p1 = false by unfold ronOf; simp [h0, h1])
      have H0 := Lib.hid h0
      have H1 := Lib.hid h1
      clear h0 h1
      go_enter Try.func37, Try.ntmps37
      go_wp2_with fail
      change Has w _ (((w.alloc (.cells #[.int .i64 a0, .int .i64 a1] 24)).alloc (.cells #[.int .i64 b0, .int .i64 b1] 24)).alloc (.cells #[.int .i64 p0, .int .i64 p1] 24)) at C0
      generalize ((w.alloc (.cells #[.int .i64 a0, .int .i64 a1] 24)).alloc (.cells #[.int .i64 b0, .int .i64 b1] 24)).alloc (.cells #[.int .i64 p0, .int .i64 p1] 24) = w0 at *
      obtain ⟨⟨k0, k1, k2, k3, k4, k5⟩, -⟩ := C0.three
      go_wp2_with fail
      refine (Has.call C0 (rbounded_is a0 a1 _ H0.out _)).mono ?_
      rintro e w1 ⟨rfl, C1⟩
      clear k0 k1 k2 k3 k4 k5
      obtain ⟨⟨k0, k1, k2, k3, k4, k5⟩, -⟩ := C1.three
      go_wp2_with fail
      refine (Has.call C1 (rbounded_is b0 b1 _ H1.out _)).mono ?_
      rintro e w2 ⟨rfl, C2⟩
      clear k0 k1 k2 k3 k4 k5
      obtain ⟨⟨k0, k1, k2, k3, k4, k5⟩, -⟩ := C2.three
      go_wp2_with fail
      go_ret
      exact ⟨ret_b HV.out.symm, C2.low⟩
    · skip
      cases h2 : inl 1152921504606846976 p0 p1
      · have HV := Lib.hid (show ronOf a0 a1 b0 b1 p0 p1 = false by unfold ronOf; simp [h0, h1, h2])
        have H0 := Lib.hid h0
        have H1 := Lib.hid h1
        have H2 := Lib.hid h2
        clear h0 h1 h2
        go_enter Try.func37, Try.ntmps37
        go_wp2_with fail
        change Has w _ (((w.alloc (.cells #[.int .i64 a0, .int .i64 a1] 24)).alloc (.cells #[.int .i64 b0, .int .i64 b1] 24)).alloc (.cells #[.int .i64 p0, .int .i64 p1] 24)) at C0
        generalize ((w.alloc (.cells #[.int .i64 a0, .int .i64 a1] 24)).alloc (.cells #[.int .i64 b0, .int .i64 b1] 24)).alloc (.cells #[.int .i64 p0, .int .i64 p1] 24) = w0 at *
        obtain ⟨⟨k0, k1, k2, k3, k4, k5⟩, -⟩ := C0.three
        go_wp2_with fail
        refine (Has.call C0 (rbounded_is a0 a1 _ H0.out _)).mono ?_
        rintro e w1 ⟨rfl, C1⟩
        clear k0 k1 k2 k3 k4 k5
        obtain ⟨⟨k0, k1, k2, k3, k4, k5⟩, -⟩ := C1.three
        go_wp2_with fail
        refine (Has.call C1 (rbounded_is b0 b1 _ H1.out _)).mono ?_
        rintro e w2 ⟨rfl, C2⟩
        clear k0 k1 k2 k3 k4 k5
        obtain ⟨⟨k0, k1, k2, k3, k4, k5⟩, -⟩ := C2.three
        go_wp2_with fail
        refine (Has.call C2 (rbounded_is p0 p1 _ H2.out _)).mono ?_
        rintro e w3 ⟨rfl, C3⟩
        clear k0 k1 k2 k3 k4 k5
        obtain ⟨⟨k0, k1, k2, k3, k4, k5⟩, -⟩ := C3.three
        go_wp2_with fail
        go_ret
        exact ⟨ret_b HV.out.symm, C3.low⟩
      · skip
        cases hx : btw (min a0 b0) p0 (max a0 b0)
        · have HV := Lib.hid (show ronOf a0 a1 b0 b1 p0 p1 = false by unfold ronOf; simp [h0, h1, h2, hx])
          have H0 := Lib.hid h0
          have H1 := Lib.hid h1
          have H2 := Lib.hid h2
          have HX := Lib.hid hx
          clear h0 h1 h2 hx
          go_enter Try.func37, Try.ntmps37
          go_wp2_with fail
          change Has w _ (((w.alloc (.cells #[.int .i64 a0, .int .i64 a1] 24)).alloc (.cells #[.int .i64 b0, .int .i64 b1] 24)).alloc (.cells #[.int .i64 p0, .int .i64 p1] 24)) at C0
          generalize ((w.alloc (.cells #[.int .i64 a0, .int .i64 a1] 24)).alloc (.cells #[.int .i64 b0, .int .i64 b1] 24)).alloc (.cells #[.int .i64 p0, .int .i64 p1] 24) = w0 at *
          obtain ⟨⟨k0, k1, k2, k3, k4, k5⟩, -⟩ := C0.three
          go_wp2_with fail
          refine (Has.call C0 (rbounded_is a0 a1 _ H0.out _)).mono ?_
          rintro e w1 ⟨rfl, C1⟩
          clear k0 k1 k2 k3 k4 k5
          obtain ⟨⟨k0, k1, k2, k3, k4, k5⟩, -⟩ := C1.three
          go_wp2_with fail
          refine (Has.call C1 (rbounded_is b0 b1 _ H1.out _)).mono ?_
          rintro e w2 ⟨rfl, C2⟩
          clear k0 k1 k2 k3 k4 k5
          obtain ⟨⟨k0, k1, k2, k3, k4, k5⟩, -⟩ := C2.three
          go_wp2_with fail
          refine (Has.call C2 (rbounded_is p0 p1 _ H2.out _)).mono ?_
          rintro e w3 ⟨rfl, C3⟩
          clear k0 k1 k2 k3 k4 k5
          obtain ⟨⟨k0, k1, k2, k3, k4, k5⟩, -⟩ := C3.three
          go_wp2_with fail
          all_goals
            refine (between_is _ _ _ false (by rw [← HX.out]; unfold btw; exact decide_eq_decide.2 (by omega)) _).mono ?_
            rintro e w' ⟨rfl, rfl⟩
            go_wp2_with fail
            go_ret
            exact ⟨ret_b HV.out.symm, C3.low⟩
        · cases hy : btw (min a1 b1) p1 (max a1 b1)
          · have HV := Lib.hid (show ronOf a0 a1 b0 b1 p0 p1 = false by unfold ronOf; simp [h0, h1, h2, hx, hy])
            have HY := Lib.hid hy
            clear hy
            have H0 := Lib.hid h0
            have H1 := Lib.hid h1
            have H2 := Lib.hid h2
            have HX := Lib.hid hx
            clear h0 h1 h2 hx
            go_enter Try.func37, Try.ntmps37
            go_wp2_with fail
            change Has w _ (((w.alloc (.cells #[.int .i64 a0, .int .i64 a1] 24)).alloc (.cells #[.int .i64 b0, .int .i64 b1] 24)).alloc (.cells #[.int .i64 p0, .int .i64 p1] 24)) at C0
            generalize ((w.alloc (.cells #[.int .i64 a0, .int .i64 a1] 24)).alloc (.cells #[.int .i64 b0, .int .i64 b1] 24)).alloc (.cells #[.int .i64 p0, .int .i64 p1] 24) = w0 at *
            obtain ⟨⟨k0, k1, k2, k3, k4, k5⟩, -⟩ := C0.three
            go_wp2_with fail
            refine (Has.call C0 (rbounded_is a0 a1 _ H0.out _)).mono ?_
            rintro e w1 ⟨rfl, C1⟩
            clear k0 k1 k2 k3 k4 k5
            obtain ⟨⟨k0, k1, k2, k3, k4, k5⟩, -⟩ := C1.three
            go_wp2_with fail
            refine (Has.call C1 (rbounded_is b0 b1 _ H1.out _)).mono ?_
            rintro e w2 ⟨rfl, C2⟩
            clear k0 k1 k2 k3 k4 k5
            obtain ⟨⟨k0, k1, k2, k3, k4, k5⟩, -⟩ := C2.three
            go_wp2_with fail
            refine (Has.call C2 (rbounded_is p0 p1 _ H2.out _)).mono ?_
            rintro e w3 ⟨rfl, C3⟩
            clear k0 k1 k2 k3 k4 k5
            obtain ⟨⟨k0, k1, k2, k3, k4, k5⟩, -⟩ := C3.three
            go_wp2_with fail
            all_goals
              refine (between_is _ _ _ true (by rw [← HX.out]; unfold btw; exact decide_eq_decide.2 (by omega)) _).mono ?_
              rintro e w' ⟨rfl, rfl⟩
              go_wp2_with fail
              all_goals
                refine (between_is _ _ _ false (by rw [← HY.out]; unfold btw; exact decide_eq_decide.2 (by omega)) _).mono ?_
                rintro e w' ⟨rfl, rfl⟩
                go_wp2_with fail
                go_ret
                exact ⟨ret_b HV.out.symm, C3.low⟩
          · obtain ⟨s, hs⟩ : ∃ s, sideOf a0 a1 b0 b1 p0 p1 = s := ⟨_, rfl⟩
            have HV := Lib.hid (show ronOf a0 a1 b0 b1 p0 p1 = decide (s = 0) by unfold ronOf; simp [h0, h1, h2, hx, hy, hs])
            have HY := Lib.hid hy
            have HS := Lib.hid hs
            clear hy hs
            by_cases hz : s = 0
            · have HW := Lib.hid (show true = decide (s = 0) by simp [hz])
              have e2 : (s == 0) = true := by rw [hz]; rfl
              clear hz
              have H0 := Lib.hid h0
              have H1 := Lib.hid h1
              have H2 := Lib.hid h2
              have HX := Lib.hid hx
              clear h0 h1 h2 hx
              go_enter Try.func37, Try.ntmps37
              go_wp2_with fail
              change Has w _ (((w.alloc (.cells #[.int .i64 a0, .int .i64 a1] 24)).alloc (.cells #[.int .i64 b0, .int .i64 b1] 24)).alloc (.cells #[.int .i64 p0, .int .i64 p1] 24)) at C0
              generalize ((w.alloc (.cells #[.int .i64 a0, .int .i64 a1] 24)).alloc (.cells #[.int .i64 b0, .int .i64 b1] 24)).alloc (.cells #[.int .i64 p0, .int .i64 p1] 24) = w0 at *
              obtain ⟨⟨k0, k1, k2, k3, k4, k5⟩, -⟩ := C0.three
              go_wp2_with fail
              refine (Has.call C0 (rbounded_is a0 a1 _ H0.out _)).mono ?_
              rintro e w1 ⟨rfl, C1⟩
              clear k0 k1 k2 k3 k4 k5
              obtain ⟨⟨k0, k1, k2, k3, k4, k5⟩, -⟩ := C1.three
              go_wp2_with fail
              refine (Has.call C1 (rbounded_is b0 b1 _ H1.out _)).mono ?_
              rintro e w2 ⟨rfl, C2⟩
              clear k0 k1 k2 k3 k4 k5
              obtain ⟨⟨k0, k1, k2, k3, k4, k5⟩, -⟩ := C2.three
              go_wp2_with fail
              refine (Has.call C2 (rbounded_is p0 p1 _ H2.out _)).mono ?_
              rintro e w3 ⟨rfl, C3⟩
              clear k0 k1 k2 k3 k4 k5
              obtain ⟨⟨k0, k1, k2, k3, k4, k5⟩, -⟩ := C3.three
              go_wp2_with fail
              all_goals
                refine (between_is _ _ _ true (by rw [← HX.out]; unfold btw; exact decide_eq_decide.2 (by omega)) _).mono ?_
                rintro e w' ⟨rfl, rfl⟩
                go_wp2_with fail
                all_goals
                  refine (between_is _ _ _ true (by rw [← HY.out]; unfold btw; exact decide_eq_decide.2 (by omega)) _).mono ?_
                  rintro e w' ⟨rfl, rfl⟩
                  go_wp2_with fail
                  refine (Has.call C3 (rside_is a0 a1 b0 b1 p0 p1 _ HS.out _)).mono ?_
                  rintro e w4 ⟨rfl, C4⟩
                  go_wp2_with fail
                  go_ret
                  exact ⟨ret_b (HW.out.trans HV.out.symm), C4.low⟩
            · have HW := Lib.hid (show false = decide (s = 0) by simp [hz])
              have e2 : (s == 0) = false := by rw [beq_eq_false_iff_ne]; exact hz
              clear hz
              have H0 := Lib.hid h0
              have H1 := Lib.hid h1
              have H2 := Lib.hid h2
              have HX := Lib.hid hx
              clear h0 h1 h2 hx
              go_enter Try.func37, Try.ntmps37
              go_wp2_with fail
              change Has w _ (((w.alloc (.cells #[.int .i64 a0, .int .i64 a1] 24)).alloc (.cells #[.int .i64 b0, .int .i64 b1] 24)).alloc (.cells #[.int .i64 p0, .int .i64 p1] 24)) at C0
              generalize ((w.alloc (.cells #[.int .i64 a0, .int .i64 a1] 24)).alloc (.cells #[.int .i64 b0, .int .i64 b1] 24)).alloc (.cells #[.int .i64 p0, .int .i64 p1] 24) = w0 at *
              obtain ⟨⟨k0, k1, k2, k3, k4, k5⟩, -⟩ := C0.three
              go_wp2_with fail
              refine (Has.call C0 (rbounded_is a0 a1 _ H0.out _)).mono ?_
              rintro e w1 ⟨rfl, C1⟩
              clear k0 k1 k2 k3 k4 k5
              obtain ⟨⟨k0, k1, k2, k3, k4, k5⟩, -⟩ := C1.three
              go_wp2_with fail
              refine (Has.call C1 (rbounded_is b0 b1 _ H1.out _)).mono ?_
              rintro e w2 ⟨rfl, C2⟩
              clear k0 k1 k2 k3 k4 k5
              obtain ⟨⟨k0, k1, k2, k3, k4, k5⟩, -⟩ := C2.three
              go_wp2_with fail
              refine (Has.call C2 (rbounded_is p0 p1 _ H2.out _)).mono ?_
              rintro e w3 ⟨rfl, C3⟩
              clear k0 k1 k2 k3 k4 k5
              obtain ⟨⟨k0, k1, k2, k3, k4, k5⟩, -⟩ := C3.three
              go_wp2_with fail
              all_goals
                refine (between_is _ _ _ true (by rw [← HX.out]; unfold btw; exact decide_eq_decide.2 (by omega)) _).mono ?_
                rintro e w' ⟨rfl, rfl⟩
                go_wp2_with fail
                all_goals
                  refine (between_is _ _ _ true (by rw [← HY.out]; unfold btw; exact decide_eq_decide.2 (by omega)) _).mono ?_
                  rintro e w' ⟨rfl, rfl⟩
                  go_wp2_with fail
                  refine (Has.call C3 (rside_is a0 a1 b0 b1 p0 p1 _ HS.out _)).mono ?_
                  rintro e w4 ⟨rfl, C4⟩
                  go_wp2_with fail
                  go_ret
                  exact ⟨ret_b (HW.out.trans HV.out.symm), C4.low⟩

end Go.Proofs.Ytmldgjhecoeldaa
