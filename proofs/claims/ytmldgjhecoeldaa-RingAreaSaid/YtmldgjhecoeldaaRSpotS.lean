/- SpotSide of the reference. -/
import Derived.Test.YtmldgjhecoeldaaSpot
namespace Go.Proofs.Ytmldgjhecoeldaa
open Go.RowKit Go.Lib

set_option maxRecDepth 100000 in
set_option maxHeartbeats 4000000 in
theorem rspotSide_any (a0 a1 a2 b0 b1 b2 p0 p1 p2 : Int) (w : World) :
    Calls Try.prog 51 #[.agg #[.int .i64 a0, .int .i64 a1, .int .i64 a2], .agg #[.int .i64 b0, .int .i64 b1, .int .i64 b2], .agg #[.int .i64 p0, .int .i64 p1, .int .i64 p2]] w fun e w' => e = .returned (.int .i64 (sideS a0 a1 a2 b0 b1 b2 p0 p1 p2)) ∧ Below w.heap.size w w' := by
  have C0 := has3 (w := w) [.int .i64 a0, .int .i64 a1, .int .i64 a2] [.int .i64 b0, .int .i64 b1, .int .i64 b2] [.int .i64 p0, .int .i64 p1, .int .i64 p2] 39 39 39
  cases h0 : sbd a0 a1 a2
  · have HV := Lib.hid (sideS_no0 a0 a1 a2 b0 b1 b2 p0 p1 p2 h0)
    have H0 := Lib.hid (show (!sbd a0 a1 a2) = true by rw [h0]; rfl)
    clear h0
    go_enter Try.func51, Try.ntmps51
    go_wp2_with fail
    change Has w _ (((w.alloc (.cells #[.int .i64 a0, .int .i64 a1, .int .i64 a2] 39)).alloc (.cells #[.int .i64 b0, .int .i64 b1, .int .i64 b2] 39)).alloc (.cells #[.int .i64 p0, .int .i64 p1, .int .i64 p2] 39)) at C0
    generalize ((w.alloc (.cells #[.int .i64 a0, .int .i64 a1, .int .i64 a2] 39)).alloc (.cells #[.int .i64 b0, .int .i64 b1, .int .i64 b2] 39)).alloc (.cells #[.int .i64 p0, .int .i64 p1, .int .i64 p2] 39) = w0 at *
    obtain ⟨⟨k0, k1, k2, k3, k4, k5, k6, k7, k8⟩, -⟩ := C0.three3
    go_wp2_with fail
    refine (Has.call C0 (far_is a0 a1 a2 _ H0.out _)).mono ?_
    rintro e w1 ⟨rfl, C1⟩
    clear k0 k1 k2 k3 k4 k5 k6 k7 k8
    obtain ⟨⟨k0, k1, k2, k3, k4, k5, k6, k7, k8⟩, -⟩ := C1.three3
    go_wp2_with fail
    go_ret
    exact ⟨ret_i HV.out, C1.low⟩
  · skip
    cases h1 : sbd b0 b1 b2
    · have HV := Lib.hid (sideS_no1 a0 a1 a2 b0 b1 b2 p0 p1 p2 h1)
      have H0 := Lib.hid (show (!sbd a0 a1 a2) = false by rw [h0]; rfl)
      have H1 := Lib.hid (show (!sbd b0 b1 b2) = true by rw [h1]; rfl)
      clear h0 h1
      go_enter Try.func51, Try.ntmps51
      go_wp2_with fail
      change Has w _ (((w.alloc (.cells #[.int .i64 a0, .int .i64 a1, .int .i64 a2] 39)).alloc (.cells #[.int .i64 b0, .int .i64 b1, .int .i64 b2] 39)).alloc (.cells #[.int .i64 p0, .int .i64 p1, .int .i64 p2] 39)) at C0
      generalize ((w.alloc (.cells #[.int .i64 a0, .int .i64 a1, .int .i64 a2] 39)).alloc (.cells #[.int .i64 b0, .int .i64 b1, .int .i64 b2] 39)).alloc (.cells #[.int .i64 p0, .int .i64 p1, .int .i64 p2] 39) = w0 at *
      obtain ⟨⟨k0, k1, k2, k3, k4, k5, k6, k7, k8⟩, -⟩ := C0.three3
      go_wp2_with fail
      refine (Has.call C0 (far_is a0 a1 a2 _ H0.out _)).mono ?_
      rintro e w1 ⟨rfl, C1⟩
      clear k0 k1 k2 k3 k4 k5 k6 k7 k8
      obtain ⟨⟨k0, k1, k2, k3, k4, k5, k6, k7, k8⟩, -⟩ := C1.three3
      go_wp2_with fail
      refine (Has.call C1 (far_is b0 b1 b2 _ H1.out _)).mono ?_
      rintro e w2 ⟨rfl, C2⟩
      clear k0 k1 k2 k3 k4 k5 k6 k7 k8
      obtain ⟨⟨k0, k1, k2, k3, k4, k5, k6, k7, k8⟩, -⟩ := C2.three3
      go_wp2_with fail
      go_ret
      exact ⟨ret_i HV.out, C2.low⟩
    · skip
      cases h2 : sbd p0 p1 p2
      · have HV := Lib.hid (sideS_no2 a0 a1 a2 b0 b1 b2 p0 p1 p2 h2)
        have H0 := Lib.hid (show (!sbd a0 a1 a2) = false by rw [h0]; rfl)
        have H1 := Lib.hid (show (!sbd b0 b1 b2) = false by rw [h1]; rfl)
        have H2 := Lib.hid (show (!sbd p0 p1 p2) = true by rw [h2]; rfl)
        clear h0 h1 h2
        go_enter Try.func51, Try.ntmps51
        go_wp2_with fail
        change Has w _ (((w.alloc (.cells #[.int .i64 a0, .int .i64 a1, .int .i64 a2] 39)).alloc (.cells #[.int .i64 b0, .int .i64 b1, .int .i64 b2] 39)).alloc (.cells #[.int .i64 p0, .int .i64 p1, .int .i64 p2] 39)) at C0
        generalize ((w.alloc (.cells #[.int .i64 a0, .int .i64 a1, .int .i64 a2] 39)).alloc (.cells #[.int .i64 b0, .int .i64 b1, .int .i64 b2] 39)).alloc (.cells #[.int .i64 p0, .int .i64 p1, .int .i64 p2] 39) = w0 at *
        obtain ⟨⟨k0, k1, k2, k3, k4, k5, k6, k7, k8⟩, -⟩ := C0.three3
        go_wp2_with fail
        refine (Has.call C0 (far_is a0 a1 a2 _ H0.out _)).mono ?_
        rintro e w1 ⟨rfl, C1⟩
        clear k0 k1 k2 k3 k4 k5 k6 k7 k8
        obtain ⟨⟨k0, k1, k2, k3, k4, k5, k6, k7, k8⟩, -⟩ := C1.three3
        go_wp2_with fail
        refine (Has.call C1 (far_is b0 b1 b2 _ H1.out _)).mono ?_
        rintro e w2 ⟨rfl, C2⟩
        clear k0 k1 k2 k3 k4 k5 k6 k7 k8
        obtain ⟨⟨k0, k1, k2, k3, k4, k5, k6, k7, k8⟩, -⟩ := C2.three3
        go_wp2_with fail
        refine (Has.call C2 (far_is p0 p1 p2 _ H2.out _)).mono ?_
        rintro e w3 ⟨rfl, C3⟩
        clear k0 k1 k2 k3 k4 k5 k6 k7 k8
        obtain ⟨⟨k0, k1, k2, k3, k4, k5, k6, k7, k8⟩, -⟩ := C3.three3
        go_wp2_with fail
        go_ret
        exact ⟨ret_i HV.out, C3.low⟩
      · skip
        have HV := Lib.hid (sideS_yes a0 a1 a2 b0 b1 b2 p0 p1 p2 h0 h1 h2)
        have B := sbd_all h0 h1 h2
        obtain ⟨⟨hb1, hb2, hb3, hb4, hb5, hb6⟩, ⟨ha1, ha2, ha3, ha4, ha5, ha6⟩, ⟨hp1, hp2, hp3, hp4, hp5, hp6⟩, -⟩ := B
        have m1 := mul_bds b0 a2 (by omega) (by omega)
        have m2 := mul_bds a0 b2 (by omega) (by omega)
        have m3 := mul_bds b1 a2 (by omega) (by omega)
        have m4 := mul_bds a1 b2 (by omega) (by omega)
        have m5 := mul_bds p0 a2 (by omega) (by omega)
        have m6 := mul_bds a0 p2 (by omega) (by omega)
        have m7 := mul_bds p1 a2 (by omega) (by omega)
        have m8 := mul_bds a1 p2 (by omega) (by omega)
        have B := sbd_all h0 h1 h2
        have H0 := Lib.hid (show (!sbd a0 a1 a2) = false by rw [h0]; rfl)
        have H1 := Lib.hid (show (!sbd b0 b1 b2) = false by rw [h1]; rfl)
        have H2 := Lib.hid (show (!sbd p0 p1 p2) = false by rw [h2]; rfl)
        have HB := Lib.hid B
        clear h0 h1 h2 B
        go_enter Try.func51, Try.ntmps51
        go_wp2_with fail
        change Has w _ (((w.alloc (.cells #[.int .i64 a0, .int .i64 a1, .int .i64 a2] 39)).alloc (.cells #[.int .i64 b0, .int .i64 b1, .int .i64 b2] 39)).alloc (.cells #[.int .i64 p0, .int .i64 p1, .int .i64 p2] 39)) at C0
        generalize ((w.alloc (.cells #[.int .i64 a0, .int .i64 a1, .int .i64 a2] 39)).alloc (.cells #[.int .i64 b0, .int .i64 b1, .int .i64 b2] 39)).alloc (.cells #[.int .i64 p0, .int .i64 p1, .int .i64 p2] 39) = w0 at *
        obtain ⟨⟨k0, k1, k2, k3, k4, k5, k6, k7, k8⟩, -⟩ := C0.three3
        go_wp2_with fail
        refine (Has.call C0 (far_is a0 a1 a2 _ H0.out _)).mono ?_
        rintro e w1 ⟨rfl, C1⟩
        clear k0 k1 k2 k3 k4 k5 k6 k7 k8
        obtain ⟨⟨k0, k1, k2, k3, k4, k5, k6, k7, k8⟩, -⟩ := C1.three3
        go_wp2_with fail
        refine (Has.call C1 (far_is b0 b1 b2 _ H1.out _)).mono ?_
        rintro e w2 ⟨rfl, C2⟩
        clear k0 k1 k2 k3 k4 k5 k6 k7 k8
        obtain ⟨⟨k0, k1, k2, k3, k4, k5, k6, k7, k8⟩, -⟩ := C2.three3
        go_wp2_with fail
        refine (Has.call C2 (far_is p0 p1 p2 _ H2.out _)).mono ?_
        rintro e w3 ⟨rfl, C3⟩
        clear k0 k1 k2 k3 k4 k5 k6 k7 k8
        obtain ⟨⟨k0, k1, k2, k3, k4, k5, k6, k7, k8⟩, -⟩ := C3.three3
        go_wp2_with fail
        refine (Has.call C3 (rsign2_any _ _ _ _ _ HB.out.2.2.2.1 HB.out.2.2.2.2.1 HB.out.2.2.2.2.2.1 HB.out.2.2.2.2.2.2)).mono ?_
        rintro e w8 ⟨rfl, C8⟩
        go_wp2_with fail
        go_ret
        exact ⟨ret_i HV.out, C8.low⟩

theorem rspotSide_is (a0 a1 a2 b0 b1 b2 p0 p1 p2 s : Int) (h : sideS a0 a1 a2 b0 b1 b2 p0 p1 p2 = s) (w : World) :
    Calls Try.prog 51 #[.agg #[.int .i64 a0, .int .i64 a1, .int .i64 a2], .agg #[.int .i64 b0, .int .i64 b1, .int .i64 b2], .agg #[.int .i64 p0, .int .i64 p1, .int .i64 p2]] w fun e w' => e = .returned (.int .i64 s) ∧ Below w.heap.size w w' := h ▸ rspotSide_any a0 a1 a2 b0 b1 b2 p0 p1 p2 w

end Go.Proofs.Ytmldgjhecoeldaa
