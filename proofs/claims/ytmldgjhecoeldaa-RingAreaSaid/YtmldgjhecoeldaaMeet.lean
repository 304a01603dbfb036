/- Meet of point. -/
import Derived.Test.YtmldgjhecoeldaaMeetN
import Derived.Test.YtmldgjhecoeldaaOn
import Derived.IntWalk
namespace Go.Proofs.Ytmldgjhecoeldaa
open Go.RowKit Go.Lib

set_option maxRecDepth 100000 in
set_option maxHeartbeats 8000000 in
theorem meet_in (a0 a1 b0 b1 c0 c1 d0 d1 sA sB sC sD s : Int) (w : World) (h0 : inl 1152921504606846976 a0 a1 = true) (h1 : inl 1152921504606846976 b0 b1 = true) (h2 : inl 1152921504606846976 c0 c1 = true) (h3 : inl 1152921504606846976 d0 d1 = true) (eA : sideOf c0 c1 d0 d1 a0 a1 = sA) (eB : sideOf c0 c1 d0 d1 b0 b1 = sB) (eC : sideOf a0 a1 b0 b1 c0 c1 = sC) (eD : sideOf a0 a1 b0 b1 d0 d1 = sD) (eo : ovl a0 a1 b0 b1 c0 c1 d0 d1 = s) :
    Calls Try.prog 98 #[.agg #[.int .i64 a0, .int .i64 a1], .agg #[.int .i64 b0, .int .i64 b1], .agg #[.int .i64 c0, .int .i64 c1], .agg #[.int .i64 d0, .int .i64 d1]] w fun e w' => e = .returned (.int .i64 (meetS sA sB sC sD s)) ∧ Below w.heap.size w w' := by
  have bA := sideOf_bd c0 c1 d0 d1 a0 a1
  have bB := sideOf_bd c0 c1 d0 d1 b0 b1
  have bC := sideOf_bd a0 a1 b0 b1 c0 c1
  have bD := sideOf_bd a0 a1 b0 b1 d0 d1
  rw [eA] at bA
  rw [eB] at bB
  rw [eC] at bC
  rw [eD] at bD
  have p1 := prod_bd bC bD
  have p2 := prod_bd bA bB
  have EA := Lib.hid eA
  have EB := Lib.hid eB
  have EC := Lib.hid eC
  have ED := Lib.hid eD
  have EO := Lib.hid eo
  clear eA eB eC eD eo
  have H0 := Lib.hid h0
  have H1 := Lib.hid h1
  have H2 := Lib.hid h2
  have H3 := Lib.hid h3
  clear h0 h1 h2 h3
  have C0 := has4 (w := w) [.int .i64 a0, .int .i64 a1] [.int .i64 b0, .int .i64 b1] [.int .i64 c0, .int .i64 c1] [.int .i64 d0, .int .i64 d1] 24 24 24 24
  go_enter Try.func98, Try.ntmps98
  go_wp2_with fail
  change Has w _ ((((w.alloc (.cells #[.int .i64 a0, .int .i64 a1] 24)).alloc (.cells #[.int .i64 b0, .int .i64 b1] 24)).alloc (.cells #[.int .i64 c0, .int .i64 c1] 24)).alloc (.cells #[.int .i64 d0, .int .i64 d1] 24)) at C0
  generalize (((w.alloc (.cells #[.int .i64 a0, .int .i64 a1] 24)).alloc (.cells #[.int .i64 b0, .int .i64 b1] 24)).alloc (.cells #[.int .i64 c0, .int .i64 c1] 24)).alloc (.cells #[.int .i64 d0, .int .i64 d1] 24) = w0 at *
  obtain ⟨⟨k0, k1, k2, k3, k4, k5, k6, k7⟩, -⟩ := C0.four
  go_wp2_with fail
  refine (Has.call C0 (bounded_is a0 a1 _ H0.out _)).mono ?_
  rintro e w1 ⟨rfl, C1⟩
  clear k0 k1 k2 k3 k4 k5 k6 k7
  obtain ⟨⟨k0, k1, k2, k3, k4, k5, k6, k7⟩, -⟩ := C1.four
  go_wp2_with fail
  refine (Has.call C1 (bounded_is b0 b1 _ H1.out _)).mono ?_
  rintro e w2 ⟨rfl, C2⟩
  clear k0 k1 k2 k3 k4 k5 k6 k7
  obtain ⟨⟨k0, k1, k2, k3, k4, k5, k6, k7⟩, -⟩ := C2.four
  go_wp2_with fail
  refine (Has.call C2 (bounded_is c0 c1 _ H2.out _)).mono ?_
  rintro e w3 ⟨rfl, C3⟩
  clear k0 k1 k2 k3 k4 k5 k6 k7
  obtain ⟨⟨k0, k1, k2, k3, k4, k5, k6, k7⟩, -⟩ := C3.four
  go_wp2_with fail
  refine (Has.call C3 (bounded_is d0 d1 _ H3.out _)).mono ?_
  rintro e w4 ⟨rfl, C4⟩
  clear k0 k1 k2 k3 k4 k5 k6 k7
  obtain ⟨⟨k0, k1, k2, k3, k4, k5, k6, k7⟩, -⟩ := C4.four
  go_wp2_with fail
  go_region_held3 (fun w' => (w'.cell? ⟨w.heap.size, 0, none⟩ = some (.int .i64 a0) ∧ w'.cell? ⟨w.heap.size, 1, none⟩ = some (.int .i64 a1) ∧ w'.cell? ⟨w.heap.size + 1, 0, none⟩ = some (.int .i64 b0) ∧ w'.cell? ⟨w.heap.size + 1, 1, none⟩ = some (.int .i64 b1) ∧ w'.cell? ⟨w.heap.size + 2, 0, none⟩ = some (.int .i64 c0) ∧ w'.cell? ⟨w.heap.size + 2, 1, none⟩ = some (.int .i64 c1) ∧ w'.cell? ⟨w.heap.size + 3, 0, none⟩ = some (.int .i64 d0) ∧ w'.cell? ⟨w.heap.size + 3, 1, none⟩ = some (.int .i64 d1)) ∧ Has w [(w.heap.size, [.int .i64 a0, .int .i64 a1]), (w.heap.size + 1, [.int .i64 b0, .int .i64 b1]), (w.heap.size + 2, [.int .i64 c0, .int .i64 c1]), (w.heap.size + 3, [.int .i64 d0, .int .i64 d1])] w')
    (first | exact C4.drew.four | exact Has.four (by assumption))
    (first
      | (go_at_call 40; (with_reducible refine (Has.call (by first | assumption | exact And.right (by assumption)) (side_is c0 c1 d0 d1 a0 a1 _ EA.out _)).mono ?_); rintro e w' ⟨rfl, hC⟩)
      | (go_at_call 40; (with_reducible refine (Has.call (by first | assumption | exact And.right (by assumption)) (side_is c0 c1 d0 d1 b0 b1 _ EB.out _)).mono ?_); rintro e w' ⟨rfl, hC⟩))
  have C5 : Has w [(w.heap.size, [.int .i64 a0, .int .i64 a1]), (w.heap.size + 1, [.int .i64 b0, .int .i64 b1]), (w.heap.size + 2, [.int .i64 c0, .int .i64 c1]), (w.heap.size + 3, [.int .i64 d0, .int .i64 d1])] _ := hC
  clear k0 k1 k2 k3 k4 k5 k6 k7
  obtain ⟨⟨k0, k1, k2, k3, k4, k5, k6, k7⟩, -⟩ := C5.four
  go_wp2_with fail
  go_region_held3 (fun w' => (w'.cell? ⟨w.heap.size, 0, none⟩ = some (.int .i64 a0) ∧ w'.cell? ⟨w.heap.size, 1, none⟩ = some (.int .i64 a1) ∧ w'.cell? ⟨w.heap.size + 1, 0, none⟩ = some (.int .i64 b0) ∧ w'.cell? ⟨w.heap.size + 1, 1, none⟩ = some (.int .i64 b1) ∧ w'.cell? ⟨w.heap.size + 2, 0, none⟩ = some (.int .i64 c0) ∧ w'.cell? ⟨w.heap.size + 2, 1, none⟩ = some (.int .i64 c1) ∧ w'.cell? ⟨w.heap.size + 3, 0, none⟩ = some (.int .i64 d0) ∧ w'.cell? ⟨w.heap.size + 3, 1, none⟩ = some (.int .i64 d1)) ∧ Has w [(w.heap.size, [.int .i64 a0, .int .i64 a1]), (w.heap.size + 1, [.int .i64 b0, .int .i64 b1]), (w.heap.size + 2, [.int .i64 c0, .int .i64 c1]), (w.heap.size + 3, [.int .i64 d0, .int .i64 d1])] w')
    (first | exact C5.drew.four | exact Has.four (by assumption))
    (first
      | (go_at_call 40; (with_reducible refine (Has.call (by first | assumption | exact And.right (by assumption)) (side_is a0 a1 b0 b1 c0 c1 _ EC.out _)).mono ?_); rintro e w' ⟨rfl, hC⟩)
      | (go_at_call 40; (with_reducible refine (Has.call (by first | assumption | exact And.right (by assumption)) (side_is a0 a1 b0 b1 d0 d1 _ ED.out _)).mono ?_); rintro e w' ⟨rfl, hC⟩))
  have C6 : Has w [(w.heap.size, [.int .i64 a0, .int .i64 a1]), (w.heap.size + 1, [.int .i64 b0, .int .i64 b1]), (w.heap.size + 2, [.int .i64 c0, .int .i64 c1]), (w.heap.size + 3, [.int .i64 d0, .int .i64 d1])] _ := hC
  clear k0 k1 k2 k3 k4 k5 k6 k7
  obtain ⟨⟨k0, k1, k2, k3, k4, k5, k6, k7⟩, -⟩ := C6.four
  clear C0 C1 C2 C3 C4 C5
  by_cases hs : sA = 0 ∧ sB = 0 ∧ sC = 0 ∧ sD = 0
  · have HV := Lib.hid (show s = meetS sA sB sC sD s by unfold meetS; rw [if_pos hs])
    have y1 : (sA == 0) = true := by rw [hs.1]; rfl
    have y2 : (sB == 0) = true := by rw [hs.2.1]; rfl
    have y3 : (sC == 0) = true := by rw [hs.2.2.1]; rfl
    have y4 : (sD == 0) = true := by rw [hs.2.2.2]; rfl
    clear hs
    go_wp2_with fail
    refine (Has.call C6 (overlap_is _ _ _ _ _ _ _ _ _ EO.out _)).mono ?_
    rintro e w7 ⟨rfl, C7⟩
    go_wp2_with fail
    go_ret
    exact ⟨ret_i HV.out, C7.low⟩
  · have HS := Lib.hid hs
    clear hs
    go_upto_region 5 with fail
    go_cut [47] (fun v wx => v = .bool false ∧ Has w [(w.heap.size, [.int .i64 a0, .int .i64 a1]), (w.heap.size + 1, [.int .i64 b0, .int .i64 b1]), (w.heap.size + 2, [.int .i64 c0, .int .i64 c1]), (w.heap.size + 3, [.int .i64 d0, .int .i64 d1])] wx)
    case first =>
      by_cases z1 : sA = 0
      · have y1 : (sA == 0) = true := by rw [z1]; rfl
        by_cases z2 : sB = 0
        · have y2 : (sB == 0) = true := by rw [z2]; rfl
          by_cases z3 : sC = 0
          · have y3 : (sC == 0) = true := by rw [z3]; rfl
            have y4 : (sD == 0) = false := by rw [beq_eq_false_iff_ne]; exact fun z => HS.out ⟨z1, z2, z3, z⟩
            clear z1 z2 z3
            go_wp2_with fail
            go_meet
            exact ⟨rfl, C6⟩
          · have y3 : (sC == 0) = false := by rw [beq_eq_false_iff_ne]; exact z3
            clear z1 z2 z3
            go_wp2_with fail
            go_meet
            exact ⟨rfl, C6⟩
        · have y2 : (sB == 0) = false := by rw [beq_eq_false_iff_ne]; exact z2
          clear z1 z2
          go_wp2_with fail
          go_meet
          exact ⟨rfl, C6⟩
      · have y1 : (sA == 0) = false := by rw [beq_eq_false_iff_ne]; exact z1
        clear z1
        go_wp2_with fail
        go_meet
        exact ⟨rfl, C6⟩
    case rest =>
      obtain ⟨rfl, D6⟩ := hcut
      by_cases q1 : sA * sB ≤ 0
      · by_cases q2 : sC * sD ≤ 0
        · have HV := Lib.hid (show (1 : Int) = meetS sA sB sC sD s by unfold meetS; rw [if_neg HS.out, if_pos ⟨q1, q2⟩])
          have x1 : decide (sA * sB ≤ 0) = true := by simp; omega
          have x2 : decide (sC * sD ≤ 0) = true := by simp; omega
          go_wp2_with fail
          go_ret
          exact ⟨ret_i HV.out, D6.low⟩
        · have HV := Lib.hid (show (0 : Int) = meetS sA sB sC sD s by unfold meetS; rw [if_neg HS.out, if_neg (fun z => q2 z.2)])
          have x1 : decide (sA * sB ≤ 0) = true := by simp; omega
          have x2 : decide (sC * sD ≤ 0) = false := by simp; omega
          go_wp2_with fail
          go_ret
          exact ⟨ret_i HV.out, D6.low⟩
      · have HV := Lib.hid (show (0 : Int) = meetS sA sB sC sD s by unfold meetS; rw [if_neg HS.out, if_neg (fun z => q1 z.1)])
        have x1 : decide (sA * sB ≤ 0) = false := by simp; omega
        go_wp2_with fail
        go_ret
        exact ⟨ret_i HV.out, D6.low⟩

theorem meet_any (a0 a1 b0 b1 c0 c1 d0 d1 : Int) (w : World) :
    Calls Try.prog 98 #[.agg #[.int .i64 a0, .int .i64 a1], .agg #[.int .i64 b0, .int .i64 b1], .agg #[.int .i64 c0, .int .i64 c1], .agg #[.int .i64 d0, .int .i64 d1]] w fun e w' => e = .returned (.int .i64 (meetOf a0 a1 b0 b1 c0 c1 d0 d1)) ∧ Below w.heap.size w w' := by
  by_cases h : inl 1152921504606846976 a0 a1 = true ∧ inl 1152921504606846976 b0 b1 = true ∧ inl 1152921504606846976 c0 c1 = true ∧ inl 1152921504606846976 d0 d1 = true
  · obtain ⟨h0, h1, h2, h3⟩ := h
    rw [meet_yes h0 h1 h2 h3 rfl rfl rfl rfl rfl]
    exact meet_in a0 a1 b0 b1 c0 c1 d0 d1 _ _ _ _ _ w h0 h1 h2 h3 rfl rfl rfl rfl rfl
  · exact meet_no a0 a1 b0 b1 c0 c1 d0 d1 w h
theorem meet_is (a0 a1 b0 b1 c0 c1 d0 d1 s : Int) (h : meetOf a0 a1 b0 b1 c0 c1 d0 d1 = s) (w : World) :
    Calls Try.prog 98 #[.agg #[.int .i64 a0, .int .i64 a1], .agg #[.int .i64 b0, .int .i64 b1], .agg #[.int .i64 c0, .int .i64 c1], .agg #[.int .i64 d0, .int .i64 d1]] w fun e w' => e = .returned (.int .i64 s) ∧ Below w.heap.size w w' := h ▸ meet_any a0 a1 b0 b1 c0 c1 d0 d1 w

end Go.Proofs.Ytmldgjhecoeldaa
