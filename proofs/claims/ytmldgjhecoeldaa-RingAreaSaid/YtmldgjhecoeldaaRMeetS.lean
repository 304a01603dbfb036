/- Meet of the reference, where the ends do not all lie on one line. -/
import Derived.Test.YtmldgjhecoeldaaMeetD
import Derived.Test.YtmldgjhecoeldaaRSide
import Derived.Test.YtmldgjhecoeldaaHeld
import Derived.IntWalk
namespace Go.Proofs.Ytmldgjhecoeldaa
open Go.RowKit Go.Lib

set_option maxRecDepth 100000 in
set_option maxHeartbeats 8000000 in
theorem rmeet_skew (a0 a1 b0 b1 c0 c1 d0 d1 sA sB sC sD : Int) (w : World) (h0 : inl 1152921504606846976 a0 a1 = true) (h1 : inl 1152921504606846976 b0 b1 = true) (h2 : inl 1152921504606846976 c0 c1 = true) (h3 : inl 1152921504606846976 d0 d1 = true) (eA : sideOf c0 c1 d0 d1 a0 a1 = sA) (eB : sideOf c0 c1 d0 d1 b0 b1 = sB) (eC : sideOf a0 a1 b0 b1 c0 c1 = sC) (eD : sideOf a0 a1 b0 b1 d0 d1 = sD) (hs : ¬ (sA = 0 ∧ sB = 0 ∧ sC = 0 ∧ sD = 0)) :
    Calls Try.prog 57 #[.agg #[.int .i64 a0, .int .i64 a1], .agg #[.int .i64 b0, .int .i64 b1], .agg #[.int .i64 c0, .int .i64 c1], .agg #[.int .i64 d0, .int .i64 d1]] w fun e w' => e = .returned (.int .i64 (if sA * sB ≤ 0 ∧ sC * sD ≤ 0 then 1 else 0)) ∧ Below w.heap.size w w' := by
  have bA := sideOf_bd c0 c1 d0 d1 a0 a1
  have bB := sideOf_bd c0 c1 d0 d1 b0 b1
  have bC := sideOf_bd a0 a1 b0 b1 c0 c1
  have bD := sideOf_bd a0 a1 b0 b1 d0 d1
  rw [eA] at bA
  rw [eB] at bB
  rw [eC] at bC
  rw [eD] at bD
  have p1 := prod_bd bC bD
  have p2 := prod_bd bA bB
  have nab : sA * sB ≤ 0 → sC * sD ≤ 0 → ¬ (a0 = b0 ∧ a1 = b1) := by
    rintro q1 q2 ⟨rfl, rfl⟩
    have z1 := sideOf_same a0 a1 c0 c1
    have z2 := sideOf_same a0 a1 d0 d1
    rw [eC] at z1
    rw [eD] at z2
    rw [eA] at eB
    subst eB
    have := self_pos bA (by omega)
    omega
  have ncd : sA * sB ≤ 0 → sC * sD ≤ 0 → ¬ (c0 = d0 ∧ c1 = d1) := by
    rintro q1 q2 ⟨rfl, rfl⟩
    have z1 := sideOf_same c0 c1 a0 a1
    have z2 := sideOf_same c0 c1 b0 b1
    rw [eA] at z1
    rw [eB] at z2
    rw [eC] at eD
    subst eD
    have := self_pos bC (by omega)
    omega
  have NAB := Lib.hid nab
  have NCD := Lib.hid ncd
  clear nab ncd
  have EA := Lib.hid eA
  have EB := Lib.hid eB
  have EC := Lib.hid eC
  have ED := Lib.hid eD
  have HS := Lib.hid hs
  clear eA eB eC eD hs
  have H0 := Lib.hid h0
  have H1 := Lib.hid h1
  have H2 := Lib.hid h2
  have H3 := Lib.hid h3
  clear h0 h1 h2 h3
  have C0 := has4 (w := w) [.int .i64 a0, .int .i64 a1] [.int .i64 b0, .int .i64 b1] [.int .i64 c0, .int .i64 c1] [.int .i64 d0, .int .i64 d1] 24 24 24 24
  go_enter Try.func57, Try.ntmps57
  go_wp2_with fail
  change Has w _ ((((w.alloc (.cells #[.int .i64 a0, .int .i64 a1] 24)).alloc (.cells #[.int .i64 b0, .int .i64 b1] 24)).alloc (.cells #[.int .i64 c0, .int .i64 c1] 24)).alloc (.cells #[.int .i64 d0, .int .i64 d1] 24)) at C0
  generalize (((w.alloc (.cells #[.int .i64 a0, .int .i64 a1] 24)).alloc (.cells #[.int .i64 b0, .int .i64 b1] 24)).alloc (.cells #[.int .i64 c0, .int .i64 c1] 24)).alloc (.cells #[.int .i64 d0, .int .i64 d1] 24) = w0 at *
  obtain ⟨⟨k0, k1, k2, k3, k4, k5, k6, k7⟩, -⟩ := C0.four
  go_wp2_with fail
  refine (Has.call C0 (rbounded_is a0 a1 _ H0.out _)).mono ?_
  rintro e w1 ⟨rfl, C1⟩
  clear k0 k1 k2 k3 k4 k5 k6 k7
  obtain ⟨⟨k0, k1, k2, k3, k4, k5, k6, k7⟩, -⟩ := C1.four
  go_wp2_with fail
  refine (Has.call C1 (rbounded_is b0 b1 _ H1.out _)).mono ?_
  rintro e w2 ⟨rfl, C2⟩
  clear k0 k1 k2 k3 k4 k5 k6 k7
  obtain ⟨⟨k0, k1, k2, k3, k4, k5, k6, k7⟩, -⟩ := C2.four
  go_wp2_with fail
  refine (Has.call C2 (rbounded_is c0 c1 _ H2.out _)).mono ?_
  rintro e w3 ⟨rfl, C3⟩
  clear k0 k1 k2 k3 k4 k5 k6 k7
  obtain ⟨⟨k0, k1, k2, k3, k4, k5, k6, k7⟩, -⟩ := C3.four
  go_wp2_with fail
  refine (Has.call C3 (rbounded_is d0 d1 _ H3.out _)).mono ?_
  rintro e w4 ⟨rfl, C4⟩
  clear k0 k1 k2 k3 k4 k5 k6 k7
  obtain ⟨⟨k0, k1, k2, k3, k4, k5, k6, k7⟩, -⟩ := C4.four
  go_upto_region 3 with fail
  go_cut [9] (fun v wx => v = .bool false ∧ Has w [(w.heap.size, [.int .i64 a0, .int .i64 a1]), (w.heap.size + 1, [.int .i64 b0, .int .i64 b1]), (w.heap.size + 2, [.int .i64 c0, .int .i64 c1]), (w.heap.size + 3, [.int .i64 d0, .int .i64 d1])] wx)
  case first =>
    by_cases z1 : sC = 0
    · have y1 : (sC == 0) = true := by rw [z1]; rfl
      by_cases z2 : sD = 0
      · have y2 : (sD == 0) = true := by rw [z2]; rfl
        by_cases z3 : sA = 0
        · have y3 : (sA == 0) = true := by rw [z3]; rfl
          have y4 : (sB == 0) = false := by rw [beq_eq_false_iff_ne]; exact fun z => HS.out ⟨z3, z, z1, z2⟩
          clear z1 z2 z3
          go_wp2_with fail
          refine (Has.call C4 (rside_is a0 a1 b0 b1 c0 c1 _ EC.out _)).mono ?_
          rintro e w5 ⟨rfl, C5⟩
          clear k0 k1 k2 k3 k4 k5 k6 k7
          obtain ⟨⟨k0, k1, k2, k3, k4, k5, k6, k7⟩, -⟩ := C5.four
          go_wp2_with fail
          refine (Has.call C5 (rside_is a0 a1 b0 b1 d0 d1 _ ED.out _)).mono ?_
          rintro e w6 ⟨rfl, C6⟩
          clear k0 k1 k2 k3 k4 k5 k6 k7
          obtain ⟨⟨k0, k1, k2, k3, k4, k5, k6, k7⟩, -⟩ := C6.four
          go_wp2_with fail
          refine (Has.call C6 (rside_is c0 c1 d0 d1 a0 a1 _ EA.out _)).mono ?_
          rintro e w7 ⟨rfl, C7⟩
          clear k0 k1 k2 k3 k4 k5 k6 k7
          obtain ⟨⟨k0, k1, k2, k3, k4, k5, k6, k7⟩, -⟩ := C7.four
          go_wp2_with fail
          refine (Has.call C7 (rside_is c0 c1 d0 d1 b0 b1 _ EB.out _)).mono ?_
          rintro e w8 ⟨rfl, C8⟩
          clear k0 k1 k2 k3 k4 k5 k6 k7
          obtain ⟨⟨k0, k1, k2, k3, k4, k5, k6, k7⟩, -⟩ := C8.four
          go_wp2_with fail
          go_meet
          exact ⟨rfl, C8⟩
        · have y3 : (sA == 0) = false := by rw [beq_eq_false_iff_ne]; exact z3
          clear z1 z2 z3
          go_wp2_with fail
          refine (Has.call C4 (rside_is a0 a1 b0 b1 c0 c1 _ EC.out _)).mono ?_
          rintro e w5 ⟨rfl, C5⟩
          clear k0 k1 k2 k3 k4 k5 k6 k7
          obtain ⟨⟨k0, k1, k2, k3, k4, k5, k6, k7⟩, -⟩ := C5.four
          go_wp2_with fail
          refine (Has.call C5 (rside_is a0 a1 b0 b1 d0 d1 _ ED.out _)).mono ?_
          rintro e w6 ⟨rfl, C6⟩
          clear k0 k1 k2 k3 k4 k5 k6 k7
          obtain ⟨⟨k0, k1, k2, k3, k4, k5, k6, k7⟩, -⟩ := C6.four
          go_wp2_with fail
          refine (Has.call C6 (rside_is c0 c1 d0 d1 a0 a1 _ EA.out _)).mono ?_
          rintro e w7 ⟨rfl, C7⟩
          clear k0 k1 k2 k3 k4 k5 k6 k7
          obtain ⟨⟨k0, k1, k2, k3, k4, k5, k6, k7⟩, -⟩ := C7.four
          go_wp2_with fail
          go_meet
          exact ⟨rfl, C7⟩
      · have y2 : (sD == 0) = false := by rw [beq_eq_false_iff_ne]; exact z2
        clear z1 z2
        go_wp2_with fail
        refine (Has.call C4 (rside_is a0 a1 b0 b1 c0 c1 _ EC.out _)).mono ?_
        rintro e w5 ⟨rfl, C5⟩
        clear k0 k1 k2 k3 k4 k5 k6 k7
        obtain ⟨⟨k0, k1, k2, k3, k4, k5, k6, k7⟩, -⟩ := C5.four
        go_wp2_with fail
        refine (Has.call C5 (rside_is a0 a1 b0 b1 d0 d1 _ ED.out _)).mono ?_
        rintro e w6 ⟨rfl, C6⟩
        clear k0 k1 k2 k3 k4 k5 k6 k7
        obtain ⟨⟨k0, k1, k2, k3, k4, k5, k6, k7⟩, -⟩ := C6.four
        go_wp2_with fail
        go_meet
        exact ⟨rfl, C6⟩
    · have y1 : (sC == 0) = false := by rw [beq_eq_false_iff_ne]; exact z1
      clear z1
      go_wp2_with fail
      refine (Has.call C4 (rside_is a0 a1 b0 b1 c0 c1 _ EC.out _)).mono ?_
      rintro e w5 ⟨rfl, C5⟩
      clear k0 k1 k2 k3 k4 k5 k6 k7
      obtain ⟨⟨k0, k1, k2, k3, k4, k5, k6, k7⟩, -⟩ := C5.four
      go_wp2_with fail
      go_meet
      exact ⟨rfl, C5⟩
  case rest =>
    obtain ⟨rfl, D0⟩ := hcut
    clear C0 C1 C2 C3 C4 k0 k1 k2 k3 k4 k5 k6 k7
    obtain ⟨⟨k0, k1, k2, k3, k4, k5, k6, k7⟩, -⟩ := D0.four
    have m1 : IntKind.i64.wrap (sC * sD) = sC * sD := IntWalk.i64_in _ (by omega)
    have m2 : IntKind.i64.wrap (sA * sB) = sA * sB := IntWalk.i64_in _ (by omega)
    go_wp2_with fail
    by_cases q1 : sC * sD ≤ 0
    · by_cases q2 : sA * sB ≤ 0
      · have HV := Lib.hid (show (1 : Int) = if sA * sB ≤ 0 ∧ sC * sD ≤ 0 then 1 else 0 by rw [if_pos ⟨q2, q1⟩])
        have nab := NAB.out q2 q1
        have ncd := NCD.out q2 q1
        have NA := Lib.hid nab
        have NC := Lib.hid ncd
        clear nab ncd NAB NCD
        have x1 : decide (0 < sC * sD) = false := by simp; omega
        have x2 : decide (0 < sA * sB) = false := by simp; omega
        go_region_held3 (fun w' => (w'.cell? ⟨w.heap.size, 0, none⟩ = some (.int .i64 a0) ∧ w'.cell? ⟨w.heap.size, 1, none⟩ = some (.int .i64 a1) ∧ w'.cell? ⟨w.heap.size + 1, 0, none⟩ = some (.int .i64 b0) ∧ w'.cell? ⟨w.heap.size + 1, 1, none⟩ = some (.int .i64 b1) ∧ w'.cell? ⟨w.heap.size + 2, 0, none⟩ = some (.int .i64 c0) ∧ w'.cell? ⟨w.heap.size + 2, 1, none⟩ = some (.int .i64 c1) ∧ w'.cell? ⟨w.heap.size + 3, 0, none⟩ = some (.int .i64 d0) ∧ w'.cell? ⟨w.heap.size + 3, 1, none⟩ = some (.int .i64 d1)) ∧ Has w [(w.heap.size, [.int .i64 a0, .int .i64 a1]), (w.heap.size + 1, [.int .i64 b0, .int .i64 b1]), (w.heap.size + 2, [.int .i64 c0, .int .i64 c1]), (w.heap.size + 3, [.int .i64 d0, .int .i64 d1])] w')
          (first | exact D0.drew.four | exact Has.four (by assumption))
          (first
            | (go_at_call 42; (with_reducible refine (Has.call (by first | assumption | exact And.right (by assumption)) (rside_is a0 a1 b0 b1 c0 c1 _ EC.out _)).mono ?_); rintro e w' ⟨rfl, hC⟩)
            | (go_at_call 42; (with_reducible refine (Has.call (by first | assumption | exact And.right (by assumption)) (rside_is a0 a1 b0 b1 d0 d1 _ ED.out _)).mono ?_); rintro e w' ⟨rfl, hC⟩)
            | (go_at_call 42; (with_reducible refine (Has.call (by first | assumption | exact And.right (by assumption)) (rside_is c0 c1 d0 d1 a0 a1 _ EA.out _)).mono ?_); rintro e w' ⟨rfl, hC⟩)
            | (go_at_call 42; (with_reducible refine (Has.call (by first | assumption | exact And.right (by assumption)) (rside_is c0 c1 d0 d1 b0 b1 _ EB.out _)).mono ?_); rintro e w' ⟨rfl, hC⟩))
        have D1 : Has w [(w.heap.size, [.int .i64 a0, .int .i64 a1]), (w.heap.size + 1, [.int .i64 b0, .int .i64 b1]), (w.heap.size + 2, [.int .i64 c0, .int .i64 c1]), (w.heap.size + 3, [.int .i64 d0, .int .i64 d1])] _ := hC
        clear k0 k1 k2 k3 k4 k5 k6 k7
        obtain ⟨⟨k0, k1, k2, k3, k4, k5, k6, k7⟩, -⟩ := D1.four
        have hab : (a0 == b0) = false ∨ ((a0 == b0) = true ∧ (a1 == b1) = false) := by
          by_cases z : a0 = b0
          · exact Or.inr ⟨by rw [z]; simp, by rw [beq_eq_false_iff_ne]; exact fun y => NA.out ⟨z, y⟩⟩
          · exact Or.inl (by rw [beq_eq_false_iff_ne]; exact z)
        have hcd : (c0 == d0) = false ∨ ((c0 == d0) = true ∧ (c1 == d1) = false) := by
          by_cases z : c0 = d0
          · exact Or.inr ⟨by rw [z]; simp, by rw [beq_eq_false_iff_ne]; exact fun y => NC.out ⟨z, y⟩⟩
          · exact Or.inl (by rw [beq_eq_false_iff_ne]; exact z)
        rcases hab with r1 | ⟨r1, r2⟩ <;> rcases hcd with r3 | ⟨r3, r4⟩
        all_goals
          go_wp2_with fail
          go_ret
          first | exact ⟨ret_i HV.out, D1.low⟩ | exact ⟨rfl, D1.low⟩
      · have HV := Lib.hid (show (0 : Int) = if sA * sB ≤ 0 ∧ sC * sD ≤ 0 then 1 else 0 by rw [if_neg (fun z => q2 z.1)])
        have x1 : decide (0 < sC * sD) = false := by simp; omega
        have x2 : decide (0 < sA * sB) = true := by simp; omega
        go_region_held3 (fun w' => (w'.cell? ⟨w.heap.size, 0, none⟩ = some (.int .i64 a0) ∧ w'.cell? ⟨w.heap.size, 1, none⟩ = some (.int .i64 a1) ∧ w'.cell? ⟨w.heap.size + 1, 0, none⟩ = some (.int .i64 b0) ∧ w'.cell? ⟨w.heap.size + 1, 1, none⟩ = some (.int .i64 b1) ∧ w'.cell? ⟨w.heap.size + 2, 0, none⟩ = some (.int .i64 c0) ∧ w'.cell? ⟨w.heap.size + 2, 1, none⟩ = some (.int .i64 c1) ∧ w'.cell? ⟨w.heap.size + 3, 0, none⟩ = some (.int .i64 d0) ∧ w'.cell? ⟨w.heap.size + 3, 1, none⟩ = some (.int .i64 d1)) ∧ Has w [(w.heap.size, [.int .i64 a0, .int .i64 a1]), (w.heap.size + 1, [.int .i64 b0, .int .i64 b1]), (w.heap.size + 2, [.int .i64 c0, .int .i64 c1]), (w.heap.size + 3, [.int .i64 d0, .int .i64 d1])] w')
          (first | exact D0.drew.four | exact Has.four (by assumption))
          (first
            | (go_at_call 42; (with_reducible refine (Has.call (by first | assumption | exact And.right (by assumption)) (rside_is a0 a1 b0 b1 c0 c1 _ EC.out _)).mono ?_); rintro e w' ⟨rfl, hC⟩)
            | (go_at_call 42; (with_reducible refine (Has.call (by first | assumption | exact And.right (by assumption)) (rside_is a0 a1 b0 b1 d0 d1 _ ED.out _)).mono ?_); rintro e w' ⟨rfl, hC⟩)
            | (go_at_call 42; (with_reducible refine (Has.call (by first | assumption | exact And.right (by assumption)) (rside_is c0 c1 d0 d1 a0 a1 _ EA.out _)).mono ?_); rintro e w' ⟨rfl, hC⟩)
            | (go_at_call 42; (with_reducible refine (Has.call (by first | assumption | exact And.right (by assumption)) (rside_is c0 c1 d0 d1 b0 b1 _ EB.out _)).mono ?_); rintro e w' ⟨rfl, hC⟩))
        have D1 : Has w [(w.heap.size, [.int .i64 a0, .int .i64 a1]), (w.heap.size + 1, [.int .i64 b0, .int .i64 b1]), (w.heap.size + 2, [.int .i64 c0, .int .i64 c1]), (w.heap.size + 3, [.int .i64 d0, .int .i64 d1])] _ := hC
        clear k0 k1 k2 k3 k4 k5 k6 k7
        obtain ⟨⟨k0, k1, k2, k3, k4, k5, k6, k7⟩, -⟩ := D1.four
        go_wp2_with fail
        go_ret
        first | exact ⟨ret_i HV.out, D1.low⟩ | exact ⟨rfl, D1.low⟩
    · have HV := Lib.hid (show (0 : Int) = if sA * sB ≤ 0 ∧ sC * sD ≤ 0 then 1 else 0 by rw [if_neg (fun z => q1 z.2)])
      have x1 : decide (0 < sC * sD) = true := by simp; omega
      have x2 : 0 < sC * sD := by omega
      refine wp_region_held_drew (S := (fun w' => (w'.cell? ⟨w.heap.size, 0, none⟩ = some (.int .i64 a0) ∧ w'.cell? ⟨w.heap.size, 1, none⟩ = some (.int .i64 a1) ∧ w'.cell? ⟨w.heap.size + 1, 0, none⟩ = some (.int .i64 b0) ∧ w'.cell? ⟨w.heap.size + 1, 1, none⟩ = some (.int .i64 b1) ∧ w'.cell? ⟨w.heap.size + 2, 0, none⟩ = some (.int .i64 c0) ∧ w'.cell? ⟨w.heap.size + 2, 1, none⟩ = some (.int .i64 c1) ∧ w'.cell? ⟨w.heap.size + 3, 0, none⟩ = some (.int .i64 d0) ∧ w'.cell? ⟨w.heap.size + 3, 1, none⟩ = some (.int .i64 d1)) ∧ Has w [(w.heap.size, [.int .i64 a0, .int .i64 a1]), (w.heap.size + 1, [.int .i64 b0, .int .i64 b1]), (w.heap.size + 2, [.int .i64 c0, .int .i64 c1]), (w.heap.size + 3, [.int .i64 d0, .int .i64 d1])] w')) (by kernel_rfl) (D0.drew.four) (fun hHeld => ?_)
      refine wpAnyT_begin [0, 1, 2, 4, 5, 6] (by kernel_rfl) (by kernel_rfl) ?_
      refine wpAnyT_take (oi := ⟨some 58, Op.load 24 (Operand.tmp 4), 24, _, _, none⟩) (v := .agg #[.int .i64 a0, .int .i64 a1]) rfl (fun _ _ _ h => h) (by rfl) (by assumption) (fun wS hSw => ?_) ?_
      · (try dsimp only at hSw); go_simp
      simp only [Act.put, List.setIfInBounds_toArray, List.set_cons_zero, List.set_cons_succ]
      refine wpAnyT_take (oi := ⟨some 59, Op.load 24 (Operand.tmp 5), 24, _, _, none⟩) (v := .agg #[.int .i64 b0, .int .i64 b1]) rfl (fun _ _ _ h => h) (by rfl) (by assumption) (fun wS hSw => ?_) ?_
      · (try dsimp only at hSw); go_simp
      simp only [Act.put, List.setIfInBounds_toArray, List.set_cons_zero, List.set_cons_succ]
      refine wpAnyT_take (oi := ⟨some 60, Op.load 24 (Operand.tmp 6), 24, _, _, none⟩) (v := .agg #[.int .i64 c0, .int .i64 c1]) rfl (fun _ _ _ h => h) (by rfl) (by assumption) (fun wS hSw => ?_) ?_
      · (try dsimp only at hSw); go_simp
      simp only [Act.put, List.setIfInBounds_toArray, List.set_cons_zero, List.set_cons_succ]
      refine wpAnyT_take (oi := ⟨some 62, Op.load 24 (Operand.tmp 4), 24, _, _, none⟩) (v := .agg #[.int .i64 a0, .int .i64 a1]) rfl (fun _ _ _ h => h) (by rfl) (by assumption) (fun wS hSw => ?_) ?_
      · (try dsimp only at hSw); go_simp
      simp only [Act.put, List.setIfInBounds_toArray, List.set_cons_zero, List.set_cons_succ]
      refine wpAnyT_take (oi := ⟨some 63, Op.load 24 (Operand.tmp 5), 24, _, _, none⟩) (v := .agg #[.int .i64 b0, .int .i64 b1]) rfl (fun _ _ _ h => h) (by rfl) (by assumption) (fun wS hSw => ?_) ?_
      · (try dsimp only at hSw); go_simp
      simp only [Act.put, List.setIfInBounds_toArray, List.set_cons_zero, List.set_cons_succ]
      refine wpAnyT_take (oi := ⟨some 64, Op.load 24 (Operand.tmp 7), 24, _, _, none⟩) (v := .agg #[.int .i64 d0, .int .i64 d1]) rfl (fun _ _ _ h => h) (by rfl) (by assumption) (fun wS hSw => ?_) ?_
      · (try dsimp only at hSw); go_simp
      simp only [Act.put, List.setIfInBounds_toArray, List.set_cons_zero, List.set_cons_succ]
      refine wpAnyT_end ?_
      refine wpAnyH_listed #[true, true, true, false, true, true, true, false, false, false, false, false, false, false, false, false, false, false, false, false, false, false] (by kernel_rfl) ?_
      refine wpAnyH_ready (rs := [3]) (by kernel_rfl) (by simp) ?_
      refine AllReadyH.cons (o := ⟨some 61, Op.call { callee := Callee.value (Operand.func 42), args := #[Operand.tmp 58, Operand.tmp 59, Operand.tmp 60], argTypes := #[24, 24, 24] }, 3, _, _, none⟩) rfl (fun K hK => ?_) AllReadyH.nil
      go_simp
      go_at_call 42
      refine (Has.call hHeld.2 (rside_is a0 a1 b0 b1 c0 c1 _ EC.out _)).mono ?_
      rintro e W1 ⟨rfl, hC⟩
      go_wp2_with fail
      clear hHeld
      refine hK.out _ _ (Has.four hC) (fun hHeld => ?_)
      clear hK K
      try simp only [List.setIfInBounds_toArray, List.set_cons_zero, List.set_cons_succ]
      refine wpAnyH_listed #[true, true, true, true, true, true, true, false, false, false, false, false, false, false, false, false, false, false, false, false, false, false] (by kernel_rfl) ?_
      refine wpAnyH_ready (rs := [7]) (by kernel_rfl) (by simp) ?_
      refine AllReadyH.cons (o := ⟨some 65, Op.call { callee := Callee.value (Operand.func 42), args := #[Operand.tmp 62, Operand.tmp 63, Operand.tmp 64], argTypes := #[24, 24, 24] }, 3, _, _, none⟩) rfl (fun K hK => ?_) AllReadyH.nil
      go_simp
      go_at_call 42
      refine (Has.call hHeld.2 (rside_is a0 a1 b0 b1 d0 d1 _ ED.out _)).mono ?_
      rintro e W2 ⟨rfl, hC⟩
      go_wp2_with fail
      clear hHeld
      refine hK.out _ _ (Has.four hC) (fun hHeld => ?_)
      clear hK K
      try simp only [List.setIfInBounds_toArray, List.set_cons_zero, List.set_cons_succ]
      refine wpAnyH_listed #[true, true, true, true, true, true, true, true, false, false, false, false, false, false, false, false, false, false, false, false, false, false] (by kernel_rfl) ?_
      refine wpAnyT_begin [8, 9, 10] (by kernel_rfl) (by kernel_rfl) ?_
      refine wpAnyT_take (oi := ⟨some 66, Op.binOp BinOp.mul 3 (Operand.tmp 61) (Operand.tmp 65) 3, 3, _, _, none⟩) (v := .int .i64 (sC * sD)) rfl (fun _ _ _ h => h) (by rfl) (by assumption) (fun wS hSw => ?_) ?_
      · (try dsimp only at hSw); go_simp
      simp only [Act.put, List.setIfInBounds_toArray, List.set_cons_zero, List.set_cons_succ]
      refine wpAnyT_take (oi := ⟨some 67, Op.binOp BinOp.gtr 3 (Operand.tmp 66) (Operand.const (Value.int IntKind.i64 0)) 3, 4, _, _, none⟩) (v := .bool true) rfl (fun _ _ _ h => h) (by rfl) (by assumption) (fun wS hSw => ?_) ?_
      · (try dsimp only at hSw); go_simp
      simp only [Act.put, List.setIfInBounds_toArray, List.set_cons_zero, List.set_cons_succ]
      refine wpAnyT_take (oi := ⟨some 68, Op.move (Operand.tmp 67), 4, _, _, none⟩) (v := .bool true) rfl (fun _ _ _ h => h) (by rfl) (by assumption) (fun wS hSw => ?_) ?_
      · (try dsimp only at hSw); go_simp
      simp only [Act.put, List.setIfInBounds_toArray, List.set_cons_zero, List.set_cons_succ]
      refine wpAnyT_end ?_
      refine wpAnyH_listed #[true, true, true, true, true, true, true, true, true, true, true, false, false, false, false, false, false, false, false, false, false, false] (by kernel_rfl) ?_
      refine wpAnyT_begin [11, 12, 13, 14, 15, 16] (by kernel_rfl) (by kernel_rfl) ?_
      refine wpAnyT_skip (oi := ⟨some 69, Op.load 24 (Operand.tmp 6), 24, _, _, some (10, false)⟩) rfl (fun _ _ _ h => h) (by rfl) (by assumption) ?_
      simp only [Act.put, List.setIfInBounds_toArray, List.set_cons_zero, List.set_cons_succ]
      refine wpAnyT_skip (oi := ⟨some 70, Op.load 24 (Operand.tmp 7), 24, _, _, some (10, false)⟩) rfl (fun _ _ _ h => h) (by rfl) (by assumption) ?_
      simp only [Act.put, List.setIfInBounds_toArray, List.set_cons_zero, List.set_cons_succ]
      refine wpAnyT_skip (oi := ⟨some 71, Op.load 24 (Operand.tmp 4), 24, _, _, some (10, false)⟩) rfl (fun _ _ _ h => h) (by rfl) (by assumption) ?_
      simp only [Act.put, List.setIfInBounds_toArray, List.set_cons_zero, List.set_cons_succ]
      refine wpAnyT_skip (oi := ⟨some 72, Op.call { callee := Callee.value (Operand.func 42), args := #[Operand.tmp 69, Operand.tmp 70, Operand.tmp 71], argTypes := #[24, 24, 24] }, 3, _, _, some (10, false)⟩) rfl (fun _ _ _ h => h) (by rfl) (by assumption) ?_
      simp only [Act.put, List.setIfInBounds_toArray, List.set_cons_zero, List.set_cons_succ]
      refine wpAnyT_skip (oi := ⟨some 73, Op.load 24 (Operand.tmp 6), 24, _, _, some (10, false)⟩) rfl (fun _ _ _ h => h) (by rfl) (by assumption) ?_
      simp only [Act.put, List.setIfInBounds_toArray, List.set_cons_zero, List.set_cons_succ]
      refine wpAnyT_skip (oi := ⟨some 74, Op.load 24 (Operand.tmp 7), 24, _, _, some (10, false)⟩) rfl (fun _ _ _ h => h) (by rfl) (by assumption) ?_
      simp only [Act.put, List.setIfInBounds_toArray, List.set_cons_zero, List.set_cons_succ]
      refine wpAnyT_end ?_
      refine wpAnyH_listed #[true, true, true, true, true, true, true, true, true, true, true, true, true, true, true, true, true, false, false, false, false, false] (by kernel_rfl) ?_
      refine wpAnyT_begin [17, 18, 19, 20] (by kernel_rfl) (by kernel_rfl) ?_
      refine wpAnyT_skip (oi := ⟨some 75, Op.load 24 (Operand.tmp 5), 24, _, _, some (10, false)⟩) rfl (fun _ _ _ h => h) (by rfl) (by assumption) ?_
      simp only [Act.put, List.setIfInBounds_toArray, List.set_cons_zero, List.set_cons_succ]
      refine wpAnyT_skip (oi := ⟨some 76, Op.call { callee := Callee.value (Operand.func 42), args := #[Operand.tmp 73, Operand.tmp 74, Operand.tmp 75], argTypes := #[24, 24, 24] }, 3, _, _, some (10, false)⟩) rfl (fun _ _ _ h => h) (by rfl) (by assumption) ?_
      simp only [Act.put, List.setIfInBounds_toArray, List.set_cons_zero, List.set_cons_succ]
      refine wpAnyT_skip (oi := ⟨some 77, Op.binOp BinOp.mul 3 (Operand.tmp 72) (Operand.tmp 76) 3, 3, _, _, some (10, false)⟩) rfl (fun _ _ _ h => h) (by rfl) (by assumption) ?_
      simp only [Act.put, List.setIfInBounds_toArray, List.set_cons_zero, List.set_cons_succ]
      refine wpAnyT_skip (oi := ⟨some 78, Op.binOp BinOp.gtr 3 (Operand.tmp 77) (Operand.const (Value.int IntKind.i64 0)) 3, 4, _, _, some (10, false)⟩) rfl (fun _ _ _ h => h) (by rfl) (by assumption) ?_
      simp only [Act.put, List.setIfInBounds_toArray, List.set_cons_zero, List.set_cons_succ]
      refine wpAnyT_end ?_
      refine wpAnyH_listed #[true, true, true, true, true, true, true, true, true, true, true, true, true, true, true, true, true, true, true, true, true, false] (by kernel_rfl) ?_
      refine wpAnyT_begin [21] (by kernel_rfl) (by kernel_rfl) ?_
      refine wpAnyT_take (oi := ⟨some 79, Op.pick (Operand.tmp 68) (Operand.const (Value.bool true)) (Operand.tmp 78), 4, _, _, none⟩) (v := .bool true) rfl (fun _ _ _ h => h) (by rfl) (by assumption) (fun wS hSw => ?_) ?_
      · (try dsimp only at hSw); go_simp
      simp only [Act.put, List.setIfInBounds_toArray, List.set_cons_zero, List.set_cons_succ]
      refine wpAnyT_end ?_
      refine wpAnyH_listed #[true, true, true, true, true, true, true, true, true, true, true, true, true, true, true, true, true, true, true, true, true, true] (by kernel_rfl) ?_
      refine wpAnyH_done (by kernel_rfl) ?_ _
      have D1 : Has w [(w.heap.size, [.int .i64 a0, .int .i64 a1]), (w.heap.size + 1, [.int .i64 b0, .int .i64 b1]), (w.heap.size + 2, [.int .i64 c0, .int .i64 c1]), (w.heap.size + 3, [.int .i64 d0, .int .i64 d1])] _ := hHeld.2
      clear k0 k1 k2 k3 k4 k5 k6 k7
      go_wp2_with fail
      go_ret
      first | exact ⟨ret_i HV.out, D1.low⟩ | exact ⟨rfl, D1.low⟩


end Go.Proofs.Ytmldgjhecoeldaa
