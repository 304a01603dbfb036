/- point.side at the type of points. -/
import Derived.Test.YtmldgjhecoeldaaBd
import Derived.Test.YtmldgjhecoeldaaHeld
namespace Go.Proofs.Ytmldgjhecoeldaa
open Go.RowKit Go.Lib

set_option maxRecDepth 100000 in
set_option maxHeartbeats 8000000 in
theorem sideP_any (a0 a1 b0 b1 p0 p1 : Int) (w : World) :
    Calls Try.prog 67 #[.agg #[.int .i64 a0, .int .i64 a1], .agg #[.int .i64 b0, .int .i64 b1], .agg #[.int .i64 p0, .int .i64 p1], .func (.func 63) #[] #[], .func (.func 68) #[] #[]] w fun e w' => e = .returned (.int .i64 (sideOf a0 a1 b0 b1 p0 p1)) ∧ Below w.heap.size w w' := by
  have C0 := has3 (w := w) [.int .i64 a0, .int .i64 a1] [.int .i64 b0, .int .i64 b1] [.int .i64 p0, .int .i64 p1] 24 24 24
  cases h0 : inl 1152921504606846976 a0 a1
  · have HV := Lib.hid (sideOf_no0 a0 a1 b0 b1 p0 p1 h0)
    have H0 := Lib.hid h0
    clear h0
    go_enter Try.func67, Try.ntmps67
    go_wp2_with fail
    change Has w _ (((w.alloc (.cells #[.int .i64 a0, .int .i64 a1] 24)).alloc (.cells #[.int .i64 b0, .int .i64 b1] 24)).alloc (.cells #[.int .i64 p0, .int .i64 p1] 24)) at C0
    generalize ((w.alloc (.cells #[.int .i64 a0, .int .i64 a1] 24)).alloc (.cells #[.int .i64 b0, .int .i64 b1] 24)).alloc (.cells #[.int .i64 p0, .int .i64 p1] 24) = w0 at *
    obtain ⟨⟨k0, k1, k2, k3, k4, k5⟩, -⟩ := C0.three
    go_wp2_with fail
    refine (Has.call C0 (bounded_is a0 a1 _ H0.out _)).mono ?_
    rintro e w1 ⟨rfl, C1⟩
    clear k0 k1 k2 k3 k4 k5
    obtain ⟨⟨k0, k1, k2, k3, k4, k5⟩, -⟩ := C1.three
    go_wp2_with fail
    go_ret
    exact ⟨ret_i HV.out, C1.low⟩
  · skip
    cases h1 : inl 1152921504606846976 b0 b1
    · have HV := Lib.hid (sideOf_no1 a0 a1 b0 b1 p0 p1 h1)
      have H0 := Lib.hid h0
      have H1 := Lib.hid h1
      clear h0 h1
      go_enter Try.func67, Try.ntmps67
      go_wp2_with fail
      change Has w _ (((w.alloc (.cells #[.int .i64 a0, .int .i64 a1] 24)).alloc (.cells #[.int .i64 b0, .int .i64 b1] 24)).alloc (.cells #[.int .i64 p0, .int .i64 p1] 24)) at C0
      generalize ((w.alloc (.cells #[.int .i64 a0, .int .i64 a1] 24)).alloc (.cells #[.int .i64 b0, .int .i64 b1] 24)).alloc (.cells #[.int .i64 p0, .int .i64 p1] 24) = w0 at *
      obtain ⟨⟨k0, k1, k2, k3, k4, k5⟩, -⟩ := C0.three
      go_wp2_with fail
      refine (Has.call C0 (bounded_is a0 a1 _ H0.out _)).mono ?_
      rintro e w1 ⟨rfl, C1⟩
      clear k0 k1 k2 k3 k4 k5
      obtain ⟨⟨k0, k1, k2, k3, k4, k5⟩, -⟩ := C1.three
      go_wp2_with fail
      refine (Has.call C1 (bounded_is b0 b1 _ H1.out _)).mono ?_
      rintro e w2 ⟨rfl, C2⟩
      clear k0 k1 k2 k3 k4 k5
      obtain ⟨⟨k0, k1, k2, k3, k4, k5⟩, -⟩ := C2.three
      go_wp2_with fail
      go_ret
      exact ⟨ret_i HV.out, C2.low⟩
    · skip
      cases h2 : inl 1152921504606846976 p0 p1
      · have HV := Lib.hid (sideOf_no2 a0 a1 b0 b1 p0 p1 h2)
        have H0 := Lib.hid h0
        have H1 := Lib.hid h1
        have H2 := Lib.hid h2
        clear h0 h1 h2
        go_enter Try.func67, Try.ntmps67
        go_wp2_with fail
        change Has w _ (((w.alloc (.cells #[.int .i64 a0, .int .i64 a1] 24)).alloc (.cells #[.int .i64 b0, .int .i64 b1] 24)).alloc (.cells #[.int .i64 p0, .int .i64 p1] 24)) at C0
        generalize ((w.alloc (.cells #[.int .i64 a0, .int .i64 a1] 24)).alloc (.cells #[.int .i64 b0, .int .i64 b1] 24)).alloc (.cells #[.int .i64 p0, .int .i64 p1] 24) = w0 at *
        obtain ⟨⟨k0, k1, k2, k3, k4, k5⟩, -⟩ := C0.three
        go_wp2_with fail
        refine (Has.call C0 (bounded_is a0 a1 _ H0.out _)).mono ?_
        rintro e w1 ⟨rfl, C1⟩
        clear k0 k1 k2 k3 k4 k5
        obtain ⟨⟨k0, k1, k2, k3, k4, k5⟩, -⟩ := C1.three
        go_wp2_with fail
        refine (Has.call C1 (bounded_is b0 b1 _ H1.out _)).mono ?_
        rintro e w2 ⟨rfl, C2⟩
        clear k0 k1 k2 k3 k4 k5
        obtain ⟨⟨k0, k1, k2, k3, k4, k5⟩, -⟩ := C2.three
        go_wp2_with fail
        refine (Has.call C2 (bounded_is p0 p1 _ H2.out _)).mono ?_
        rintro e w3 ⟨rfl, C3⟩
        clear k0 k1 k2 k3 k4 k5
        obtain ⟨⟨k0, k1, k2, k3, k4, k5⟩, -⟩ := C3.three
        go_wp2_with fail
        go_ret
        exact ⟨ret_i HV.out, C3.low⟩
      · skip
        have HV := Lib.hid (sideOf_yes a0 a1 b0 b1 p0 p1 h0 h1 h2)
        have B := inl_all h0 h1 h2
        have H0 := Lib.hid h0
        have H1 := Lib.hid h1
        have H2 := Lib.hid h2
        have HB := Lib.hid B
        clear h0 h1 h2 B
        go_enter Try.func67, Try.ntmps67
        go_wp2_with fail
        change Has w _ (((w.alloc (.cells #[.int .i64 a0, .int .i64 a1] 24)).alloc (.cells #[.int .i64 b0, .int .i64 b1] 24)).alloc (.cells #[.int .i64 p0, .int .i64 p1] 24)) at C0
        generalize ((w.alloc (.cells #[.int .i64 a0, .int .i64 a1] 24)).alloc (.cells #[.int .i64 b0, .int .i64 b1] 24)).alloc (.cells #[.int .i64 p0, .int .i64 p1] 24) = w0 at *
        obtain ⟨⟨k0, k1, k2, k3, k4, k5⟩, -⟩ := C0.three
        go_wp2_with fail
        refine (Has.call C0 (bounded_is a0 a1 _ H0.out _)).mono ?_
        rintro e w1 ⟨rfl, C1⟩
        clear k0 k1 k2 k3 k4 k5
        obtain ⟨⟨k0, k1, k2, k3, k4, k5⟩, -⟩ := C1.three
        go_wp2_with fail
        refine (Has.call C1 (bounded_is b0 b1 _ H1.out _)).mono ?_
        rintro e w2 ⟨rfl, C2⟩
        clear k0 k1 k2 k3 k4 k5
        obtain ⟨⟨k0, k1, k2, k3, k4, k5⟩, -⟩ := C2.three
        go_wp2_with fail
        refine (Has.call C2 (bounded_is p0 p1 _ H2.out _)).mono ?_
        rintro e w3 ⟨rfl, C3⟩
        clear k0 k1 k2 k3 k4 k5
        obtain ⟨⟨k0, k1, k2, k3, k4, k5⟩, -⟩ := C3.three
        go_wp2_with fail
        go_cut [11, 12] (fun p q wx => ∃ P Q, p = .pointer (some ⟨P, 0, none⟩) ∧ q = .pointer (some ⟨Q, 0, none⟩) ∧ Has w ((P, [.int .i64 (b0 - a0), .int .i64 (b1 - a1)]) :: (Q, [.int .i64 (p0 - a0), .int .i64 (p1 - a1)]) :: [(w.heap.size, [.int .i64 a0, .int .i64 a1]), (w.heap.size + 1, [.int .i64 b0, .int .i64 b1]), (w.heap.size + 2, [.int .i64 p0, .int .i64 p1])]) wx)
        case first =>
          refine wp_region_held_drew (S := (fun w' => (w'.cell? ⟨w.heap.size, 0, none⟩ = some (.int .i64 a0) ∧ w'.cell? ⟨w.heap.size, 1, none⟩ = some (.int .i64 a1) ∧ w'.cell? ⟨w.heap.size + 1, 0, none⟩ = some (.int .i64 b0) ∧ w'.cell? ⟨w.heap.size + 1, 1, none⟩ = some (.int .i64 b1) ∧ w'.cell? ⟨w.heap.size + 2, 0, none⟩ = some (.int .i64 p0) ∧ w'.cell? ⟨w.heap.size + 2, 1, none⟩ = some (.int .i64 p1)) ∧ Has w [(w.heap.size, [.int .i64 a0, .int .i64 a1]), (w.heap.size + 1, [.int .i64 b0, .int .i64 b1]), (w.heap.size + 2, [.int .i64 p0, .int .i64 p1])] w')) (by kernel_rfl) (C3.drew.three) (fun hHeld => ?_)
          refine wpAnyT_begin [0, 1, 2, 4, 5, 6] (by kernel_rfl) (by kernel_rfl) ?_
          refine wpAnyT_take (oi := ⟨some 29, Op.move (Operand.tmp 4), 49, _, _, none⟩) (v := .func (.func 68) #[] #[]) rfl (fun _ _ _ h => h) (by rfl) (by assumption) (fun wS hSw => ?_) ?_
          · (try dsimp only at hSw); go_simp
          simp only [Act.put, List.setIfInBounds_toArray, List.set_cons_zero, List.set_cons_succ]
          refine wpAnyT_take (oi := ⟨some 30, Op.load 24 (Operand.tmp 6), 24, _, _, none⟩) (v := .agg #[.int .i64 b0, .int .i64 b1]) rfl (fun _ _ _ h => h) (by rfl) (by assumption) (fun wS hSw => ?_) ?_
          · (try dsimp only at hSw); go_simp
          simp only [Act.put, List.setIfInBounds_toArray, List.set_cons_zero, List.set_cons_succ]
          refine wpAnyT_take (oi := ⟨some 31, Op.load 24 (Operand.tmp 5), 24, _, _, none⟩) (v := .agg #[.int .i64 a0, .int .i64 a1]) rfl (fun _ _ _ h => h) (by rfl) (by assumption) (fun wS hSw => ?_) ?_
          · (try dsimp only at hSw); go_simp
          simp only [Act.put, List.setIfInBounds_toArray, List.set_cons_zero, List.set_cons_succ]
          refine wpAnyT_take (oi := ⟨some 33, Op.move (Operand.tmp 4), 49, _, _, none⟩) (v := .func (.func 68) #[] #[]) rfl (fun _ _ _ h => h) (by rfl) (by assumption) (fun wS hSw => ?_) ?_
          · (try dsimp only at hSw); go_simp
          simp only [Act.put, List.setIfInBounds_toArray, List.set_cons_zero, List.set_cons_succ]
          refine wpAnyT_take (oi := ⟨some 34, Op.load 24 (Operand.tmp 7), 24, _, _, none⟩) (v := .agg #[.int .i64 p0, .int .i64 p1]) rfl (fun _ _ _ h => h) (by rfl) (by assumption) (fun wS hSw => ?_) ?_
          · (try dsimp only at hSw); go_simp
          simp only [Act.put, List.setIfInBounds_toArray, List.set_cons_zero, List.set_cons_succ]
          refine wpAnyT_take (oi := ⟨some 35, Op.load 24 (Operand.tmp 5), 24, _, _, none⟩) (v := .agg #[.int .i64 a0, .int .i64 a1]) rfl (fun _ _ _ h => h) (by rfl) (by assumption) (fun wS hSw => ?_) ?_
          · (try dsimp only at hSw); go_simp
          simp only [Act.put, List.setIfInBounds_toArray, List.set_cons_zero, List.set_cons_succ]
          refine wpAnyT_end ?_
          refine wpAnyH_listed #[true, true, true, false, true, true, true, false, false, false, false, false] (by kernel_rfl) ?_
          have X0 := C3.drew
          generalize w3.drew = W0 at *
          refine wpAnyH_ready (rs := [3, 8, 9]) (by kernel_rfl) (by simp) ?_
          refine AllReadyH.cons (o := ⟨some 32, Op.call { callee := Callee.value (Operand.tmp 29), args := #[Operand.tmp 30, Operand.tmp 31], argTypes := #[24, 24] }, 24, _, _, none⟩) rfl (fun K hK => ?_) (AllReadyH.cons (o := ⟨some 11, Op.alloc 24, 0, _, _, none⟩) rfl (fun K hK => ?_) (AllReadyH.cons (o := ⟨some 12, Op.alloc 24, 0, _, _, none⟩) rfl (fun K hK => ?_) AllReadyH.nil))
          · go_simp
            go_at_call 68
            refine (Has.call X0 (sub_bd b0 b1 a0 a1 _ HB.out.1 HB.out.2.1)).mono ?_
            rintro e W1 ⟨rfl, X1⟩
            go_wp2_with fail
            clear hHeld
            refine hK.out _ _ (X1.three) (fun hHeld => ?_)
            clear hK K
            try simp only [List.setIfInBounds_toArray, List.set_cons_zero, List.set_cons_succ]
            refine wpAnyH_listed #[true, true, true, true, true, true, true, false, false, false, false, false] (by kernel_rfl) ?_
            refine wpAnyH_ready (rs := [7, 8, 9]) (by kernel_rfl) (by simp) ?_
            refine AllReadyH.cons (o := ⟨some 36, Op.call { callee := Callee.value (Operand.tmp 33), args := #[Operand.tmp 34, Operand.tmp 35], argTypes := #[24, 24] }, 24, _, _, none⟩) rfl (fun K hK => ?_) (AllReadyH.cons (o := ⟨some 11, Op.alloc 24, 0, _, _, none⟩) rfl (fun K hK => ?_) (AllReadyH.cons (o := ⟨some 12, Op.alloc 24, 0, _, _, none⟩) rfl (fun K hK => ?_) AllReadyH.nil))
            · go_simp
              go_at_call 68
              refine (Has.call X1 (sub_bd p0 p1 a0 a1 _ HB.out.2.2.1 HB.out.2.1)).mono ?_
              rintro e W2 ⟨rfl, X2⟩
              go_wp2_with fail
              clear hHeld
              refine hK.out _ _ (X2.three) (fun hHeld => ?_)
              clear hK K
              try simp only [List.setIfInBounds_toArray, List.set_cons_zero, List.set_cons_succ]
              refine wpAnyH_listed #[true, true, true, true, true, true, true, true, false, false, false, false] (by kernel_rfl) ?_
              refine wpAnyH_ready (rs := [8, 9]) (by kernel_rfl) (by simp) ?_
              refine AllReadyH.cons (o := ⟨some 11, Op.alloc 24, 0, _, _, none⟩) rfl (fun K hK => ?_) (AllReadyH.cons (o := ⟨some 12, Op.alloc 24, 0, _, _, none⟩) rfl (fun K hK => ?_) AllReadyH.nil)
              · go_simp
                have X3 := X2.push [.int .i64 0, .int .i64 0] 24
                change Has w _ (W2.alloc (.cells #[.int .i64 0, .int .i64 0] 24)) at X3
                generalize W2.alloc (.cells #[.int .i64 0, .int .i64 0] 24) = W3 at *
                generalize W2.heap.size = P at *
                clear hHeld
                refine hK.out _ _ (X3.tail.three) (fun hHeld => ?_)
                clear hK K
                try simp only [List.setIfInBounds_toArray, List.set_cons_zero, List.set_cons_succ]
                refine wpAnyH_listed #[true, true, true, true, true, true, true, true, true, false, false, false] (by kernel_rfl) ?_
                refine wpAnyH_ready (rs := [9]) (by kernel_rfl) (by simp) ?_
                refine AllReadyH.cons (o := ⟨some 12, Op.alloc 24, 0, _, _, none⟩) rfl (fun K hK => ?_) AllReadyH.nil
                · go_simp
                  have X4 := X3.push [.int .i64 0, .int .i64 0] 24
                  change Has w _ (W3.alloc (.cells #[.int .i64 0, .int .i64 0] 24)) at X4
                  generalize W3.alloc (.cells #[.int .i64 0, .int .i64 0] 24) = W4 at *
                  generalize W3.heap.size = Q at *
                  clear hHeld
                  refine hK.out _ _ (X4.tail.tail.three) (fun hHeld => ?_)
                  clear hK K
                  try simp only [List.setIfInBounds_toArray, List.set_cons_zero, List.set_cons_succ]
                  refine wpAnyH_listed #[true, true, true, true, true, true, true, true, true, true, false, false] (by kernel_rfl) ?_
                  refine wpAnyH_ready (rs := [10]) (by kernel_rfl) (by simp) ?_
                  refine AllReadyH.cons (o := ⟨none, Op.store 24 (Operand.tmp 11) (Operand.tmp 32), 0, _, _, none⟩) rfl (fun K hK => ?_) AllReadyH.nil
                  · have Y5 := X4.swap
                    obtain ⟨y0, y1⟩ := Y5.pt
                    obtain ⟨y2, y3⟩ := Y5.ptf
                    go_simp
                    have X5 := Y5.set2 (.int .i64 (b0 - a0)) (.int .i64 (b1 - a1))
                    generalize (World.setCell W4 ⟨P, 0, none⟩ (.int .i64 (b0 - a0))).setCell ⟨P, 1, none⟩ (.int .i64 (b1 - a1)) = W5 at *
                    clear y0 y1 y2 y3
                    clear hHeld
                    refine hK.out _ _ (X5.tail.tail.three) (fun hHeld => ?_)
                    clear hK K
                    try simp only [List.setIfInBounds_toArray, List.set_cons_zero, List.set_cons_succ]
                    refine wpAnyH_listed #[true, true, true, true, true, true, true, true, true, true, true, false] (by kernel_rfl) ?_
                    refine wpAnyH_ready (rs := [11]) (by kernel_rfl) (by simp) ?_
                    refine AllReadyH.cons (o := ⟨none, Op.store 24 (Operand.tmp 12) (Operand.tmp 36), 0, _, _, none⟩) rfl (fun K hK => ?_) AllReadyH.nil
                    · have Y6 := X5.swap
                      obtain ⟨y0, y1⟩ := Y6.pt
                      obtain ⟨y2, y3⟩ := Y6.ptf
                      go_simp
                      have X6 := Y6.set2 (.int .i64 (p0 - a0)) (.int .i64 (p1 - a1))
                      generalize (World.setCell W5 ⟨Q, 0, none⟩ (.int .i64 (p0 - a0))).setCell ⟨Q, 1, none⟩ (.int .i64 (p1 - a1)) = W6 at *
                      clear y0 y1 y2 y3
                      clear hHeld
                      refine hK.out _ _ (X6.tail.tail.three) (fun hHeld => ?_)
                      clear hK K
                      try simp only [List.setIfInBounds_toArray, List.set_cons_zero, List.set_cons_succ]
                      refine wpAnyH_listed #[true, true, true, true, true, true, true, true, true, true, true, true] (by kernel_rfl) ?_
                      refine wpAnyH_done (by kernel_rfl) ?_ _
                      go_wp2_with fail
                      go_meet
                      exact ⟨P, Q, rfl, rfl, X6.swap⟩
              · go_simp
                have X7 := X2.push [.int .i64 0, .int .i64 0] 24
                change Has w _ (W2.alloc (.cells #[.int .i64 0, .int .i64 0] 24)) at X7
                generalize W2.alloc (.cells #[.int .i64 0, .int .i64 0] 24) = W7 at *
                generalize W2.heap.size = Q at *
                clear hHeld
                refine hK.out _ _ (X7.tail.three) (fun hHeld => ?_)
                clear hK K
                try simp only [List.setIfInBounds_toArray, List.set_cons_zero, List.set_cons_succ]
                refine wpAnyH_listed #[true, true, true, true, true, true, true, true, false, true, false, false] (by kernel_rfl) ?_
                refine wpAnyH_ready (rs := [8]) (by kernel_rfl) (by simp) ?_
                refine AllReadyH.cons (o := ⟨some 11, Op.alloc 24, 0, _, _, none⟩) rfl (fun K hK => ?_) AllReadyH.nil
                · go_simp
                  have X8 := X7.push [.int .i64 0, .int .i64 0] 24
                  change Has w _ (W7.alloc (.cells #[.int .i64 0, .int .i64 0] 24)) at X8
                  generalize W7.alloc (.cells #[.int .i64 0, .int .i64 0] 24) = W8 at *
                  generalize W7.heap.size = P at *
                  clear hHeld
                  refine hK.out _ _ (X8.tail.tail.three) (fun hHeld => ?_)
                  clear hK K
                  try simp only [List.setIfInBounds_toArray, List.set_cons_zero, List.set_cons_succ]
                  refine wpAnyH_listed #[true, true, true, true, true, true, true, true, true, true, false, false] (by kernel_rfl) ?_
                  refine wpAnyH_ready (rs := [10]) (by kernel_rfl) (by simp) ?_
                  refine AllReadyH.cons (o := ⟨none, Op.store 24 (Operand.tmp 11) (Operand.tmp 32), 0, _, _, none⟩) rfl (fun K hK => ?_) AllReadyH.nil
                  · obtain ⟨y0, y1⟩ := X8.pt
                    obtain ⟨y2, y3⟩ := X8.ptf
                    go_simp
                    have X9 := X8.set2 (.int .i64 (b0 - a0)) (.int .i64 (b1 - a1))
                    generalize (World.setCell W8 ⟨P, 0, none⟩ (.int .i64 (b0 - a0))).setCell ⟨P, 1, none⟩ (.int .i64 (b1 - a1)) = W9 at *
                    clear y0 y1 y2 y3
                    clear hHeld
                    refine hK.out _ _ (X9.tail.tail.three) (fun hHeld => ?_)
                    clear hK K
                    try simp only [List.setIfInBounds_toArray, List.set_cons_zero, List.set_cons_succ]
                    refine wpAnyH_listed #[true, true, true, true, true, true, true, true, true, true, true, false] (by kernel_rfl) ?_
                    refine wpAnyH_ready (rs := [11]) (by kernel_rfl) (by simp) ?_
                    refine AllReadyH.cons (o := ⟨none, Op.store 24 (Operand.tmp 12) (Operand.tmp 36), 0, _, _, none⟩) rfl (fun K hK => ?_) AllReadyH.nil
                    · have Y10 := X9.swap
                      obtain ⟨y0, y1⟩ := Y10.pt
                      obtain ⟨y2, y3⟩ := Y10.ptf
                      go_simp
                      have X10 := Y10.set2 (.int .i64 (p0 - a0)) (.int .i64 (p1 - a1))
                      generalize (World.setCell W9 ⟨Q, 0, none⟩ (.int .i64 (p0 - a0))).setCell ⟨Q, 1, none⟩ (.int .i64 (p1 - a1)) = W10 at *
                      clear y0 y1 y2 y3
                      clear hHeld
                      refine hK.out _ _ (X10.tail.tail.three) (fun hHeld => ?_)
                      clear hK K
                      try simp only [List.setIfInBounds_toArray, List.set_cons_zero, List.set_cons_succ]
                      refine wpAnyH_listed #[true, true, true, true, true, true, true, true, true, true, true, true] (by kernel_rfl) ?_
                      refine wpAnyH_done (by kernel_rfl) ?_ _
                      go_wp2_with fail
                      go_meet
                      exact ⟨P, Q, rfl, rfl, X10.swap⟩
            · go_simp
              have X11 := X1.push [.int .i64 0, .int .i64 0] 24
              change Has w _ (W1.alloc (.cells #[.int .i64 0, .int .i64 0] 24)) at X11
              generalize W1.alloc (.cells #[.int .i64 0, .int .i64 0] 24) = W11 at *
              generalize W1.heap.size = P at *
              clear hHeld
              refine hK.out _ _ (X11.tail.three) (fun hHeld => ?_)
              clear hK K
              try simp only [List.setIfInBounds_toArray, List.set_cons_zero, List.set_cons_succ]
              refine wpAnyH_listed #[true, true, true, true, true, true, true, false, true, false, false, false] (by kernel_rfl) ?_
              refine wpAnyH_ready (rs := [7, 9]) (by kernel_rfl) (by simp) ?_
              refine AllReadyH.cons (o := ⟨some 36, Op.call { callee := Callee.value (Operand.tmp 33), args := #[Operand.tmp 34, Operand.tmp 35], argTypes := #[24, 24] }, 24, _, _, none⟩) rfl (fun K hK => ?_) (AllReadyH.cons (o := ⟨some 12, Op.alloc 24, 0, _, _, none⟩) rfl (fun K hK => ?_) AllReadyH.nil)
              · go_simp
                go_at_call 68
                refine (Has.call X11 (sub_bd p0 p1 a0 a1 _ HB.out.2.2.1 HB.out.2.1)).mono ?_
                rintro e W12 ⟨rfl, X12⟩
                go_wp2_with fail
                clear hHeld
                refine hK.out _ _ (X12.tail.three) (fun hHeld => ?_)
                clear hK K
                try simp only [List.setIfInBounds_toArray, List.set_cons_zero, List.set_cons_succ]
                refine wpAnyH_listed #[true, true, true, true, true, true, true, true, true, false, false, false] (by kernel_rfl) ?_
                refine wpAnyH_ready (rs := [9]) (by kernel_rfl) (by simp) ?_
                refine AllReadyH.cons (o := ⟨some 12, Op.alloc 24, 0, _, _, none⟩) rfl (fun K hK => ?_) AllReadyH.nil
                · go_simp
                  have X13 := X12.push [.int .i64 0, .int .i64 0] 24
                  change Has w _ (W12.alloc (.cells #[.int .i64 0, .int .i64 0] 24)) at X13
                  generalize W12.alloc (.cells #[.int .i64 0, .int .i64 0] 24) = W13 at *
                  generalize W12.heap.size = Q at *
                  clear hHeld
                  refine hK.out _ _ (X13.tail.tail.three) (fun hHeld => ?_)
                  clear hK K
                  try simp only [List.setIfInBounds_toArray, List.set_cons_zero, List.set_cons_succ]
                  refine wpAnyH_listed #[true, true, true, true, true, true, true, true, true, true, false, false] (by kernel_rfl) ?_
                  refine wpAnyH_ready (rs := [10]) (by kernel_rfl) (by simp) ?_
                  refine AllReadyH.cons (o := ⟨none, Op.store 24 (Operand.tmp 11) (Operand.tmp 32), 0, _, _, none⟩) rfl (fun K hK => ?_) AllReadyH.nil
                  · have Y14 := X13.swap
                    obtain ⟨y0, y1⟩ := Y14.pt
                    obtain ⟨y2, y3⟩ := Y14.ptf
                    go_simp
                    have X14 := Y14.set2 (.int .i64 (b0 - a0)) (.int .i64 (b1 - a1))
                    generalize (World.setCell W13 ⟨P, 0, none⟩ (.int .i64 (b0 - a0))).setCell ⟨P, 1, none⟩ (.int .i64 (b1 - a1)) = W14 at *
                    clear y0 y1 y2 y3
                    clear hHeld
                    refine hK.out _ _ (X14.tail.tail.three) (fun hHeld => ?_)
                    clear hK K
                    try simp only [List.setIfInBounds_toArray, List.set_cons_zero, List.set_cons_succ]
                    refine wpAnyH_listed #[true, true, true, true, true, true, true, true, true, true, true, false] (by kernel_rfl) ?_
                    refine wpAnyH_ready (rs := [11]) (by kernel_rfl) (by simp) ?_
                    refine AllReadyH.cons (o := ⟨none, Op.store 24 (Operand.tmp 12) (Operand.tmp 36), 0, _, _, none⟩) rfl (fun K hK => ?_) AllReadyH.nil
                    · have Y15 := X14.swap
                      obtain ⟨y0, y1⟩ := Y15.pt
                      obtain ⟨y2, y3⟩ := Y15.ptf
                      go_simp
                      have X15 := Y15.set2 (.int .i64 (p0 - a0)) (.int .i64 (p1 - a1))
                      generalize (World.setCell W14 ⟨Q, 0, none⟩ (.int .i64 (p0 - a0))).setCell ⟨Q, 1, none⟩ (.int .i64 (p1 - a1)) = W15 at *
                      clear y0 y1 y2 y3
                      clear hHeld
                      refine hK.out _ _ (X15.tail.tail.three) (fun hHeld => ?_)
                      clear hK K
                      try simp only [List.setIfInBounds_toArray, List.set_cons_zero, List.set_cons_succ]
                      refine wpAnyH_listed #[true, true, true, true, true, true, true, true, true, true, true, true] (by kernel_rfl) ?_
                      refine wpAnyH_done (by kernel_rfl) ?_ _
                      go_wp2_with fail
                      go_meet
                      exact ⟨P, Q, rfl, rfl, X15.swap⟩
              · go_simp
                have X16 := X11.push [.int .i64 0, .int .i64 0] 24
                change Has w _ (W11.alloc (.cells #[.int .i64 0, .int .i64 0] 24)) at X16
                generalize W11.alloc (.cells #[.int .i64 0, .int .i64 0] 24) = W16 at *
                generalize W11.heap.size = Q at *
                clear hHeld
                refine hK.out _ _ (X16.tail.tail.three) (fun hHeld => ?_)
                clear hK K
                try simp only [List.setIfInBounds_toArray, List.set_cons_zero, List.set_cons_succ]
                refine wpAnyH_listed #[true, true, true, true, true, true, true, false, true, true, false, false] (by kernel_rfl) ?_
                refine wpAnyH_ready (rs := [7]) (by kernel_rfl) (by simp) ?_
                refine AllReadyH.cons (o := ⟨some 36, Op.call { callee := Callee.value (Operand.tmp 33), args := #[Operand.tmp 34, Operand.tmp 35], argTypes := #[24, 24] }, 24, _, _, none⟩) rfl (fun K hK => ?_) AllReadyH.nil
                · go_simp
                  go_at_call 68
                  refine (Has.call X16 (sub_bd p0 p1 a0 a1 _ HB.out.2.2.1 HB.out.2.1)).mono ?_
                  rintro e W17 ⟨rfl, X17⟩
                  go_wp2_with fail
                  clear hHeld
                  refine hK.out _ _ (X17.tail.tail.three) (fun hHeld => ?_)
                  clear hK K
                  try simp only [List.setIfInBounds_toArray, List.set_cons_zero, List.set_cons_succ]
                  refine wpAnyH_listed #[true, true, true, true, true, true, true, true, true, true, false, false] (by kernel_rfl) ?_
                  refine wpAnyH_ready (rs := [10]) (by kernel_rfl) (by simp) ?_
                  refine AllReadyH.cons (o := ⟨none, Op.store 24 (Operand.tmp 11) (Operand.tmp 32), 0, _, _, none⟩) rfl (fun K hK => ?_) AllReadyH.nil
                  · have Y18 := X17.swap
                    obtain ⟨y0, y1⟩ := Y18.pt
                    obtain ⟨y2, y3⟩ := Y18.ptf
                    go_simp
                    have X18 := Y18.set2 (.int .i64 (b0 - a0)) (.int .i64 (b1 - a1))
                    generalize (World.setCell W17 ⟨P, 0, none⟩ (.int .i64 (b0 - a0))).setCell ⟨P, 1, none⟩ (.int .i64 (b1 - a1)) = W18 at *
                    clear y0 y1 y2 y3
                    clear hHeld
                    refine hK.out _ _ (X18.tail.tail.three) (fun hHeld => ?_)
                    clear hK K
                    try simp only [List.setIfInBounds_toArray, List.set_cons_zero, List.set_cons_succ]
                    refine wpAnyH_listed #[true, true, true, true, true, true, true, true, true, true, true, false] (by kernel_rfl) ?_
                    refine wpAnyH_ready (rs := [11]) (by kernel_rfl) (by simp) ?_
                    refine AllReadyH.cons (o := ⟨none, Op.store 24 (Operand.tmp 12) (Operand.tmp 36), 0, _, _, none⟩) rfl (fun K hK => ?_) AllReadyH.nil
                    · have Y19 := X18.swap
                      obtain ⟨y0, y1⟩ := Y19.pt
                      obtain ⟨y2, y3⟩ := Y19.ptf
                      go_simp
                      have X19 := Y19.set2 (.int .i64 (p0 - a0)) (.int .i64 (p1 - a1))
                      generalize (World.setCell W18 ⟨Q, 0, none⟩ (.int .i64 (p0 - a0))).setCell ⟨Q, 1, none⟩ (.int .i64 (p1 - a1)) = W19 at *
                      clear y0 y1 y2 y3
                      clear hHeld
                      refine hK.out _ _ (X19.tail.tail.three) (fun hHeld => ?_)
                      clear hK K
                      try simp only [List.setIfInBounds_toArray, List.set_cons_zero, List.set_cons_succ]
                      refine wpAnyH_listed #[true, true, true, true, true, true, true, true, true, true, true, true] (by kernel_rfl) ?_
                      refine wpAnyH_done (by kernel_rfl) ?_ _
                      go_wp2_with fail
                      go_meet
                      exact ⟨P, Q, rfl, rfl, X19.swap⟩
            · go_simp
              have X20 := X1.push [.int .i64 0, .int .i64 0] 24
              change Has w _ (W1.alloc (.cells #[.int .i64 0, .int .i64 0] 24)) at X20
              generalize W1.alloc (.cells #[.int .i64 0, .int .i64 0] 24) = W20 at *
              generalize W1.heap.size = Q at *
              clear hHeld
              refine hK.out _ _ (X20.tail.three) (fun hHeld => ?_)
              clear hK K
              try simp only [List.setIfInBounds_toArray, List.set_cons_zero, List.set_cons_succ]
              refine wpAnyH_listed #[true, true, true, true, true, true, true, false, false, true, false, false] (by kernel_rfl) ?_
              refine wpAnyH_ready (rs := [7, 8]) (by kernel_rfl) (by simp) ?_
              refine AllReadyH.cons (o := ⟨some 36, Op.call { callee := Callee.value (Operand.tmp 33), args := #[Operand.tmp 34, Operand.tmp 35], argTypes := #[24, 24] }, 24, _, _, none⟩) rfl (fun K hK => ?_) (AllReadyH.cons (o := ⟨some 11, Op.alloc 24, 0, _, _, none⟩) rfl (fun K hK => ?_) AllReadyH.nil)
              · go_simp
                go_at_call 68
                refine (Has.call X20 (sub_bd p0 p1 a0 a1 _ HB.out.2.2.1 HB.out.2.1)).mono ?_
                rintro e W21 ⟨rfl, X21⟩
                go_wp2_with fail
                clear hHeld
                refine hK.out _ _ (X21.tail.three) (fun hHeld => ?_)
                clear hK K
                try simp only [List.setIfInBounds_toArray, List.set_cons_zero, List.set_cons_succ]
                refine wpAnyH_listed #[true, true, true, true, true, true, true, true, false, true, false, false] (by kernel_rfl) ?_
                refine wpAnyH_ready (rs := [8]) (by kernel_rfl) (by simp) ?_
                refine AllReadyH.cons (o := ⟨some 11, Op.alloc 24, 0, _, _, none⟩) rfl (fun K hK => ?_) AllReadyH.nil
                · go_simp
                  have X22 := X21.push [.int .i64 0, .int .i64 0] 24
                  change Has w _ (W21.alloc (.cells #[.int .i64 0, .int .i64 0] 24)) at X22
                  generalize W21.alloc (.cells #[.int .i64 0, .int .i64 0] 24) = W22 at *
                  generalize W21.heap.size = P at *
                  clear hHeld
                  refine hK.out _ _ (X22.tail.tail.three) (fun hHeld => ?_)
                  clear hK K
                  try simp only [List.setIfInBounds_toArray, List.set_cons_zero, List.set_cons_succ]
                  refine wpAnyH_listed #[true, true, true, true, true, true, true, true, true, true, false, false] (by kernel_rfl) ?_
                  refine wpAnyH_ready (rs := [10]) (by kernel_rfl) (by simp) ?_
                  refine AllReadyH.cons (o := ⟨none, Op.store 24 (Operand.tmp 11) (Operand.tmp 32), 0, _, _, none⟩) rfl (fun K hK => ?_) AllReadyH.nil
                  · obtain ⟨y0, y1⟩ := X22.pt
                    obtain ⟨y2, y3⟩ := X22.ptf
                    go_simp
                    have X23 := X22.set2 (.int .i64 (b0 - a0)) (.int .i64 (b1 - a1))
                    generalize (World.setCell W22 ⟨P, 0, none⟩ (.int .i64 (b0 - a0))).setCell ⟨P, 1, none⟩ (.int .i64 (b1 - a1)) = W23 at *
                    clear y0 y1 y2 y3
                    clear hHeld
                    refine hK.out _ _ (X23.tail.tail.three) (fun hHeld => ?_)
                    clear hK K
                    try simp only [List.setIfInBounds_toArray, List.set_cons_zero, List.set_cons_succ]
                    refine wpAnyH_listed #[true, true, true, true, true, true, true, true, true, true, true, false] (by kernel_rfl) ?_
                    refine wpAnyH_ready (rs := [11]) (by kernel_rfl) (by simp) ?_
                    refine AllReadyH.cons (o := ⟨none, Op.store 24 (Operand.tmp 12) (Operand.tmp 36), 0, _, _, none⟩) rfl (fun K hK => ?_) AllReadyH.nil
                    · have Y24 := X23.swap
                      obtain ⟨y0, y1⟩ := Y24.pt
                      obtain ⟨y2, y3⟩ := Y24.ptf
                      go_simp
                      have X24 := Y24.set2 (.int .i64 (p0 - a0)) (.int .i64 (p1 - a1))
                      generalize (World.setCell W23 ⟨Q, 0, none⟩ (.int .i64 (p0 - a0))).setCell ⟨Q, 1, none⟩ (.int .i64 (p1 - a1)) = W24 at *
                      clear y0 y1 y2 y3
                      clear hHeld
                      refine hK.out _ _ (X24.tail.tail.three) (fun hHeld => ?_)
                      clear hK K
                      try simp only [List.setIfInBounds_toArray, List.set_cons_zero, List.set_cons_succ]
                      refine wpAnyH_listed #[true, true, true, true, true, true, true, true, true, true, true, true] (by kernel_rfl) ?_
                      refine wpAnyH_done (by kernel_rfl) ?_ _
                      go_wp2_with fail
                      go_meet
                      exact ⟨P, Q, rfl, rfl, X24.swap⟩
              · go_simp
                have X25 := X20.push [.int .i64 0, .int .i64 0] 24
                change Has w _ (W20.alloc (.cells #[.int .i64 0, .int .i64 0] 24)) at X25
                generalize W20.alloc (.cells #[.int .i64 0, .int .i64 0] 24) = W25 at *
                generalize W20.heap.size = P at *
                clear hHeld
                refine hK.out _ _ (X25.tail.tail.three) (fun hHeld => ?_)
                clear hK K
                try simp only [List.setIfInBounds_toArray, List.set_cons_zero, List.set_cons_succ]
                refine wpAnyH_listed #[true, true, true, true, true, true, true, false, true, true, false, false] (by kernel_rfl) ?_
                refine wpAnyH_ready (rs := [7]) (by kernel_rfl) (by simp) ?_
                refine AllReadyH.cons (o := ⟨some 36, Op.call { callee := Callee.value (Operand.tmp 33), args := #[Operand.tmp 34, Operand.tmp 35], argTypes := #[24, 24] }, 24, _, _, none⟩) rfl (fun K hK => ?_) AllReadyH.nil
                · go_simp
                  go_at_call 68
                  refine (Has.call X25 (sub_bd p0 p1 a0 a1 _ HB.out.2.2.1 HB.out.2.1)).mono ?_
                  rintro e W26 ⟨rfl, X26⟩
                  go_wp2_with fail
                  clear hHeld
                  refine hK.out _ _ (X26.tail.tail.three) (fun hHeld => ?_)
                  clear hK K
                  try simp only [List.setIfInBounds_toArray, List.set_cons_zero, List.set_cons_succ]
                  refine wpAnyH_listed #[true, true, true, true, true, true, true, true, true, true, false, false] (by kernel_rfl) ?_
                  refine wpAnyH_ready (rs := [10]) (by kernel_rfl) (by simp) ?_
                  refine AllReadyH.cons (o := ⟨none, Op.store 24 (Operand.tmp 11) (Operand.tmp 32), 0, _, _, none⟩) rfl (fun K hK => ?_) AllReadyH.nil
                  · obtain ⟨y0, y1⟩ := X26.pt
                    obtain ⟨y2, y3⟩ := X26.ptf
                    go_simp
                    have X27 := X26.set2 (.int .i64 (b0 - a0)) (.int .i64 (b1 - a1))
                    generalize (World.setCell W26 ⟨P, 0, none⟩ (.int .i64 (b0 - a0))).setCell ⟨P, 1, none⟩ (.int .i64 (b1 - a1)) = W27 at *
                    clear y0 y1 y2 y3
                    clear hHeld
                    refine hK.out _ _ (X27.tail.tail.three) (fun hHeld => ?_)
                    clear hK K
                    try simp only [List.setIfInBounds_toArray, List.set_cons_zero, List.set_cons_succ]
                    refine wpAnyH_listed #[true, true, true, true, true, true, true, true, true, true, true, false] (by kernel_rfl) ?_
                    refine wpAnyH_ready (rs := [11]) (by kernel_rfl) (by simp) ?_
                    refine AllReadyH.cons (o := ⟨none, Op.store 24 (Operand.tmp 12) (Operand.tmp 36), 0, _, _, none⟩) rfl (fun K hK => ?_) AllReadyH.nil
                    · have Y28 := X27.swap
                      obtain ⟨y0, y1⟩ := Y28.pt
                      obtain ⟨y2, y3⟩ := Y28.ptf
                      go_simp
                      have X28 := Y28.set2 (.int .i64 (p0 - a0)) (.int .i64 (p1 - a1))
                      generalize (World.setCell W27 ⟨Q, 0, none⟩ (.int .i64 (p0 - a0))).setCell ⟨Q, 1, none⟩ (.int .i64 (p1 - a1)) = W28 at *
                      clear y0 y1 y2 y3
                      clear hHeld
                      refine hK.out _ _ (X28.tail.tail.three) (fun hHeld => ?_)
                      clear hK K
                      try simp only [List.setIfInBounds_toArray, List.set_cons_zero, List.set_cons_succ]
                      refine wpAnyH_listed #[true, true, true, true, true, true, true, true, true, true, true, true] (by kernel_rfl) ?_
                      refine wpAnyH_done (by kernel_rfl) ?_ _
                      go_wp2_with fail
                      go_meet
                      exact ⟨P, Q, rfl, rfl, X28.swap⟩
          · go_simp
            have X29 := X0.push [.int .i64 0, .int .i64 0] 24
            change Has w _ (W0.alloc (.cells #[.int .i64 0, .int .i64 0] 24)) at X29
            generalize W0.alloc (.cells #[.int .i64 0, .int .i64 0] 24) = W29 at *
            generalize W0.heap.size = P at *
            clear hHeld
            refine hK.out _ _ (X29.tail.three) (fun hHeld => ?_)
            clear hK K
            try simp only [List.setIfInBounds_toArray, List.set_cons_zero, List.set_cons_succ]
            refine wpAnyH_listed #[true, true, true, false, true, true, true, false, true, false, false, false] (by kernel_rfl) ?_
            refine wpAnyH_ready (rs := [3, 9]) (by kernel_rfl) (by simp) ?_
            refine AllReadyH.cons (o := ⟨some 32, Op.call { callee := Callee.value (Operand.tmp 29), args := #[Operand.tmp 30, Operand.tmp 31], argTypes := #[24, 24] }, 24, _, _, none⟩) rfl (fun K hK => ?_) (AllReadyH.cons (o := ⟨some 12, Op.alloc 24, 0, _, _, none⟩) rfl (fun K hK => ?_) AllReadyH.nil)
            · go_simp
              go_at_call 68
              refine (Has.call X29 (sub_bd b0 b1 a0 a1 _ HB.out.1 HB.out.2.1)).mono ?_
              rintro e W30 ⟨rfl, X30⟩
              go_wp2_with fail
              clear hHeld
              refine hK.out _ _ (X30.tail.three) (fun hHeld => ?_)
              clear hK K
              try simp only [List.setIfInBounds_toArray, List.set_cons_zero, List.set_cons_succ]
              refine wpAnyH_listed #[true, true, true, true, true, true, true, false, true, false, false, false] (by kernel_rfl) ?_
              refine wpAnyH_ready (rs := [7, 9]) (by kernel_rfl) (by simp) ?_
              refine AllReadyH.cons (o := ⟨some 36, Op.call { callee := Callee.value (Operand.tmp 33), args := #[Operand.tmp 34, Operand.tmp 35], argTypes := #[24, 24] }, 24, _, _, none⟩) rfl (fun K hK => ?_) (AllReadyH.cons (o := ⟨some 12, Op.alloc 24, 0, _, _, none⟩) rfl (fun K hK => ?_) AllReadyH.nil)
              · go_simp
                go_at_call 68
                refine (Has.call X30 (sub_bd p0 p1 a0 a1 _ HB.out.2.2.1 HB.out.2.1)).mono ?_
                rintro e W31 ⟨rfl, X31⟩
                go_wp2_with fail
                clear hHeld
                refine hK.out _ _ (X31.tail.three) (fun hHeld => ?_)
                clear hK K
                try simp only [List.setIfInBounds_toArray, List.set_cons_zero, List.set_cons_succ]
                refine wpAnyH_listed #[true, true, true, true, true, true, true, true, true, false, false, false] (by kernel_rfl) ?_
                refine wpAnyH_ready (rs := [9]) (by kernel_rfl) (by simp) ?_
                refine AllReadyH.cons (o := ⟨some 12, Op.alloc 24, 0, _, _, none⟩) rfl (fun K hK => ?_) AllReadyH.nil
                · go_simp
                  have X32 := X31.push [.int .i64 0, .int .i64 0] 24
                  change Has w _ (W31.alloc (.cells #[.int .i64 0, .int .i64 0] 24)) at X32
                  generalize W31.alloc (.cells #[.int .i64 0, .int .i64 0] 24) = W32 at *
                  generalize W31.heap.size = Q at *
                  clear hHeld
                  refine hK.out _ _ (X32.tail.tail.three) (fun hHeld => ?_)
                  clear hK K
                  try simp only [List.setIfInBounds_toArray, List.set_cons_zero, List.set_cons_succ]
                  refine wpAnyH_listed #[true, true, true, true, true, true, true, true, true, true, false, false] (by kernel_rfl) ?_
                  refine wpAnyH_ready (rs := [10]) (by kernel_rfl) (by simp) ?_
                  refine AllReadyH.cons (o := ⟨none, Op.store 24 (Operand.tmp 11) (Operand.tmp 32), 0, _, _, none⟩) rfl (fun K hK => ?_) AllReadyH.nil
                  · have Y33 := X32.swap
                    obtain ⟨y0, y1⟩ := Y33.pt
                    obtain ⟨y2, y3⟩ := Y33.ptf
                    go_simp
                    have X33 := Y33.set2 (.int .i64 (b0 - a0)) (.int .i64 (b1 - a1))
                    generalize (World.setCell W32 ⟨P, 0, none⟩ (.int .i64 (b0 - a0))).setCell ⟨P, 1, none⟩ (.int .i64 (b1 - a1)) = W33 at *
                    clear y0 y1 y2 y3
                    clear hHeld
                    refine hK.out _ _ (X33.tail.tail.three) (fun hHeld => ?_)
                    clear hK K
                    try simp only [List.setIfInBounds_toArray, List.set_cons_zero, List.set_cons_succ]
                    refine wpAnyH_listed #[true, true, true, true, true, true, true, true, true, true, true, false] (by kernel_rfl) ?_
                    refine wpAnyH_ready (rs := [11]) (by kernel_rfl) (by simp) ?_
                    refine AllReadyH.cons (o := ⟨none, Op.store 24 (Operand.tmp 12) (Operand.tmp 36), 0, _, _, none⟩) rfl (fun K hK => ?_) AllReadyH.nil
                    · have Y34 := X33.swap
                      obtain ⟨y0, y1⟩ := Y34.pt
                      obtain ⟨y2, y3⟩ := Y34.ptf
                      go_simp
                      have X34 := Y34.set2 (.int .i64 (p0 - a0)) (.int .i64 (p1 - a1))
                      generalize (World.setCell W33 ⟨Q, 0, none⟩ (.int .i64 (p0 - a0))).setCell ⟨Q, 1, none⟩ (.int .i64 (p1 - a1)) = W34 at *
                      clear y0 y1 y2 y3
                      clear hHeld
                      refine hK.out _ _ (X34.tail.tail.three) (fun hHeld => ?_)
                      clear hK K
                      try simp only [List.setIfInBounds_toArray, List.set_cons_zero, List.set_cons_succ]
                      refine wpAnyH_listed #[true, true, true, true, true, true, true, true, true, true, true, true] (by kernel_rfl) ?_
                      refine wpAnyH_done (by kernel_rfl) ?_ _
                      go_wp2_with fail
                      go_meet
                      exact ⟨P, Q, rfl, rfl, X34.swap⟩
              · go_simp
                have X35 := X30.push [.int .i64 0, .int .i64 0] 24
                change Has w _ (W30.alloc (.cells #[.int .i64 0, .int .i64 0] 24)) at X35
                generalize W30.alloc (.cells #[.int .i64 0, .int .i64 0] 24) = W35 at *
                generalize W30.heap.size = Q at *
                clear hHeld
                refine hK.out _ _ (X35.tail.tail.three) (fun hHeld => ?_)
                clear hK K
                try simp only [List.setIfInBounds_toArray, List.set_cons_zero, List.set_cons_succ]
                refine wpAnyH_listed #[true, true, true, true, true, true, true, false, true, true, false, false] (by kernel_rfl) ?_
                refine wpAnyH_ready (rs := [7]) (by kernel_rfl) (by simp) ?_
                refine AllReadyH.cons (o := ⟨some 36, Op.call { callee := Callee.value (Operand.tmp 33), args := #[Operand.tmp 34, Operand.tmp 35], argTypes := #[24, 24] }, 24, _, _, none⟩) rfl (fun K hK => ?_) AllReadyH.nil
                · go_simp
                  go_at_call 68
                  refine (Has.call X35 (sub_bd p0 p1 a0 a1 _ HB.out.2.2.1 HB.out.2.1)).mono ?_
                  rintro e W36 ⟨rfl, X36⟩
                  go_wp2_with fail
                  clear hHeld
                  refine hK.out _ _ (X36.tail.tail.three) (fun hHeld => ?_)
                  clear hK K
                  try simp only [List.setIfInBounds_toArray, List.set_cons_zero, List.set_cons_succ]
                  refine wpAnyH_listed #[true, true, true, true, true, true, true, true, true, true, false, false] (by kernel_rfl) ?_
                  refine wpAnyH_ready (rs := [10]) (by kernel_rfl) (by simp) ?_
                  refine AllReadyH.cons (o := ⟨none, Op.store 24 (Operand.tmp 11) (Operand.tmp 32), 0, _, _, none⟩) rfl (fun K hK => ?_) AllReadyH.nil
                  · have Y37 := X36.swap
                    obtain ⟨y0, y1⟩ := Y37.pt
                    obtain ⟨y2, y3⟩ := Y37.ptf
                    go_simp
                    have X37 := Y37.set2 (.int .i64 (b0 - a0)) (.int .i64 (b1 - a1))
                    generalize (World.setCell W36 ⟨P, 0, none⟩ (.int .i64 (b0 - a0))).setCell ⟨P, 1, none⟩ (.int .i64 (b1 - a1)) = W37 at *
                    clear y0 y1 y2 y3
                    clear hHeld
                    refine hK.out _ _ (X37.tail.tail.three) (fun hHeld => ?_)
                    clear hK K
                    try simp only [List.setIfInBounds_toArray, List.set_cons_zero, List.set_cons_succ]
                    refine wpAnyH_listed #[true, true, true, true, true, true, true, true, true, true, true, false] (by kernel_rfl) ?_
                    refine wpAnyH_ready (rs := [11]) (by kernel_rfl) (by simp) ?_
                    refine AllReadyH.cons (o := ⟨none, Op.store 24 (Operand.tmp 12) (Operand.tmp 36), 0, _, _, none⟩) rfl (fun K hK => ?_) AllReadyH.nil
                    · have Y38 := X37.swap
                      obtain ⟨y0, y1⟩ := Y38.pt
                      obtain ⟨y2, y3⟩ := Y38.ptf
                      go_simp
                      have X38 := Y38.set2 (.int .i64 (p0 - a0)) (.int .i64 (p1 - a1))
                      generalize (World.setCell W37 ⟨Q, 0, none⟩ (.int .i64 (p0 - a0))).setCell ⟨Q, 1, none⟩ (.int .i64 (p1 - a1)) = W38 at *
                      clear y0 y1 y2 y3
                      clear hHeld
                      refine hK.out _ _ (X38.tail.tail.three) (fun hHeld => ?_)
                      clear hK K
                      try simp only [List.setIfInBounds_toArray, List.set_cons_zero, List.set_cons_succ]
                      refine wpAnyH_listed #[true, true, true, true, true, true, true, true, true, true, true, true] (by kernel_rfl) ?_
                      refine wpAnyH_done (by kernel_rfl) ?_ _
                      go_wp2_with fail
                      go_meet
                      exact ⟨P, Q, rfl, rfl, X38.swap⟩
            · go_simp
              have X39 := X29.push [.int .i64 0, .int .i64 0] 24
              change Has w _ (W29.alloc (.cells #[.int .i64 0, .int .i64 0] 24)) at X39
              generalize W29.alloc (.cells #[.int .i64 0, .int .i64 0] 24) = W39 at *
              generalize W29.heap.size = Q at *
              clear hHeld
              refine hK.out _ _ (X39.tail.tail.three) (fun hHeld => ?_)
              clear hK K
              try simp only [List.setIfInBounds_toArray, List.set_cons_zero, List.set_cons_succ]
              refine wpAnyH_listed #[true, true, true, false, true, true, true, false, true, true, false, false] (by kernel_rfl) ?_
              refine wpAnyH_ready (rs := [3]) (by kernel_rfl) (by simp) ?_
              refine AllReadyH.cons (o := ⟨some 32, Op.call { callee := Callee.value (Operand.tmp 29), args := #[Operand.tmp 30, Operand.tmp 31], argTypes := #[24, 24] }, 24, _, _, none⟩) rfl (fun K hK => ?_) AllReadyH.nil
              · go_simp
                go_at_call 68
                refine (Has.call X39 (sub_bd b0 b1 a0 a1 _ HB.out.1 HB.out.2.1)).mono ?_
                rintro e W40 ⟨rfl, X40⟩
                go_wp2_with fail
                clear hHeld
                refine hK.out _ _ (X40.tail.tail.three) (fun hHeld => ?_)
                clear hK K
                try simp only [List.setIfInBounds_toArray, List.set_cons_zero, List.set_cons_succ]
                refine wpAnyH_listed #[true, true, true, true, true, true, true, false, true, true, false, false] (by kernel_rfl) ?_
                refine wpAnyH_ready (rs := [7]) (by kernel_rfl) (by simp) ?_
                refine AllReadyH.cons (o := ⟨some 36, Op.call { callee := Callee.value (Operand.tmp 33), args := #[Operand.tmp 34, Operand.tmp 35], argTypes := #[24, 24] }, 24, _, _, none⟩) rfl (fun K hK => ?_) AllReadyH.nil
                · go_simp
                  go_at_call 68
                  refine (Has.call X40 (sub_bd p0 p1 a0 a1 _ HB.out.2.2.1 HB.out.2.1)).mono ?_
                  rintro e W41 ⟨rfl, X41⟩
                  go_wp2_with fail
                  clear hHeld
                  refine hK.out _ _ (X41.tail.tail.three) (fun hHeld => ?_)
                  clear hK K
                  try simp only [List.setIfInBounds_toArray, List.set_cons_zero, List.set_cons_succ]
                  refine wpAnyH_listed #[true, true, true, true, true, true, true, true, true, true, false, false] (by kernel_rfl) ?_
                  refine wpAnyH_ready (rs := [10]) (by kernel_rfl) (by simp) ?_
                  refine AllReadyH.cons (o := ⟨none, Op.store 24 (Operand.tmp 11) (Operand.tmp 32), 0, _, _, none⟩) rfl (fun K hK => ?_) AllReadyH.nil
                  · have Y42 := X41.swap
                    obtain ⟨y0, y1⟩ := Y42.pt
                    obtain ⟨y2, y3⟩ := Y42.ptf
                    go_simp
                    have X42 := Y42.set2 (.int .i64 (b0 - a0)) (.int .i64 (b1 - a1))
                    generalize (World.setCell W41 ⟨P, 0, none⟩ (.int .i64 (b0 - a0))).setCell ⟨P, 1, none⟩ (.int .i64 (b1 - a1)) = W42 at *
                    clear y0 y1 y2 y3
                    clear hHeld
                    refine hK.out _ _ (X42.tail.tail.three) (fun hHeld => ?_)
                    clear hK K
                    try simp only [List.setIfInBounds_toArray, List.set_cons_zero, List.set_cons_succ]
                    refine wpAnyH_listed #[true, true, true, true, true, true, true, true, true, true, true, false] (by kernel_rfl) ?_
                    refine wpAnyH_ready (rs := [11]) (by kernel_rfl) (by simp) ?_
                    refine AllReadyH.cons (o := ⟨none, Op.store 24 (Operand.tmp 12) (Operand.tmp 36), 0, _, _, none⟩) rfl (fun K hK => ?_) AllReadyH.nil
                    · have Y43 := X42.swap
                      obtain ⟨y0, y1⟩ := Y43.pt
                      obtain ⟨y2, y3⟩ := Y43.ptf
                      go_simp
                      have X43 := Y43.set2 (.int .i64 (p0 - a0)) (.int .i64 (p1 - a1))
                      generalize (World.setCell W42 ⟨Q, 0, none⟩ (.int .i64 (p0 - a0))).setCell ⟨Q, 1, none⟩ (.int .i64 (p1 - a1)) = W43 at *
                      clear y0 y1 y2 y3
                      clear hHeld
                      refine hK.out _ _ (X43.tail.tail.three) (fun hHeld => ?_)
                      clear hK K
                      try simp only [List.setIfInBounds_toArray, List.set_cons_zero, List.set_cons_succ]
                      refine wpAnyH_listed #[true, true, true, true, true, true, true, true, true, true, true, true] (by kernel_rfl) ?_
                      refine wpAnyH_done (by kernel_rfl) ?_ _
                      go_wp2_with fail
                      go_meet
                      exact ⟨P, Q, rfl, rfl, X43.swap⟩
          · go_simp
            have X44 := X0.push [.int .i64 0, .int .i64 0] 24
            change Has w _ (W0.alloc (.cells #[.int .i64 0, .int .i64 0] 24)) at X44
            generalize W0.alloc (.cells #[.int .i64 0, .int .i64 0] 24) = W44 at *
            generalize W0.heap.size = Q at *
            clear hHeld
            refine hK.out _ _ (X44.tail.three) (fun hHeld => ?_)
            clear hK K
            try simp only [List.setIfInBounds_toArray, List.set_cons_zero, List.set_cons_succ]
            refine wpAnyH_listed #[true, true, true, false, true, true, true, false, false, true, false, false] (by kernel_rfl) ?_
            refine wpAnyH_ready (rs := [3, 8]) (by kernel_rfl) (by simp) ?_
            refine AllReadyH.cons (o := ⟨some 32, Op.call { callee := Callee.value (Operand.tmp 29), args := #[Operand.tmp 30, Operand.tmp 31], argTypes := #[24, 24] }, 24, _, _, none⟩) rfl (fun K hK => ?_) (AllReadyH.cons (o := ⟨some 11, Op.alloc 24, 0, _, _, none⟩) rfl (fun K hK => ?_) AllReadyH.nil)
            · go_simp
              go_at_call 68
              refine (Has.call X44 (sub_bd b0 b1 a0 a1 _ HB.out.1 HB.out.2.1)).mono ?_
              rintro e W45 ⟨rfl, X45⟩
              go_wp2_with fail
              clear hHeld
              refine hK.out _ _ (X45.tail.three) (fun hHeld => ?_)
              clear hK K
              try simp only [List.setIfInBounds_toArray, List.set_cons_zero, List.set_cons_succ]
              refine wpAnyH_listed #[true, true, true, true, true, true, true, false, false, true, false, false] (by kernel_rfl) ?_
              refine wpAnyH_ready (rs := [7, 8]) (by kernel_rfl) (by simp) ?_
              refine AllReadyH.cons (o := ⟨some 36, Op.call { callee := Callee.value (Operand.tmp 33), args := #[Operand.tmp 34, Operand.tmp 35], argTypes := #[24, 24] }, 24, _, _, none⟩) rfl (fun K hK => ?_) (AllReadyH.cons (o := ⟨some 11, Op.alloc 24, 0, _, _, none⟩) rfl (fun K hK => ?_) AllReadyH.nil)
              · go_simp
                go_at_call 68
                refine (Has.call X45 (sub_bd p0 p1 a0 a1 _ HB.out.2.2.1 HB.out.2.1)).mono ?_
                rintro e W46 ⟨rfl, X46⟩
                go_wp2_with fail
                clear hHeld
                refine hK.out _ _ (X46.tail.three) (fun hHeld => ?_)
                clear hK K
                try simp only [List.setIfInBounds_toArray, List.set_cons_zero, List.set_cons_succ]
                refine wpAnyH_listed #[true, true, true, true, true, true, true, true, false, true, false, false] (by kernel_rfl) ?_
                refine wpAnyH_ready (rs := [8]) (by kernel_rfl) (by simp) ?_
                refine AllReadyH.cons (o := ⟨some 11, Op.alloc 24, 0, _, _, none⟩) rfl (fun K hK => ?_) AllReadyH.nil
                · go_simp
                  have X47 := X46.push [.int .i64 0, .int .i64 0] 24
                  change Has w _ (W46.alloc (.cells #[.int .i64 0, .int .i64 0] 24)) at X47
                  generalize W46.alloc (.cells #[.int .i64 0, .int .i64 0] 24) = W47 at *
                  generalize W46.heap.size = P at *
                  clear hHeld
                  refine hK.out _ _ (X47.tail.tail.three) (fun hHeld => ?_)
                  clear hK K
                  try simp only [List.setIfInBounds_toArray, List.set_cons_zero, List.set_cons_succ]
                  refine wpAnyH_listed #[true, true, true, true, true, true, true, true, true, true, false, false] (by kernel_rfl) ?_
                  refine wpAnyH_ready (rs := [10]) (by kernel_rfl) (by simp) ?_
                  refine AllReadyH.cons (o := ⟨none, Op.store 24 (Operand.tmp 11) (Operand.tmp 32), 0, _, _, none⟩) rfl (fun K hK => ?_) AllReadyH.nil
                  · obtain ⟨y0, y1⟩ := X47.pt
                    obtain ⟨y2, y3⟩ := X47.ptf
                    go_simp
                    have X48 := X47.set2 (.int .i64 (b0 - a0)) (.int .i64 (b1 - a1))
                    generalize (World.setCell W47 ⟨P, 0, none⟩ (.int .i64 (b0 - a0))).setCell ⟨P, 1, none⟩ (.int .i64 (b1 - a1)) = W48 at *
                    clear y0 y1 y2 y3
                    clear hHeld
                    refine hK.out _ _ (X48.tail.tail.three) (fun hHeld => ?_)
                    clear hK K
                    try simp only [List.setIfInBounds_toArray, List.set_cons_zero, List.set_cons_succ]
                    refine wpAnyH_listed #[true, true, true, true, true, true, true, true, true, true, true, false] (by kernel_rfl) ?_
                    refine wpAnyH_ready (rs := [11]) (by kernel_rfl) (by simp) ?_
                    refine AllReadyH.cons (o := ⟨none, Op.store 24 (Operand.tmp 12) (Operand.tmp 36), 0, _, _, none⟩) rfl (fun K hK => ?_) AllReadyH.nil
                    · have Y49 := X48.swap
                      obtain ⟨y0, y1⟩ := Y49.pt
                      obtain ⟨y2, y3⟩ := Y49.ptf
                      go_simp
                      have X49 := Y49.set2 (.int .i64 (p0 - a0)) (.int .i64 (p1 - a1))
                      generalize (World.setCell W48 ⟨Q, 0, none⟩ (.int .i64 (p0 - a0))).setCell ⟨Q, 1, none⟩ (.int .i64 (p1 - a1)) = W49 at *
                      clear y0 y1 y2 y3
                      clear hHeld
                      refine hK.out _ _ (X49.tail.tail.three) (fun hHeld => ?_)
                      clear hK K
                      try simp only [List.setIfInBounds_toArray, List.set_cons_zero, List.set_cons_succ]
                      refine wpAnyH_listed #[true, true, true, true, true, true, true, true, true, true, true, true] (by kernel_rfl) ?_
                      refine wpAnyH_done (by kernel_rfl) ?_ _
                      go_wp2_with fail
                      go_meet
                      exact ⟨P, Q, rfl, rfl, X49.swap⟩
              · go_simp
                have X50 := X45.push [.int .i64 0, .int .i64 0] 24
                change Has w _ (W45.alloc (.cells #[.int .i64 0, .int .i64 0] 24)) at X50
                generalize W45.alloc (.cells #[.int .i64 0, .int .i64 0] 24) = W50 at *
                generalize W45.heap.size = P at *
                clear hHeld
                refine hK.out _ _ (X50.tail.tail.three) (fun hHeld => ?_)
                clear hK K
                try simp only [List.setIfInBounds_toArray, List.set_cons_zero, List.set_cons_succ]
                refine wpAnyH_listed #[true, true, true, true, true, true, true, false, true, true, false, false] (by kernel_rfl) ?_
                refine wpAnyH_ready (rs := [7]) (by kernel_rfl) (by simp) ?_
                refine AllReadyH.cons (o := ⟨some 36, Op.call { callee := Callee.value (Operand.tmp 33), args := #[Operand.tmp 34, Operand.tmp 35], argTypes := #[24, 24] }, 24, _, _, none⟩) rfl (fun K hK => ?_) AllReadyH.nil
                · go_simp
                  go_at_call 68
                  refine (Has.call X50 (sub_bd p0 p1 a0 a1 _ HB.out.2.2.1 HB.out.2.1)).mono ?_
                  rintro e W51 ⟨rfl, X51⟩
                  go_wp2_with fail
                  clear hHeld
                  refine hK.out _ _ (X51.tail.tail.three) (fun hHeld => ?_)
                  clear hK K
                  try simp only [List.setIfInBounds_toArray, List.set_cons_zero, List.set_cons_succ]
                  refine wpAnyH_listed #[true, true, true, true, true, true, true, true, true, true, false, false] (by kernel_rfl) ?_
                  refine wpAnyH_ready (rs := [10]) (by kernel_rfl) (by simp) ?_
                  refine AllReadyH.cons (o := ⟨none, Op.store 24 (Operand.tmp 11) (Operand.tmp 32), 0, _, _, none⟩) rfl (fun K hK => ?_) AllReadyH.nil
                  · obtain ⟨y0, y1⟩ := X51.pt
                    obtain ⟨y2, y3⟩ := X51.ptf
                    go_simp
                    have X52 := X51.set2 (.int .i64 (b0 - a0)) (.int .i64 (b1 - a1))
                    generalize (World.setCell W51 ⟨P, 0, none⟩ (.int .i64 (b0 - a0))).setCell ⟨P, 1, none⟩ (.int .i64 (b1 - a1)) = W52 at *
                    clear y0 y1 y2 y3
                    clear hHeld
                    refine hK.out _ _ (X52.tail.tail.three) (fun hHeld => ?_)
                    clear hK K
                    try simp only [List.setIfInBounds_toArray, List.set_cons_zero, List.set_cons_succ]
                    refine wpAnyH_listed #[true, true, true, true, true, true, true, true, true, true, true, false] (by kernel_rfl) ?_
                    refine wpAnyH_ready (rs := [11]) (by kernel_rfl) (by simp) ?_
                    refine AllReadyH.cons (o := ⟨none, Op.store 24 (Operand.tmp 12) (Operand.tmp 36), 0, _, _, none⟩) rfl (fun K hK => ?_) AllReadyH.nil
                    · have Y53 := X52.swap
                      obtain ⟨y0, y1⟩ := Y53.pt
                      obtain ⟨y2, y3⟩ := Y53.ptf
                      go_simp
                      have X53 := Y53.set2 (.int .i64 (p0 - a0)) (.int .i64 (p1 - a1))
                      generalize (World.setCell W52 ⟨Q, 0, none⟩ (.int .i64 (p0 - a0))).setCell ⟨Q, 1, none⟩ (.int .i64 (p1 - a1)) = W53 at *
                      clear y0 y1 y2 y3
                      clear hHeld
                      refine hK.out _ _ (X53.tail.tail.three) (fun hHeld => ?_)
                      clear hK K
                      try simp only [List.setIfInBounds_toArray, List.set_cons_zero, List.set_cons_succ]
                      refine wpAnyH_listed #[true, true, true, true, true, true, true, true, true, true, true, true] (by kernel_rfl) ?_
                      refine wpAnyH_done (by kernel_rfl) ?_ _
                      go_wp2_with fail
                      go_meet
                      exact ⟨P, Q, rfl, rfl, X53.swap⟩
            · go_simp
              have X54 := X44.push [.int .i64 0, .int .i64 0] 24
              change Has w _ (W44.alloc (.cells #[.int .i64 0, .int .i64 0] 24)) at X54
              generalize W44.alloc (.cells #[.int .i64 0, .int .i64 0] 24) = W54 at *
              generalize W44.heap.size = P at *
              clear hHeld
              refine hK.out _ _ (X54.tail.tail.three) (fun hHeld => ?_)
              clear hK K
              try simp only [List.setIfInBounds_toArray, List.set_cons_zero, List.set_cons_succ]
              refine wpAnyH_listed #[true, true, true, false, true, true, true, false, true, true, false, false] (by kernel_rfl) ?_
              refine wpAnyH_ready (rs := [3]) (by kernel_rfl) (by simp) ?_
              refine AllReadyH.cons (o := ⟨some 32, Op.call { callee := Callee.value (Operand.tmp 29), args := #[Operand.tmp 30, Operand.tmp 31], argTypes := #[24, 24] }, 24, _, _, none⟩) rfl (fun K hK => ?_) AllReadyH.nil
              · go_simp
                go_at_call 68
                refine (Has.call X54 (sub_bd b0 b1 a0 a1 _ HB.out.1 HB.out.2.1)).mono ?_
                rintro e W55 ⟨rfl, X55⟩
                go_wp2_with fail
                clear hHeld
                refine hK.out _ _ (X55.tail.tail.three) (fun hHeld => ?_)
                clear hK K
                try simp only [List.setIfInBounds_toArray, List.set_cons_zero, List.set_cons_succ]
                refine wpAnyH_listed #[true, true, true, true, true, true, true, false, true, true, false, false] (by kernel_rfl) ?_
                refine wpAnyH_ready (rs := [7]) (by kernel_rfl) (by simp) ?_
                refine AllReadyH.cons (o := ⟨some 36, Op.call { callee := Callee.value (Operand.tmp 33), args := #[Operand.tmp 34, Operand.tmp 35], argTypes := #[24, 24] }, 24, _, _, none⟩) rfl (fun K hK => ?_) AllReadyH.nil
                · go_simp
                  go_at_call 68
                  refine (Has.call X55 (sub_bd p0 p1 a0 a1 _ HB.out.2.2.1 HB.out.2.1)).mono ?_
                  rintro e W56 ⟨rfl, X56⟩
                  go_wp2_with fail
                  clear hHeld
                  refine hK.out _ _ (X56.tail.tail.three) (fun hHeld => ?_)
                  clear hK K
                  try simp only [List.setIfInBounds_toArray, List.set_cons_zero, List.set_cons_succ]
                  refine wpAnyH_listed #[true, true, true, true, true, true, true, true, true, true, false, false] (by kernel_rfl) ?_
                  refine wpAnyH_ready (rs := [10]) (by kernel_rfl) (by simp) ?_
                  refine AllReadyH.cons (o := ⟨none, Op.store 24 (Operand.tmp 11) (Operand.tmp 32), 0, _, _, none⟩) rfl (fun K hK => ?_) AllReadyH.nil
                  · obtain ⟨y0, y1⟩ := X56.pt
                    obtain ⟨y2, y3⟩ := X56.ptf
                    go_simp
                    have X57 := X56.set2 (.int .i64 (b0 - a0)) (.int .i64 (b1 - a1))
                    generalize (World.setCell W56 ⟨P, 0, none⟩ (.int .i64 (b0 - a0))).setCell ⟨P, 1, none⟩ (.int .i64 (b1 - a1)) = W57 at *
                    clear y0 y1 y2 y3
                    clear hHeld
                    refine hK.out _ _ (X57.tail.tail.three) (fun hHeld => ?_)
                    clear hK K
                    try simp only [List.setIfInBounds_toArray, List.set_cons_zero, List.set_cons_succ]
                    refine wpAnyH_listed #[true, true, true, true, true, true, true, true, true, true, true, false] (by kernel_rfl) ?_
                    refine wpAnyH_ready (rs := [11]) (by kernel_rfl) (by simp) ?_
                    refine AllReadyH.cons (o := ⟨none, Op.store 24 (Operand.tmp 12) (Operand.tmp 36), 0, _, _, none⟩) rfl (fun K hK => ?_) AllReadyH.nil
                    · have Y58 := X57.swap
                      obtain ⟨y0, y1⟩ := Y58.pt
                      obtain ⟨y2, y3⟩ := Y58.ptf
                      go_simp
                      have X58 := Y58.set2 (.int .i64 (p0 - a0)) (.int .i64 (p1 - a1))
                      generalize (World.setCell W57 ⟨Q, 0, none⟩ (.int .i64 (p0 - a0))).setCell ⟨Q, 1, none⟩ (.int .i64 (p1 - a1)) = W58 at *
                      clear y0 y1 y2 y3
                      clear hHeld
                      refine hK.out _ _ (X58.tail.tail.three) (fun hHeld => ?_)
                      clear hK K
                      try simp only [List.setIfInBounds_toArray, List.set_cons_zero, List.set_cons_succ]
                      refine wpAnyH_listed #[true, true, true, true, true, true, true, true, true, true, true, true] (by kernel_rfl) ?_
                      refine wpAnyH_done (by kernel_rfl) ?_ _
                      go_wp2_with fail
                      go_meet
                      exact ⟨P, Q, rfl, rfl, X58.swap⟩
        case rest =>
          obtain ⟨P, Q, rfl, rfl, C4⟩ := hcut
          clear k0 k1 k2 k3 k4 k5
          obtain ⟨⟨k0, k1, k2, k3⟩, -⟩ := C4.two
          go_wp2_with fail
          refine (Has.call C4 (sign2_any _ _ _ _ _ HB.out.2.2.2.1 HB.out.2.2.2.2.1 HB.out.2.2.2.2.2.1 HB.out.2.2.2.2.2.2)).mono ?_
          rintro e w5 ⟨rfl, C5⟩
          go_wp2_with fail
          go_ret
          exact ⟨ret_i HV.out, C5.low⟩

end Go.Proofs.Ytmldgjhecoeldaa
