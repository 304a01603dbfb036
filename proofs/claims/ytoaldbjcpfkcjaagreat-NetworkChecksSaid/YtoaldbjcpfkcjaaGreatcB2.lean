/- point.side at the type of points. Side and On of point. Meet, where a point is not bounded. Meet of point. -/
import Derived.Test.YtoaldbjcpfkcjaaGreatcB1
import Derived.IntWalk
namespace Go.Proofs.YtoaldbjcpfkcjaaGreat
open Go.RowKit Go.Lib

set_option maxRecDepth 100000 in
set_option maxHeartbeats 8000000 in
theorem sideP_any (a0 a1 b0 b1 p0 p1 : Int) (w : World) :
  Calls Tryz.prog 81 #[.agg #[.int .i64 a0, .int .i64 a1], .agg #[.int .i64 b0, .int .i64 b1], .agg #[.int .i64 p0, .int .i64 p1], .func (.func 50) #[] #[], .func (.func 82) #[] #[]] w fun e w' => e = .returned (.int .i64 (sideOf a0 a1 b0 b1 p0 p1)) ∧ Below w.heap.size w w' := by
 have C0 := has3 (w := w) [.int .i64 a0, .int .i64 a1] [.int .i64 b0, .int .i64 b1] [.int .i64 p0, .int .i64 p1] 37 37 37
 cases h0 : inl 1152921504606846976 a0 a1
 ·have HV := Lib.hid (sideOf_no0 a0 a1 b0 b1 p0 p1 h0)
  have H0 := Lib.hid h0
  clear h0
  go_enter Tryz.func81, Tryz.ntmps81
  go_wp2_with fail
  change Has w _ (((w.alloc (.cells #[.int .i64 a0, .int .i64 a1] 37)).alloc (.cells #[.int .i64 b0, .int .i64 b1] 37)).alloc (.cells #[.int .i64 p0, .int .i64 p1] 37)) at C0
  generalize ((w.alloc (.cells #[.int .i64 a0, .int .i64 a1] 37)).alloc (.cells #[.int .i64 b0, .int .i64 b1] 37)).alloc (.cells #[.int .i64 p0, .int .i64 p1] 37) = w0 at *
  obtain ⟨⟨k0, k1, k2, k3, k4, k5⟩, -⟩ := C0.three
  go_wp2_with fail
  refine (Has.call C0 (bounded_is a0 a1 _ H0.out _)).mono ?_
  rintro e w1 ⟨rfl, C1⟩
  clear k0 k1 k2 k3 k4 k5
  obtain ⟨⟨k0, k1, k2, k3, k4, k5⟩, -⟩ := C1.three
  go_wp2_with fail
  go_ret
  exact ⟨ret_i HV.out, C1.low⟩
 ·skip
  cases h1 : inl 1152921504606846976 b0 b1
  ·have HV := Lib.hid (sideOf_no1 a0 a1 b0 b1 p0 p1 h1)
   have H0 := Lib.hid h0
   have H1 := Lib.hid h1
   clear h0 h1
   go_enter Tryz.func81, Tryz.ntmps81
   go_wp2_with fail
   change Has w _ (((w.alloc (.cells #[.int .i64 a0, .int .i64 a1] 37)).alloc (.cells #[.int .i64 b0, .int .i64 b1] 37)).alloc (.cells #[.int .i64 p0, .int .i64 p1] 37)) at C0
   generalize ((w.alloc (.cells #[.int .i64 a0, .int .i64 a1] 37)).alloc (.cells #[.int .i64 b0, .int .i64 b1] 37)).alloc (.cells #[.int .i64 p0, .int .i64 p1] 37) = w0 at *
   obtain ⟨⟨k0, k1, k2, k3, k4, k5⟩, -⟩ := C0.three
   go_wp2_with fail
   refine (Has.call C0 (bounded_is a0 a1 _ H0.out _)).mono ?_
   rintro e w1 ⟨rfl, C1⟩
   clear k0 k1 k2 k3 k4 k5
   obtain ⟨⟨k0, k1, k2, k3, k4, k5⟩, -⟩ := C1.three
   go_wp2_with fail
   refine (Has.call C1 (bounded_is b0 b1 _ H1.out _)).mono ?_
   rintro e w2 ⟨rfl, C2⟩
   clear k0 k1 k2 k3 k4 k5
   obtain ⟨⟨k0, k1, k2, k3, k4, k5⟩, -⟩ := C2.three
   go_wp2_with fail
   go_ret
   exact ⟨ret_i HV.out, C2.low⟩
  ·skip
   cases h2 : inl 1152921504606846976 p0 p1
   ·have HV := Lib.hid (sideOf_no2 a0 a1 b0 b1 p0 p1 h2)
    have H0 := Lib.hid h0
    have H1 := Lib.hid h1
    have H2 := Lib.hid h2
    clear h0 h1 h2
    go_enter Tryz.func81, Tryz.ntmps81
    go_wp2_with fail
    change Has w _ (((w.alloc (.cells #[.int .i64 a0, .int .i64 a1] 37)).alloc (.cells #[.int .i64 b0, .int .i64 b1] 37)).alloc (.cells #[.int .i64 p0, .int .i64 p1] 37)) at C0
    generalize ((w.alloc (.cells #[.int .i64 a0, .int .i64 a1] 37)).alloc (.cells #[.int .i64 b0, .int .i64 b1] 37)).alloc (.cells #[.int .i64 p0, .int .i64 p1] 37) = w0 at *
    obtain ⟨⟨k0, k1, k2, k3, k4, k5⟩, -⟩ := C0.three
    go_wp2_with fail
    refine (Has.call C0 (bounded_is a0 a1 _ H0.out _)).mono ?_
    rintro e w1 ⟨rfl, C1⟩
    clear k0 k1 k2 k3 k4 k5
    obtain ⟨⟨k0, k1, k2, k3, k4, k5⟩, -⟩ := C1.three
    go_wp2_with fail
    refine (Has.call C1 (bounded_is b0 b1 _ H1.out _)).mono ?_
    rintro e w2 ⟨rfl, C2⟩
    clear k0 k1 k2 k3 k4 k5
    obtain ⟨⟨k0, k1, k2, k3, k4, k5⟩, -⟩ := C2.three
    go_wp2_with fail
    refine (Has.call C2 (bounded_is p0 p1 _ H2.out _)).mono ?_
    rintro e w3 ⟨rfl, C3⟩
    clear k0 k1 k2 k3 k4 k5
    obtain ⟨⟨k0, k1, k2, k3, k4, k5⟩, -⟩ := C3.three
    go_wp2_with fail
    go_ret
    exact ⟨ret_i HV.out, C3.low⟩
   ·skip
    have HV := Lib.hid (sideOf_yes a0 a1 b0 b1 p0 p1 h0 h1 h2)
    have B := inl_all h0 h1 h2
    have H0 := Lib.hid h0
    have H1 := Lib.hid h1
    have H2 := Lib.hid h2
    have HB := Lib.hid B
    clear h0 h1 h2 B
    go_enter Tryz.func81, Tryz.ntmps81
    go_wp2_with fail
    change Has w _ (((w.alloc (.cells #[.int .i64 a0, .int .i64 a1] 37)).alloc (.cells #[.int .i64 b0, .int .i64 b1] 37)).alloc (.cells #[.int .i64 p0, .int .i64 p1] 37)) at C0
    generalize ((w.alloc (.cells #[.int .i64 a0, .int .i64 a1] 37)).alloc (.cells #[.int .i64 b0, .int .i64 b1] 37)).alloc (.cells #[.int .i64 p0, .int .i64 p1] 37) = w0 at *
    obtain ⟨⟨k0, k1, k2, k3, k4, k5⟩, -⟩ := C0.three
    go_wp2_with fail
    refine (Has.call C0 (bounded_is a0 a1 _ H0.out _)).mono ?_
    rintro e w1 ⟨rfl, C1⟩
    clear k0 k1 k2 k3 k4 k5
    obtain ⟨⟨k0, k1, k2, k3, k4, k5⟩, -⟩ := C1.three
    go_wp2_with fail
    refine (Has.call C1 (bounded_is b0 b1 _ H1.out _)).mono ?_
    rintro e w2 ⟨rfl, C2⟩
    clear k0 k1 k2 k3 k4 k5
    obtain ⟨⟨k0, k1, k2, k3, k4, k5⟩, -⟩ := C2.three
    go_wp2_with fail
    refine (Has.call C2 (bounded_is p0 p1 _ H2.out _)).mono ?_
    rintro e w3 ⟨rfl, C3⟩
    clear k0 k1 k2 k3 k4 k5
    obtain ⟨⟨k0, k1, k2, k3, k4, k5⟩, -⟩ := C3.three
    go_wp2_with fail
    go_cut [11, 12] (fun p q wx => ∃ P Q, p = .pointer (some ⟨P, 0, none⟩) ∧ q = .pointer (some ⟨Q, 0, none⟩) ∧ Has w ((P, [.int .i64 (b0 - a0), .int .i64 (b1 - a1)]) :: (Q, [.int .i64 (p0 - a0), .int .i64 (p1 - a1)]) :: [(w.heap.size, [.int .i64 a0, .int .i64 a1]), (w.heap.size + 1, [.int .i64 b0, .int .i64 b1]), (w.heap.size + 2, [.int .i64 p0, .int .i64 p1])]) wx)
    case first =>
     refine wp_region_held_drew (S := (fun w' => (w'.cell? ⟨w.heap.size, 0, none⟩ = some (.int .i64 a0) ∧ w'.cell? ⟨w.heap.size, 1, none⟩ = some (.int .i64 a1) ∧ w'.cell? ⟨w.heap.size + 1, 0, none⟩ = some (.int .i64 b0) ∧ w'.cell? ⟨w.heap.size + 1, 1, none⟩ = some (.int .i64 b1) ∧ w'.cell? ⟨w.heap.size + 2, 0, none⟩ = some (.int .i64 p0) ∧ w'.cell? ⟨w.heap.size + 2, 1, none⟩ = some (.int .i64 p1)) ∧ Has w [(w.heap.size, [.int .i64 a0, .int .i64 a1]), (w.heap.size + 1, [.int .i64 b0, .int .i64 b1]), (w.heap.size + 2, [.int .i64 p0, .int .i64 p1])] w')) (by kernel_rfl) (C3.drew.three) (fun hHeld => ?_)
     refine tbA [0, 1, 2, 4, 5, 6] ?_
     refine tkA (.func (.func 82) #[] #[]) (oi := ⟨some 29, .move (.tmp 4), 55, _, _, none⟩) ?_
     simp only [Act.put, pA, pB, pC]
     refine tkA (.agg #[.int .i64 b0, .int .i64 b1]) (oi := ⟨some 30, .load 37 (.tmp 6), 37, _, _, none⟩) ?_
     simp only [Act.put, pA, pB, pC]
     refine tkA (.agg #[.int .i64 a0, .int .i64 a1]) (oi := ⟨some 31, .load 37 (.tmp 5), 37, _, _, none⟩) ?_
     simp only [Act.put, pA, pB, pC]
     refine tkA (.func (.func 82) #[] #[]) (oi := ⟨some 33, .move (.tmp 4), 55, _, _, none⟩) ?_
     simp only [Act.put, pA, pB, pC]
     refine tkA (.agg #[.int .i64 p0, .int .i64 p1]) (oi := ⟨some 34, .load 37 (.tmp 7), 37, _, _, none⟩) ?_
     simp only [Act.put, pA, pB, pC]
     refine tkA (.agg #[.int .i64 a0, .int .i64 a1]) (oi := ⟨some 35, .load 37 (.tmp 5), 37, _, _, none⟩) ?_
     simp only [Act.put, pA, pB, pC]
     refine teA ?_
     refine tlA #[true, true, true, false, true, true, true, false, false, false, false, false] ?_
     have X0 := C3.drew
     generalize w3.drew = W0 at *
     refine trA [3, 8, 9] ?_
     refine AllReadyH.cons (o := ⟨some 32, .call { callee := .value (.tmp 29), args := #[.tmp 30, .tmp 31], argTypes := #[37, 37] }, 37, _, _, none⟩) rfl (fun K hK => ?_) (AllReadyH.cons (o := ⟨some 11, .alloc 37, 0, _, _, none⟩) rfl (fun K hK => ?_) (AllReadyH.cons (o := ⟨some 12, .alloc 37, 0, _, _, none⟩) rfl (fun K hK => ?_) AllReadyH.nil))
     ·go_simp
      go_at_call 82
      refine (Has.call X0 (sub_bd b0 b1 a0 a1 _ HB.out.1 HB.out.2.1)).mono ?_
      rintro e W1 ⟨rfl, X1⟩
      go_wp2_with fail
      clear hHeld
      refine hK.out _ _ (X1.three) (fun hHeld => ?_)
      clear hK K
      try simp only [pA, pB, pC]
      refine tlA #[true, true, true, true, true, true, true, false, false, false, false, false] ?_
      refine trA [7, 8, 9] ?_
      refine AllReadyH.cons (o := ⟨some 36, .call { callee := .value (.tmp 33), args := #[.tmp 34, .tmp 35], argTypes := #[37, 37] }, 37, _, _, none⟩) rfl (fun K hK => ?_) (AllReadyH.cons (o := ⟨some 11, .alloc 37, 0, _, _, none⟩) rfl (fun K hK => ?_) (AllReadyH.cons (o := ⟨some 12, .alloc 37, 0, _, _, none⟩) rfl (fun K hK => ?_) AllReadyH.nil))
      ·go_simp
       go_at_call 82
       refine (Has.call X1 (sub_bd p0 p1 a0 a1 _ HB.out.2.2.1 HB.out.2.1)).mono ?_
       rintro e W2 ⟨rfl, X2⟩
       go_wp2_with fail
       clear hHeld
       refine hK.out _ _ (X2.three) (fun hHeld => ?_)
       clear hK K
       try simp only [pA, pB, pC]
       refine tlA #[true, true, true, true, true, true, true, true, false, false, false, false] ?_
       refine trA [8, 9] ?_
       refine AllReadyH.cons (o := ⟨some 11, .alloc 37, 0, _, _, none⟩) rfl (fun K hK => ?_) (AllReadyH.cons (o := ⟨some 12, .alloc 37, 0, _, _, none⟩) rfl (fun K hK => ?_) AllReadyH.nil)
       ·go_simp
        have X3 := X2.push [.int .i64 0, .int .i64 0] 37
        change Has w _ (W2.alloc (.cells #[.int .i64 0, .int .i64 0] 37)) at X3
        generalize W2.alloc (.cells #[.int .i64 0, .int .i64 0] 37) = W3 at *
        generalize W2.heap.size = P at *
        clear hHeld
        refine hK.out _ _ (X3.tail.three) (fun hHeld => ?_)
        clear hK K
        try simp only [pA, pB, pC]
        refine tlA #[true, true, true, true, true, true, true, true, true, false, false, false] ?_
        refine trA [9] ?_
        refine AllReadyH.cons (o := ⟨some 12, .alloc 37, 0, _, _, none⟩) rfl (fun K hK => ?_) AllReadyH.nil
        ·go_simp
         have X4 := X3.push [.int .i64 0, .int .i64 0] 37
         change Has w _ (W3.alloc (.cells #[.int .i64 0, .int .i64 0] 37)) at X4
         generalize W3.alloc (.cells #[.int .i64 0, .int .i64 0] 37) = W4 at *
         generalize W3.heap.size = Q at *
         clear hHeld
         refine hK.out _ _ (X4.tail.tail.three) (fun hHeld => ?_)
         clear hK K
         try simp only [pA, pB, pC]
         refine tlA #[true, true, true, true, true, true, true, true, true, true, false, false] ?_
         refine trA [10] ?_
         refine AllReadyH.cons (o := ⟨none, .store 37 (.tmp 11) (.tmp 32), 0, _, _, none⟩) rfl (fun K hK => ?_) AllReadyH.nil
         ·have Y5 := X4.swap
          obtain ⟨y0, y1⟩ := Y5.pt
          obtain ⟨y2, y3⟩ := Y5.ptf
          go_simp
          have X5 := Y5.set2 (.int .i64 (b0 - a0)) (.int .i64 (b1 - a1))
          generalize (World.setCell W4 ⟨P, 0, none⟩ (.int .i64 (b0 - a0))).setCell ⟨P, 1, none⟩ (.int .i64 (b1 - a1)) = W5 at *
          clear y0 y1 y2 y3
          clear hHeld
          refine hK.out _ _ (X5.tail.tail.three) (fun hHeld => ?_)
          clear hK K
          try simp only [pA, pB, pC]
          refine tlA #[true, true, true, true, true, true, true, true, true, true, true, false] ?_
          refine trA [11] ?_
          refine AllReadyH.cons (o := ⟨none, .store 37 (.tmp 12) (.tmp 36), 0, _, _, none⟩) rfl (fun K hK => ?_) AllReadyH.nil
          ·have Y6 := X5.swap
           obtain ⟨y0, y1⟩ := Y6.pt
           obtain ⟨y2, y3⟩ := Y6.ptf
           go_simp
           have X6 := Y6.set2 (.int .i64 (p0 - a0)) (.int .i64 (p1 - a1))
           generalize (World.setCell W5 ⟨Q, 0, none⟩ (.int .i64 (p0 - a0))).setCell ⟨Q, 1, none⟩ (.int .i64 (p1 - a1)) = W6 at *
           clear y0 y1 y2 y3
           clear hHeld
           refine hK.out _ _ (X6.tail.tail.three) (fun hHeld => ?_)
           clear hK K
           try simp only [pA, pB, pC]
           refine tlA #[true, true, true, true, true, true, true, true, true, true, true, true] ?_
           refine wpAnyH_done (by kernel_rfl) ?_ _
           go_wp2_with fail
           go_meet
           exact ⟨P, Q, rfl, rfl, X6.swap⟩
       ·go_simp
        have X7 := X2.push [.int .i64 0, .int .i64 0] 37
        change Has w _ (W2.alloc (.cells #[.int .i64 0, .int .i64 0] 37)) at X7
        generalize W2.alloc (.cells #[.int .i64 0, .int .i64 0] 37) = W7 at *
        generalize W2.heap.size = Q at *
        clear hHeld
        refine hK.out _ _ (X7.tail.three) (fun hHeld => ?_)
        clear hK K
        try simp only [pA, pB, pC]
        refine tlA #[true, true, true, true, true, true, true, true, false, true, false, false] ?_
        refine trA [8] ?_
        refine AllReadyH.cons (o := ⟨some 11, .alloc 37, 0, _, _, none⟩) rfl (fun K hK => ?_) AllReadyH.nil
        ·go_simp
         have X8 := X7.push [.int .i64 0, .int .i64 0] 37
         change Has w _ (W7.alloc (.cells #[.int .i64 0, .int .i64 0] 37)) at X8
         generalize W7.alloc (.cells #[.int .i64 0, .int .i64 0] 37) = W8 at *
         generalize W7.heap.size = P at *
         clear hHeld
         refine hK.out _ _ (X8.tail.tail.three) (fun hHeld => ?_)
         clear hK K
         try simp only [pA, pB, pC]
         refine tlA #[true, true, true, true, true, true, true, true, true, true, false, false] ?_
         refine trA [10] ?_
         refine AllReadyH.cons (o := ⟨none, .store 37 (.tmp 11) (.tmp 32), 0, _, _, none⟩) rfl (fun K hK => ?_) AllReadyH.nil
         ·obtain ⟨y0, y1⟩ := X8.pt
          obtain ⟨y2, y3⟩ := X8.ptf
          go_simp
          have X9 := X8.set2 (.int .i64 (b0 - a0)) (.int .i64 (b1 - a1))
          generalize (World.setCell W8 ⟨P, 0, none⟩ (.int .i64 (b0 - a0))).setCell ⟨P, 1, none⟩ (.int .i64 (b1 - a1)) = W9 at *
          clear y0 y1 y2 y3
          clear hHeld
          refine hK.out _ _ (X9.tail.tail.three) (fun hHeld => ?_)
          clear hK K
          try simp only [pA, pB, pC]
          refine tlA #[true, true, true, true, true, true, true, true, true, true, true, false] ?_
          refine trA [11] ?_
          refine AllReadyH.cons (o := ⟨none, .store 37 (.tmp 12) (.tmp 36), 0, _, _, none⟩) rfl (fun K hK => ?_) AllReadyH.nil
          ·have Y10 := X9.swap
           obtain ⟨y0, y1⟩ := Y10.pt
           obtain ⟨y2, y3⟩ := Y10.ptf
           go_simp
           have X10 := Y10.set2 (.int .i64 (p0 - a0)) (.int .i64 (p1 - a1))
           generalize (World.setCell W9 ⟨Q, 0, none⟩ (.int .i64 (p0 - a0))).setCell ⟨Q, 1, none⟩ (.int .i64 (p1 - a1)) = W10 at *
           clear y0 y1 y2 y3
           clear hHeld
           refine hK.out _ _ (X10.tail.tail.three) (fun hHeld => ?_)
           clear hK K
           try simp only [pA, pB, pC]
           refine tlA #[true, true, true, true, true, true, true, true, true, true, true, true] ?_
           refine wpAnyH_done (by kernel_rfl) ?_ _
           go_wp2_with fail
           go_meet
           exact ⟨P, Q, rfl, rfl, X10.swap⟩
      ·go_simp
       have X11 := X1.push [.int .i64 0, .int .i64 0] 37
       change Has w _ (W1.alloc (.cells #[.int .i64 0, .int .i64 0] 37)) at X11
       generalize W1.alloc (.cells #[.int .i64 0, .int .i64 0] 37) = W11 at *
       generalize W1.heap.size = P at *
       clear hHeld
       refine hK.out _ _ (X11.tail.three) (fun hHeld => ?_)
       clear hK K
       try simp only [pA, pB, pC]
       refine tlA #[true, true, true, true, true, true, true, false, true, false, false, false] ?_
       refine trA [7, 9] ?_
       refine AllReadyH.cons (o := ⟨some 36, .call { callee := .value (.tmp 33), args := #[.tmp 34, .tmp 35], argTypes := #[37, 37] }, 37, _, _, none⟩) rfl (fun K hK => ?_) (AllReadyH.cons (o := ⟨some 12, .alloc 37, 0, _, _, none⟩) rfl (fun K hK => ?_) AllReadyH.nil)
       ·go_simp
        go_at_call 82
        refine (Has.call X11 (sub_bd p0 p1 a0 a1 _ HB.out.2.2.1 HB.out.2.1)).mono ?_
        rintro e W12 ⟨rfl, X12⟩
        go_wp2_with fail
        clear hHeld
        refine hK.out _ _ (X12.tail.three) (fun hHeld => ?_)
        clear hK K
        try simp only [pA, pB, pC]
        refine tlA #[true, true, true, true, true, true, true, true, true, false, false, false] ?_
        refine trA [9] ?_
        refine AllReadyH.cons (o := ⟨some 12, .alloc 37, 0, _, _, none⟩) rfl (fun K hK => ?_) AllReadyH.nil
        ·go_simp
         have X13 := X12.push [.int .i64 0, .int .i64 0] 37
         change Has w _ (W12.alloc (.cells #[.int .i64 0, .int .i64 0] 37)) at X13
         generalize W12.alloc (.cells #[.int .i64 0, .int .i64 0] 37) = W13 at *
         generalize W12.heap.size = Q at *
         clear hHeld
         refine hK.out _ _ (X13.tail.tail.three) (fun hHeld => ?_)
         clear hK K
         try simp only [pA, pB, pC]
         refine tlA #[true, true, true, true, true, true, true, true, true, true, false, false] ?_
         refine trA [10] ?_
         refine AllReadyH.cons (o := ⟨none, .store 37 (.tmp 11) (.tmp 32), 0, _, _, none⟩) rfl (fun K hK => ?_) AllReadyH.nil
         ·have Y14 := X13.swap
          obtain ⟨y0, y1⟩ := Y14.pt
          obtain ⟨y2, y3⟩ := Y14.ptf
          go_simp
          have X14 := Y14.set2 (.int .i64 (b0 - a0)) (.int .i64 (b1 - a1))
          generalize (World.setCell W13 ⟨P, 0, none⟩ (.int .i64 (b0 - a0))).setCell ⟨P, 1, none⟩ (.int .i64 (b1 - a1)) = W14 at *
          clear y0 y1 y2 y3
          clear hHeld
          refine hK.out _ _ (X14.tail.tail.three) (fun hHeld => ?_)
          clear hK K
          try simp only [pA, pB, pC]
          refine tlA #[true, true, true, true, true, true, true, true, true, true, true, false] ?_
          refine trA [11] ?_
          refine AllReadyH.cons (o := ⟨none, .store 37 (.tmp 12) (.tmp 36), 0, _, _, none⟩) rfl (fun K hK => ?_) AllReadyH.nil
          ·have Y15 := X14.swap
           obtain ⟨y0, y1⟩ := Y15.pt
           obtain ⟨y2, y3⟩ := Y15.ptf
           go_simp
           have X15 := Y15.set2 (.int .i64 (p0 - a0)) (.int .i64 (p1 - a1))
           generalize (World.setCell W14 ⟨Q, 0, none⟩ (.int .i64 (p0 - a0))).setCell ⟨Q, 1, none⟩ (.int .i64 (p1 - a1)) = W15 at *
           clear y0 y1 y2 y3
           clear hHeld
           refine hK.out _ _ (X15.tail.tail.three) (fun hHeld => ?_)
           clear hK K
           try simp only [pA, pB, pC]
           refine tlA #[true, true, true, true, true, true, true, true, true, true, true, true] ?_
           refine wpAnyH_done (by kernel_rfl) ?_ _
           go_wp2_with fail
           go_meet
           exact ⟨P, Q, rfl, rfl, X15.swap⟩
       ·go_simp
        have X16 := X11.push [.int .i64 0, .int .i64 0] 37
        change Has w _ (W11.alloc (.cells #[.int .i64 0, .int .i64 0] 37)) at X16
        generalize W11.alloc (.cells #[.int .i64 0, .int .i64 0] 37) = W16 at *
        generalize W11.heap.size = Q at *
        clear hHeld
        refine hK.out _ _ (X16.tail.tail.three) (fun hHeld => ?_)
        clear hK K
        try simp only [pA, pB, pC]
        refine tlA #[true, true, true, true, true, true, true, false, true, true, false, false] ?_
        refine trA [7] ?_
        refine AllReadyH.cons (o := ⟨some 36, .call { callee := .value (.tmp 33), args := #[.tmp 34, .tmp 35], argTypes := #[37, 37] }, 37, _, _, none⟩) rfl (fun K hK => ?_) AllReadyH.nil
        ·go_simp
         go_at_call 82
         refine (Has.call X16 (sub_bd p0 p1 a0 a1 _ HB.out.2.2.1 HB.out.2.1)).mono ?_
         rintro e W17 ⟨rfl, X17⟩
         go_wp2_with fail
         clear hHeld
         refine hK.out _ _ (X17.tail.tail.three) (fun hHeld => ?_)
         clear hK K
         try simp only [pA, pB, pC]
         refine tlA #[true, true, true, true, true, true, true, true, true, true, false, false] ?_
         refine trA [10] ?_
         refine AllReadyH.cons (o := ⟨none, .store 37 (.tmp 11) (.tmp 32), 0, _, _, none⟩) rfl (fun K hK => ?_) AllReadyH.nil
         ·have Y18 := X17.swap
          obtain ⟨y0, y1⟩ := Y18.pt
          obtain ⟨y2, y3⟩ := Y18.ptf
          go_simp
          have X18 := Y18.set2 (.int .i64 (b0 - a0)) (.int .i64 (b1 - a1))
          generalize (World.setCell W17 ⟨P, 0, none⟩ (.int .i64 (b0 - a0))).setCell ⟨P, 1, none⟩ (.int .i64 (b1 - a1)) = W18 at *
          clear y0 y1 y2 y3
          clear hHeld
          refine hK.out _ _ (X18.tail.tail.three) (fun hHeld => ?_)
          clear hK K
          try simp only [pA, pB, pC]
          refine tlA #[true, true, true, true, true, true, true, true, true, true, true, false] ?_
          refine trA [11] ?_
          refine AllReadyH.cons (o := ⟨none, .store 37 (.tmp 12) (.tmp 36), 0, _, _, none⟩) rfl (fun K hK => ?_) AllReadyH.nil
          ·have Y19 := X18.swap
           obtain ⟨y0, y1⟩ := Y19.pt
           obtain ⟨y2, y3⟩ := Y19.ptf
           go_simp
           have X19 := Y19.set2 (.int .i64 (p0 - a0)) (.int .i64 (p1 - a1))
           generalize (World.setCell W18 ⟨Q, 0, none⟩ (.int .i64 (p0 - a0))).setCell ⟨Q, 1, none⟩ (.int .i64 (p1 - a1)) = W19 at *
           clear y0 y1 y2 y3
           clear hHeld
           refine hK.out _ _ (X19.tail.tail.three) (fun hHeld => ?_)
           clear hK K
           try simp only [pA, pB, pC]
           refine tlA #[true, true, true, true, true, true, true, true, true, true, true, true] ?_
           refine wpAnyH_done (by kernel_rfl) ?_ _
           go_wp2_with fail
           go_meet
           exact ⟨P, Q, rfl, rfl, X19.swap⟩
      ·go_simp
       have X20 := X1.push [.int .i64 0, .int .i64 0] 37
       change Has w _ (W1.alloc (.cells #[.int .i64 0, .int .i64 0] 37)) at X20
       generalize W1.alloc (.cells #[.int .i64 0, .int .i64 0] 37) = W20 at *
       generalize W1.heap.size = Q at *
       clear hHeld
       refine hK.out _ _ (X20.tail.three) (fun hHeld => ?_)
       clear hK K
       try simp only [pA, pB, pC]
       refine tlA #[true, true, true, true, true, true, true, false, false, true, false, false] ?_
       refine trA [7, 8] ?_
       refine AllReadyH.cons (o := ⟨some 36, .call { callee := .value (.tmp 33), args := #[.tmp 34, .tmp 35], argTypes := #[37, 37] }, 37, _, _, none⟩) rfl (fun K hK => ?_) (AllReadyH.cons (o := ⟨some 11, .alloc 37, 0, _, _, none⟩) rfl (fun K hK => ?_) AllReadyH.nil)
       ·go_simp
        go_at_call 82
        refine (Has.call X20 (sub_bd p0 p1 a0 a1 _ HB.out.2.2.1 HB.out.2.1)).mono ?_
        rintro e W21 ⟨rfl, X21⟩
        go_wp2_with fail
        clear hHeld
        refine hK.out _ _ (X21.tail.three) (fun hHeld => ?_)
        clear hK K
        try simp only [pA, pB, pC]
        refine tlA #[true, true, true, true, true, true, true, true, false, true, false, false] ?_
        refine trA [8] ?_
        refine AllReadyH.cons (o := ⟨some 11, .alloc 37, 0, _, _, none⟩) rfl (fun K hK => ?_) AllReadyH.nil
        ·go_simp
         have X22 := X21.push [.int .i64 0, .int .i64 0] 37
         change Has w _ (W21.alloc (.cells #[.int .i64 0, .int .i64 0] 37)) at X22
         generalize W21.alloc (.cells #[.int .i64 0, .int .i64 0] 37) = W22 at *
         generalize W21.heap.size = P at *
         clear hHeld
         refine hK.out _ _ (X22.tail.tail.three) (fun hHeld => ?_)
         clear hK K
         try simp only [pA, pB, pC]
         refine tlA #[true, true, true, true, true, true, true, true, true, true, false, false] ?_
         refine trA [10] ?_
         refine AllReadyH.cons (o := ⟨none, .store 37 (.tmp 11) (.tmp 32), 0, _, _, none⟩) rfl (fun K hK => ?_) AllReadyH.nil
         ·obtain ⟨y0, y1⟩ := X22.pt
          obtain ⟨y2, y3⟩ := X22.ptf
          go_simp
          have X23 := X22.set2 (.int .i64 (b0 - a0)) (.int .i64 (b1 - a1))
          generalize (World.setCell W22 ⟨P, 0, none⟩ (.int .i64 (b0 - a0))).setCell ⟨P, 1, none⟩ (.int .i64 (b1 - a1)) = W23 at *
          clear y0 y1 y2 y3
          clear hHeld
          refine hK.out _ _ (X23.tail.tail.three) (fun hHeld => ?_)
          clear hK K
          try simp only [pA, pB, pC]
          refine tlA #[true, true, true, true, true, true, true, true, true, true, true, false] ?_
          refine trA [11] ?_
          refine AllReadyH.cons (o := ⟨none, .store 37 (.tmp 12) (.tmp 36), 0, _, _, none⟩) rfl (fun K hK => ?_) AllReadyH.nil
          ·have Y24 := X23.swap
           obtain ⟨y0, y1⟩ := Y24.pt
           obtain ⟨y2, y3⟩ := Y24.ptf
           go_simp
           have X24 := Y24.set2 (.int .i64 (p0 - a0)) (.int .i64 (p1 - a1))
           generalize (World.setCell W23 ⟨Q, 0, none⟩ (.int .i64 (p0 - a0))).setCell ⟨Q, 1, none⟩ (.int .i64 (p1 - a1)) = W24 at *
           clear y0 y1 y2 y3
           clear hHeld
           refine hK.out _ _ (X24.tail.tail.three) (fun hHeld => ?_)
           clear hK K
           try simp only [pA, pB, pC]
           refine tlA #[true, true, true, true, true, true, true, true, true, true, true, true] ?_
           refine wpAnyH_done (by kernel_rfl) ?_ _
           go_wp2_with fail
           go_meet
           exact ⟨P, Q, rfl, rfl, X24.swap⟩
       ·go_simp
        have X25 := X20.push [.int .i64 0, .int .i64 0] 37
        change Has w _ (W20.alloc (.cells #[.int .i64 0, .int .i64 0] 37)) at X25
        generalize W20.alloc (.cells #[.int .i64 0, .int .i64 0] 37) = W25 at *
        generalize W20.heap.size = P at *
        clear hHeld
        refine hK.out _ _ (X25.tail.tail.three) (fun hHeld => ?_)
        clear hK K
        try simp only [pA, pB, pC]
        refine tlA #[true, true, true, true, true, true, true, false, true, true, false, false] ?_
        refine trA [7] ?_
        refine AllReadyH.cons (o := ⟨some 36, .call { callee := .value (.tmp 33), args := #[.tmp 34, .tmp 35], argTypes := #[37, 37] }, 37, _, _, none⟩) rfl (fun K hK => ?_) AllReadyH.nil
        ·go_simp
         go_at_call 82
         refine (Has.call X25 (sub_bd p0 p1 a0 a1 _ HB.out.2.2.1 HB.out.2.1)).mono ?_
         rintro e W26 ⟨rfl, X26⟩
         go_wp2_with fail
         clear hHeld
         refine hK.out _ _ (X26.tail.tail.three) (fun hHeld => ?_)
         clear hK K
         try simp only [pA, pB, pC]
         refine tlA #[true, true, true, true, true, true, true, true, true, true, false, false] ?_
         refine trA [10] ?_
         refine AllReadyH.cons (o := ⟨none, .store 37 (.tmp 11) (.tmp 32), 0, _, _, none⟩) rfl (fun K hK => ?_) AllReadyH.nil
         ·obtain ⟨y0, y1⟩ := X26.pt
          obtain ⟨y2, y3⟩ := X26.ptf
          go_simp
          have X27 := X26.set2 (.int .i64 (b0 - a0)) (.int .i64 (b1 - a1))
          generalize (World.setCell W26 ⟨P, 0, none⟩ (.int .i64 (b0 - a0))).setCell ⟨P, 1, none⟩ (.int .i64 (b1 - a1)) = W27 at *
          clear y0 y1 y2 y3
          clear hHeld
          refine hK.out _ _ (X27.tail.tail.three) (fun hHeld => ?_)
          clear hK K
          try simp only [pA, pB, pC]
          refine tlA #[true, true, true, true, true, true, true, true, true, true, true, false] ?_
          refine trA [11] ?_
          refine AllReadyH.cons (o := ⟨none, .store 37 (.tmp 12) (.tmp 36), 0, _, _, none⟩) rfl (fun K hK => ?_) AllReadyH.nil
          ·have Y28 := X27.swap
           obtain ⟨y0, y1⟩ := Y28.pt
           obtain ⟨y2, y3⟩ := Y28.ptf
           go_simp
           have X28 := Y28.set2 (.int .i64 (p0 - a0)) (.int .i64 (p1 - a1))
           generalize (World.setCell W27 ⟨Q, 0, none⟩ (.int .i64 (p0 - a0))).setCell ⟨Q, 1, none⟩ (.int .i64 (p1 - a1)) = W28 at *
           clear y0 y1 y2 y3
           clear hHeld
           refine hK.out _ _ (X28.tail.tail.three) (fun hHeld => ?_)
           clear hK K
           try simp only [pA, pB, pC]
           refine tlA #[true, true, true, true, true, true, true, true, true, true, true, true] ?_
           refine wpAnyH_done (by kernel_rfl) ?_ _
           go_wp2_with fail
           go_meet
           exact ⟨P, Q, rfl, rfl, X28.swap⟩
     ·go_simp
      have X29 := X0.push [.int .i64 0, .int .i64 0] 37
      change Has w _ (W0.alloc (.cells #[.int .i64 0, .int .i64 0] 37)) at X29
      generalize W0.alloc (.cells #[.int .i64 0, .int .i64 0] 37) = W29 at *
      generalize W0.heap.size = P at *
      clear hHeld
      refine hK.out _ _ (X29.tail.three) (fun hHeld => ?_)
      clear hK K
      try simp only [pA, pB, pC]
      refine tlA #[true, true, true, false, true, true, true, false, true, false, false, false] ?_
      refine trA [3, 9] ?_
      refine AllReadyH.cons (o := ⟨some 32, .call { callee := .value (.tmp 29), args := #[.tmp 30, .tmp 31], argTypes := #[37, 37] }, 37, _, _, none⟩) rfl (fun K hK => ?_) (AllReadyH.cons (o := ⟨some 12, .alloc 37, 0, _, _, none⟩) rfl (fun K hK => ?_) AllReadyH.nil)
      ·go_simp
       go_at_call 82
       refine (Has.call X29 (sub_bd b0 b1 a0 a1 _ HB.out.1 HB.out.2.1)).mono ?_
       rintro e W30 ⟨rfl, X30⟩
       go_wp2_with fail
       clear hHeld
       refine hK.out _ _ (X30.tail.three) (fun hHeld => ?_)
       clear hK K
       try simp only [pA, pB, pC]
       refine tlA #[true, true, true, true, true, true, true, false, true, false, false, false] ?_
       refine trA [7, 9] ?_
       refine AllReadyH.cons (o := ⟨some 36, .call { callee := .value (.tmp 33), args := #[.tmp 34, .tmp 35], argTypes := #[37, 37] }, 37, _, _, none⟩) rfl (fun K hK => ?_) (AllReadyH.cons (o := ⟨some 12, .alloc 37, 0, _, _, none⟩) rfl (fun K hK => ?_) AllReadyH.nil)
       ·go_simp
        go_at_call 82
        refine (Has.call X30 (sub_bd p0 p1 a0 a1 _ HB.out.2.2.1 HB.out.2.1)).mono ?_
        rintro e W31 ⟨rfl, X31⟩
        go_wp2_with fail
        clear hHeld
        refine hK.out _ _ (X31.tail.three) (fun hHeld => ?_)
        clear hK K
        try simp only [pA, pB, pC]
        refine tlA #[true, true, true, true, true, true, true, true, true, false, false, false] ?_
        refine trA [9] ?_
        refine AllReadyH.cons (o := ⟨some 12, .alloc 37, 0, _, _, none⟩) rfl (fun K hK => ?_) AllReadyH.nil
        ·go_simp
         have X32 := X31.push [.int .i64 0, .int .i64 0] 37
         change Has w _ (W31.alloc (.cells #[.int .i64 0, .int .i64 0] 37)) at X32
         generalize W31.alloc (.cells #[.int .i64 0, .int .i64 0] 37) = W32 at *
         generalize W31.heap.size = Q at *
         clear hHeld
         refine hK.out _ _ (X32.tail.tail.three) (fun hHeld => ?_)
         clear hK K
         try simp only [pA, pB, pC]
         refine tlA #[true, true, true, true, true, true, true, true, true, true, false, false] ?_
         refine trA [10] ?_
         refine AllReadyH.cons (o := ⟨none, .store 37 (.tmp 11) (.tmp 32), 0, _, _, none⟩) rfl (fun K hK => ?_) AllReadyH.nil
         ·have Y33 := X32.swap
          obtain ⟨y0, y1⟩ := Y33.pt
          obtain ⟨y2, y3⟩ := Y33.ptf
          go_simp
          have X33 := Y33.set2 (.int .i64 (b0 - a0)) (.int .i64 (b1 - a1))
          generalize (World.setCell W32 ⟨P, 0, none⟩ (.int .i64 (b0 - a0))).setCell ⟨P, 1, none⟩ (.int .i64 (b1 - a1)) = W33 at *
          clear y0 y1 y2 y3
          clear hHeld
          refine hK.out _ _ (X33.tail.tail.three) (fun hHeld => ?_)
          clear hK K
          try simp only [pA, pB, pC]
          refine tlA #[true, true, true, true, true, true, true, true, true, true, true, false] ?_
          refine trA [11] ?_
          refine AllReadyH.cons (o := ⟨none, .store 37 (.tmp 12) (.tmp 36), 0, _, _, none⟩) rfl (fun K hK => ?_) AllReadyH.nil
          ·have Y34 := X33.swap
           obtain ⟨y0, y1⟩ := Y34.pt
           obtain ⟨y2, y3⟩ := Y34.ptf
           go_simp
           have X34 := Y34.set2 (.int .i64 (p0 - a0)) (.int .i64 (p1 - a1))
           generalize (World.setCell W33 ⟨Q, 0, none⟩ (.int .i64 (p0 - a0))).setCell ⟨Q, 1, none⟩ (.int .i64 (p1 - a1)) = W34 at *
           clear y0 y1 y2 y3
           clear hHeld
           refine hK.out _ _ (X34.tail.tail.three) (fun hHeld => ?_)
           clear hK K
           try simp only [pA, pB, pC]
           refine tlA #[true, true, true, true, true, true, true, true, true, true, true, true] ?_
           refine wpAnyH_done (by kernel_rfl) ?_ _
           go_wp2_with fail
           go_meet
           exact ⟨P, Q, rfl, rfl, X34.swap⟩
       ·go_simp
        have X35 := X30.push [.int .i64 0, .int .i64 0] 37
        change Has w _ (W30.alloc (.cells #[.int .i64 0, .int .i64 0] 37)) at X35
        generalize W30.alloc (.cells #[.int .i64 0, .int .i64 0] 37) = W35 at *
        generalize W30.heap.size = Q at *
        clear hHeld
        refine hK.out _ _ (X35.tail.tail.three) (fun hHeld => ?_)
        clear hK K
        try simp only [pA, pB, pC]
        refine tlA #[true, true, true, true, true, true, true, false, true, true, false, false] ?_
        refine trA [7] ?_
        refine AllReadyH.cons (o := ⟨some 36, .call { callee := .value (.tmp 33), args := #[.tmp 34, .tmp 35], argTypes := #[37, 37] }, 37, _, _, none⟩) rfl (fun K hK => ?_) AllReadyH.nil
        ·go_simp
         go_at_call 82
         refine (Has.call X35 (sub_bd p0 p1 a0 a1 _ HB.out.2.2.1 HB.out.2.1)).mono ?_
         rintro e W36 ⟨rfl, X36⟩
         go_wp2_with fail
         clear hHeld
         refine hK.out _ _ (X36.tail.tail.three) (fun hHeld => ?_)
         clear hK K
         try simp only [pA, pB, pC]
         refine tlA #[true, true, true, true, true, true, true, true, true, true, false, false] ?_
         refine trA [10] ?_
         refine AllReadyH.cons (o := ⟨none, .store 37 (.tmp 11) (.tmp 32), 0, _, _, none⟩) rfl (fun K hK => ?_) AllReadyH.nil
         ·have Y37 := X36.swap
          obtain ⟨y0, y1⟩ := Y37.pt
          obtain ⟨y2, y3⟩ := Y37.ptf
          go_simp
          have X37 := Y37.set2 (.int .i64 (b0 - a0)) (.int .i64 (b1 - a1))
          generalize (World.setCell W36 ⟨P, 0, none⟩ (.int .i64 (b0 - a0))).setCell ⟨P, 1, none⟩ (.int .i64 (b1 - a1)) = W37 at *
          clear y0 y1 y2 y3
          clear hHeld
          refine hK.out _ _ (X37.tail.tail.three) (fun hHeld => ?_)
          clear hK K
          try simp only [pA, pB, pC]
          refine tlA #[true, true, true, true, true, true, true, true, true, true, true, false] ?_
          refine trA [11] ?_
          refine AllReadyH.cons (o := ⟨none, .store 37 (.tmp 12) (.tmp 36), 0, _, _, none⟩) rfl (fun K hK => ?_) AllReadyH.nil
          ·have Y38 := X37.swap
           obtain ⟨y0, y1⟩ := Y38.pt
           obtain ⟨y2, y3⟩ := Y38.ptf
           go_simp
           have X38 := Y38.set2 (.int .i64 (p0 - a0)) (.int .i64 (p1 - a1))
           generalize (World.setCell W37 ⟨Q, 0, none⟩ (.int .i64 (p0 - a0))).setCell ⟨Q, 1, none⟩ (.int .i64 (p1 - a1)) = W38 at *
           clear y0 y1 y2 y3
           clear hHeld
           refine hK.out _ _ (X38.tail.tail.three) (fun hHeld => ?_)
           clear hK K
           try simp only [pA, pB, pC]
           refine tlA #[true, true, true, true, true, true, true, true, true, true, true, true] ?_
           refine wpAnyH_done (by kernel_rfl) ?_ _
           go_wp2_with fail
           go_meet
           exact ⟨P, Q, rfl, rfl, X38.swap⟩
      ·go_simp
       have X39 := X29.push [.int .i64 0, .int .i64 0] 37
       change Has w _ (W29.alloc (.cells #[.int .i64 0, .int .i64 0] 37)) at X39
       generalize W29.alloc (.cells #[.int .i64 0, .int .i64 0] 37) = W39 at *
       generalize W29.heap.size = Q at *
       clear hHeld
       refine hK.out _ _ (X39.tail.tail.three) (fun hHeld => ?_)
       clear hK K
       try simp only [pA, pB, pC]
       refine tlA #[true, true, true, false, true, true, true, false, true, true, false, false] ?_
       refine trA [3] ?_
       refine AllReadyH.cons (o := ⟨some 32, .call { callee := .value (.tmp 29), args := #[.tmp 30, .tmp 31], argTypes := #[37, 37] }, 37, _, _, none⟩) rfl (fun K hK => ?_) AllReadyH.nil
       ·go_simp
        go_at_call 82
        refine (Has.call X39 (sub_bd b0 b1 a0 a1 _ HB.out.1 HB.out.2.1)).mono ?_
        rintro e W40 ⟨rfl, X40⟩
        go_wp2_with fail
        clear hHeld
        refine hK.out _ _ (X40.tail.tail.three) (fun hHeld => ?_)
        clear hK K
        try simp only [pA, pB, pC]
        refine tlA #[true, true, true, true, true, true, true, false, true, true, false, false] ?_
        refine trA [7] ?_
        refine AllReadyH.cons (o := ⟨some 36, .call { callee := .value (.tmp 33), args := #[.tmp 34, .tmp 35], argTypes := #[37, 37] }, 37, _, _, none⟩) rfl (fun K hK => ?_) AllReadyH.nil
        ·go_simp
         go_at_call 82
         refine (Has.call X40 (sub_bd p0 p1 a0 a1 _ HB.out.2.2.1 HB.out.2.1)).mono ?_
         rintro e W41 ⟨rfl, X41⟩
         go_wp2_with fail
         clear hHeld
         refine hK.out _ _ (X41.tail.tail.three) (fun hHeld => ?_)
         clear hK K
         try simp only [pA, pB, pC]
         refine tlA #[true, true, true, true, true, true, true, true, true, true, false, false] ?_
         refine trA [10] ?_
         refine AllReadyH.cons (o := ⟨none, .store 37 (.tmp 11) (.tmp 32), 0, _, _, none⟩) rfl (fun K hK => ?_) AllReadyH.nil
         ·have Y42 := X41.swap
          obtain ⟨y0, y1⟩ := Y42.pt
          obtain ⟨y2, y3⟩ := Y42.ptf
          go_simp
          have X42 := Y42.set2 (.int .i64 (b0 - a0)) (.int .i64 (b1 - a1))
          generalize (World.setCell W41 ⟨P, 0, none⟩ (.int .i64 (b0 - a0))).setCell ⟨P, 1, none⟩ (.int .i64 (b1 - a1)) = W42 at *
          clear y0 y1 y2 y3
          clear hHeld
          refine hK.out _ _ (X42.tail.tail.three) (fun hHeld => ?_)
          clear hK K
          try simp only [pA, pB, pC]
          refine tlA #[true, true, true, true, true, true, true, true, true, true, true, false] ?_
          refine trA [11] ?_
          refine AllReadyH.cons (o := ⟨none, .store 37 (.tmp 12) (.tmp 36), 0, _, _, none⟩) rfl (fun K hK => ?_) AllReadyH.nil
          ·have Y43 := X42.swap
           obtain ⟨y0, y1⟩ := Y43.pt
           obtain ⟨y2, y3⟩ := Y43.ptf
           go_simp
           have X43 := Y43.set2 (.int .i64 (p0 - a0)) (.int .i64 (p1 - a1))
           generalize (World.setCell W42 ⟨Q, 0, none⟩ (.int .i64 (p0 - a0))).setCell ⟨Q, 1, none⟩ (.int .i64 (p1 - a1)) = W43 at *
           clear y0 y1 y2 y3
           clear hHeld
           refine hK.out _ _ (X43.tail.tail.three) (fun hHeld => ?_)
           clear hK K
           try simp only [pA, pB, pC]
           refine tlA #[true, true, true, true, true, true, true, true, true, true, true, true] ?_
           refine wpAnyH_done (by kernel_rfl) ?_ _
           go_wp2_with fail
           go_meet
           exact ⟨P, Q, rfl, rfl, X43.swap⟩
     ·go_simp
      have X44 := X0.push [.int .i64 0, .int .i64 0] 37
      change Has w _ (W0.alloc (.cells #[.int .i64 0, .int .i64 0] 37)) at X44
      generalize W0.alloc (.cells #[.int .i64 0, .int .i64 0] 37) = W44 at *
      generalize W0.heap.size = Q at *
      clear hHeld
      refine hK.out _ _ (X44.tail.three) (fun hHeld => ?_)
      clear hK K
      try simp only [pA, pB, pC]
      refine tlA #[true, true, true, false, true, true, true, false, false, true, false, false] ?_
      refine trA [3, 8] ?_
      refine AllReadyH.cons (o := ⟨some 32, .call { callee := .value (.tmp 29), args := #[.tmp 30, .tmp 31], argTypes := #[37, 37] }, 37, _, _, none⟩) rfl (fun K hK => ?_) (AllReadyH.cons (o := ⟨some 11, .alloc 37, 0, _, _, none⟩) rfl (fun K hK => ?_) AllReadyH.nil)
      ·go_simp
       go_at_call 82
       refine (Has.call X44 (sub_bd b0 b1 a0 a1 _ HB.out.1 HB.out.2.1)).mono ?_
       rintro e W45 ⟨rfl, X45⟩
       go_wp2_with fail
       clear hHeld
       refine hK.out _ _ (X45.tail.three) (fun hHeld => ?_)
       clear hK K
       try simp only [pA, pB, pC]
       refine tlA #[true, true, true, true, true, true, true, false, false, true, false, false] ?_
       refine trA [7, 8] ?_
       refine AllReadyH.cons (o := ⟨some 36, .call { callee := .value (.tmp 33), args := #[.tmp 34, .tmp 35], argTypes := #[37, 37] }, 37, _, _, none⟩) rfl (fun K hK => ?_) (AllReadyH.cons (o := ⟨some 11, .alloc 37, 0, _, _, none⟩) rfl (fun K hK => ?_) AllReadyH.nil)
       ·go_simp
        go_at_call 82
        refine (Has.call X45 (sub_bd p0 p1 a0 a1 _ HB.out.2.2.1 HB.out.2.1)).mono ?_
        rintro e W46 ⟨rfl, X46⟩
        go_wp2_with fail
        clear hHeld
        refine hK.out _ _ (X46.tail.three) (fun hHeld => ?_)
        clear hK K
        try simp only [pA, pB, pC]
        refine tlA #[true, true, true, true, true, true, true, true, false, true, false, false] ?_
        refine trA [8] ?_
        refine AllReadyH.cons (o := ⟨some 11, .alloc 37, 0, _, _, none⟩) rfl (fun K hK => ?_) AllReadyH.nil
        ·go_simp
         have X47 := X46.push [.int .i64 0, .int .i64 0] 37
         change Has w _ (W46.alloc (.cells #[.int .i64 0, .int .i64 0] 37)) at X47
         generalize W46.alloc (.cells #[.int .i64 0, .int .i64 0] 37) = W47 at *
         generalize W46.heap.size = P at *
         clear hHeld
         refine hK.out _ _ (X47.tail.tail.three) (fun hHeld => ?_)
         clear hK K
         try simp only [pA, pB, pC]
         refine tlA #[true, true, true, true, true, true, true, true, true, true, false, false] ?_
         refine trA [10] ?_
         refine AllReadyH.cons (o := ⟨none, .store 37 (.tmp 11) (.tmp 32), 0, _, _, none⟩) rfl (fun K hK => ?_) AllReadyH.nil
         ·obtain ⟨y0, y1⟩ := X47.pt
          obtain ⟨y2, y3⟩ := X47.ptf
          go_simp
          have X48 := X47.set2 (.int .i64 (b0 - a0)) (.int .i64 (b1 - a1))
          generalize (World.setCell W47 ⟨P, 0, none⟩ (.int .i64 (b0 - a0))).setCell ⟨P, 1, none⟩ (.int .i64 (b1 - a1)) = W48 at *
          clear y0 y1 y2 y3
          clear hHeld
          refine hK.out _ _ (X48.tail.tail.three) (fun hHeld => ?_)
          clear hK K
          try simp only [pA, pB, pC]
          refine tlA #[true, true, true, true, true, true, true, true, true, true, true, false] ?_
          refine trA [11] ?_
          refine AllReadyH.cons (o := ⟨none, .store 37 (.tmp 12) (.tmp 36), 0, _, _, none⟩) rfl (fun K hK => ?_) AllReadyH.nil
          ·have Y49 := X48.swap
           obtain ⟨y0, y1⟩ := Y49.pt
           obtain ⟨y2, y3⟩ := Y49.ptf
           go_simp
           have X49 := Y49.set2 (.int .i64 (p0 - a0)) (.int .i64 (p1 - a1))
           generalize (World.setCell W48 ⟨Q, 0, none⟩ (.int .i64 (p0 - a0))).setCell ⟨Q, 1, none⟩ (.int .i64 (p1 - a1)) = W49 at *
           clear y0 y1 y2 y3
           clear hHeld
           refine hK.out _ _ (X49.tail.tail.three) (fun hHeld => ?_)
           clear hK K
           try simp only [pA, pB, pC]
           refine tlA #[true, true, true, true, true, true, true, true, true, true, true, true] ?_
           refine wpAnyH_done (by kernel_rfl) ?_ _
           go_wp2_with fail
           go_meet
           exact ⟨P, Q, rfl, rfl, X49.swap⟩
       ·go_simp
        have X50 := X45.push [.int .i64 0, .int .i64 0] 37
        change Has w _ (W45.alloc (.cells #[.int .i64 0, .int .i64 0] 37)) at X50
        generalize W45.alloc (.cells #[.int .i64 0, .int .i64 0] 37) = W50 at *
        generalize W45.heap.size = P at *
        clear hHeld
        refine hK.out _ _ (X50.tail.tail.three) (fun hHeld => ?_)
        clear hK K
        try simp only [pA, pB, pC]
        refine tlA #[true, true, true, true, true, true, true, false, true, true, false, false] ?_
        refine trA [7] ?_
        refine AllReadyH.cons (o := ⟨some 36, .call { callee := .value (.tmp 33), args := #[.tmp 34, .tmp 35], argTypes := #[37, 37] }, 37, _, _, none⟩) rfl (fun K hK => ?_) AllReadyH.nil
        ·go_simp
         go_at_call 82
         refine (Has.call X50 (sub_bd p0 p1 a0 a1 _ HB.out.2.2.1 HB.out.2.1)).mono ?_
         rintro e W51 ⟨rfl, X51⟩
         go_wp2_with fail
         clear hHeld
         refine hK.out _ _ (X51.tail.tail.three) (fun hHeld => ?_)
         clear hK K
         try simp only [pA, pB, pC]
         refine tlA #[true, true, true, true, true, true, true, true, true, true, false, false] ?_
         refine trA [10] ?_
         refine AllReadyH.cons (o := ⟨none, .store 37 (.tmp 11) (.tmp 32), 0, _, _, none⟩) rfl (fun K hK => ?_) AllReadyH.nil
         ·obtain ⟨y0, y1⟩ := X51.pt
          obtain ⟨y2, y3⟩ := X51.ptf
          go_simp
          have X52 := X51.set2 (.int .i64 (b0 - a0)) (.int .i64 (b1 - a1))
          generalize (World.setCell W51 ⟨P, 0, none⟩ (.int .i64 (b0 - a0))).setCell ⟨P, 1, none⟩ (.int .i64 (b1 - a1)) = W52 at *
          clear y0 y1 y2 y3
          clear hHeld
          refine hK.out _ _ (X52.tail.tail.three) (fun hHeld => ?_)
          clear hK K
          try simp only [pA, pB, pC]
          refine tlA #[true, true, true, true, true, true, true, true, true, true, true, false] ?_
          refine trA [11] ?_
          refine AllReadyH.cons (o := ⟨none, .store 37 (.tmp 12) (.tmp 36), 0, _, _, none⟩) rfl (fun K hK => ?_) AllReadyH.nil
          ·have Y53 := X52.swap
           obtain ⟨y0, y1⟩ := Y53.pt
           obtain ⟨y2, y3⟩ := Y53.ptf
           go_simp
           have X53 := Y53.set2 (.int .i64 (p0 - a0)) (.int .i64 (p1 - a1))
           generalize (World.setCell W52 ⟨Q, 0, none⟩ (.int .i64 (p0 - a0))).setCell ⟨Q, 1, none⟩ (.int .i64 (p1 - a1)) = W53 at *
           clear y0 y1 y2 y3
           clear hHeld
           refine hK.out _ _ (X53.tail.tail.three) (fun hHeld => ?_)
           clear hK K
           try simp only [pA, pB, pC]
           refine tlA #[true, true, true, true, true, true, true, true, true, true, true, true] ?_
           refine wpAnyH_done (by kernel_rfl) ?_ _
           go_wp2_with fail
           go_meet
           exact ⟨P, Q, rfl, rfl, X53.swap⟩
      ·go_simp
       have X54 := X44.push [.int .i64 0, .int .i64 0] 37
       change Has w _ (W44.alloc (.cells #[.int .i64 0, .int .i64 0] 37)) at X54
       generalize W44.alloc (.cells #[.int .i64 0, .int .i64 0] 37) = W54 at *
       generalize W44.heap.size = P at *
       clear hHeld
       refine hK.out _ _ (X54.tail.tail.three) (fun hHeld => ?_)
       clear hK K
       try simp only [pA, pB, pC]
       refine tlA #[true, true, true, false, true, true, true, false, true, true, false, false] ?_
       refine trA [3] ?_
       refine AllReadyH.cons (o := ⟨some 32, .call { callee := .value (.tmp 29), args := #[.tmp 30, .tmp 31], argTypes := #[37, 37] }, 37, _, _, none⟩) rfl (fun K hK => ?_) AllReadyH.nil
       ·go_simp
        go_at_call 82
        refine (Has.call X54 (sub_bd b0 b1 a0 a1 _ HB.out.1 HB.out.2.1)).mono ?_
        rintro e W55 ⟨rfl, X55⟩
        go_wp2_with fail
        clear hHeld
        refine hK.out _ _ (X55.tail.tail.three) (fun hHeld => ?_)
        clear hK K
        try simp only [pA, pB, pC]
        refine tlA #[true, true, true, true, true, true, true, false, true, true, false, false] ?_
        refine trA [7] ?_
        refine AllReadyH.cons (o := ⟨some 36, .call { callee := .value (.tmp 33), args := #[.tmp 34, .tmp 35], argTypes := #[37, 37] }, 37, _, _, none⟩) rfl (fun K hK => ?_) AllReadyH.nil
        ·go_simp
         go_at_call 82
         refine (Has.call X55 (sub_bd p0 p1 a0 a1 _ HB.out.2.2.1 HB.out.2.1)).mono ?_
         rintro e W56 ⟨rfl, X56⟩
         go_wp2_with fail
         clear hHeld
         refine hK.out _ _ (X56.tail.tail.three) (fun hHeld => ?_)
         clear hK K
         try simp only [pA, pB, pC]
         refine tlA #[true, true, true, true, true, true, true, true, true, true, false, false] ?_
         refine trA [10] ?_
         refine AllReadyH.cons (o := ⟨none, .store 37 (.tmp 11) (.tmp 32), 0, _, _, none⟩) rfl (fun K hK => ?_) AllReadyH.nil
         ·obtain ⟨y0, y1⟩ := X56.pt
          obtain ⟨y2, y3⟩ := X56.ptf
          go_simp
          have X57 := X56.set2 (.int .i64 (b0 - a0)) (.int .i64 (b1 - a1))
          generalize (World.setCell W56 ⟨P, 0, none⟩ (.int .i64 (b0 - a0))).setCell ⟨P, 1, none⟩ (.int .i64 (b1 - a1)) = W57 at *
          clear y0 y1 y2 y3
          clear hHeld
          refine hK.out _ _ (X57.tail.tail.three) (fun hHeld => ?_)
          clear hK K
          try simp only [pA, pB, pC]
          refine tlA #[true, true, true, true, true, true, true, true, true, true, true, false] ?_
          refine trA [11] ?_
          refine AllReadyH.cons (o := ⟨none, .store 37 (.tmp 12) (.tmp 36), 0, _, _, none⟩) rfl (fun K hK => ?_) AllReadyH.nil
          ·have Y58 := X57.swap
           obtain ⟨y0, y1⟩ := Y58.pt
           obtain ⟨y2, y3⟩ := Y58.ptf
           go_simp
           have X58 := Y58.set2 (.int .i64 (p0 - a0)) (.int .i64 (p1 - a1))
           generalize (World.setCell W57 ⟨Q, 0, none⟩ (.int .i64 (p0 - a0))).setCell ⟨Q, 1, none⟩ (.int .i64 (p1 - a1)) = W58 at *
           clear y0 y1 y2 y3
           clear hHeld
           refine hK.out _ _ (X58.tail.tail.three) (fun hHeld => ?_)
           clear hK K
           try simp only [pA, pB, pC]
           refine tlA #[true, true, true, true, true, true, true, true, true, true, true, true] ?_
           refine wpAnyH_done (by kernel_rfl) ?_ _
           go_wp2_with fail
           go_meet
           exact ⟨P, Q, rfl, rfl, X58.swap⟩
    case rest =>
     obtain ⟨P, Q, rfl, rfl, C4⟩ := hcut
     clear k0 k1 k2 k3 k4 k5
     obtain ⟨⟨k0, k1, k2, k3⟩, -⟩ := C4.two
     go_wp2_with fail
     refine (Has.call C4 (sign2_any _ _ _ _ _ HB.out.2.2.2.1 HB.out.2.2.2.2.1 HB.out.2.2.2.2.2.1 HB.out.2.2.2.2.2.2)).mono ?_
     rintro e w5 ⟨rfl, C5⟩
     go_wp2_with fail
     go_ret
     exact ⟨ret_i HV.out, C5.low⟩

end Go.Proofs.YtoaldbjcpfkcjaaGreat

namespace Go.Proofs.YtoaldbjcpfkcjaaGreat
open Go.RowKit Go.Lib

set_option maxHeartbeats 1000000 in
theorem side_any (a0 a1 b0 b1 p0 p1 : Int) (w : World) :
  Calls Tryz.prog 51 #[.agg #[.int .i64 a0, .int .i64 a1], .agg #[.int .i64 b0, .int .i64 b1], .agg #[.int .i64 p0, .int .i64 p1]] w fun e w' => e = .returned (.int .i64 (sideOf a0 a1 b0 b1 p0 p1)) ∧ Below w.heap.size w w' := by
 have C0 := has3 (w := w) [.int .i64 a0, .int .i64 a1] [.int .i64 b0, .int .i64 b1] [.int .i64 p0, .int .i64 p1] 37 37 37
 go_enter Tryz.func51, Tryz.ntmps51
 go_wp2_with fail
 refine (Has.call C0 (sideP_any a0 a1 b0 b1 p0 p1 _)).mono ?_
 rintro e w1 ⟨rfl, C1⟩
 go_wp2_with fail
 go_ret
 exact ⟨rfl, C1.low⟩

theorem side_is (a0 a1 b0 b1 p0 p1 s : Int) (h : sideOf a0 a1 b0 b1 p0 p1 = s) (w : World) :
  Calls Tryz.prog 51 #[.agg #[.int .i64 a0, .int .i64 a1], .agg #[.int .i64 b0, .int .i64 b1], .agg #[.int .i64 p0, .int .i64 p1]] w fun e w' => e = .returned (.int .i64 s) ∧ Below w.heap.size w w' := h ▸ side_any a0 a1 b0 b1 p0 p1 w

set_option maxHeartbeats 4000000 in
theorem on_any (a0 a1 b0 b1 p0 p1 : Int) (w : World) :
  Calls Tryz.prog 24 #[.agg #[.int .i64 a0, .int .i64 a1], .agg #[.int .i64 b0, .int .i64 b1], .agg #[.int .i64 p0, .int .i64 p1]] w fun e w' => e = .returned (.bool (onOf a0 a1 b0 b1 p0 p1)) ∧ Below w.heap.size w w' := by
 have C0 := has3 (w := w) [.int .i64 a0, .int .i64 a1] [.int .i64 b0, .int .i64 b1] [.int .i64 p0, .int .i64 p1] 37 37 37
 cases h0 : inl 1152921504606846976 a0 a1
 ·have HV := Lib.hid (show onOf a0 a1 b0 b1 p0 p1 = false by unfold onOf; simp [h0])
  have H0 := Lib.hid h0
  clear h0
  go_enter Tryz.func24, Tryz.ntmps24
  go_wp2_with fail
  change Has w _ (((w.alloc (.cells #[.int .i64 a0, .int .i64 a1] 37)).alloc (.cells #[.int .i64 b0, .int .i64 b1] 37)).alloc (.cells #[.int .i64 p0, .int .i64 p1] 37)) at C0
  generalize ((w.alloc (.cells #[.int .i64 a0, .int .i64 a1] 37)).alloc (.cells #[.int .i64 b0, .int .i64 b1] 37)).alloc (.cells #[.int .i64 p0, .int .i64 p1] 37) = w0 at *
  obtain ⟨⟨k0, k1, k2, k3, k4, k5⟩, -⟩ := C0.three
  go_wp2_with fail
  refine (Has.call C0 (bounded_is a0 a1 _ H0.out _)).mono ?_
  rintro e w1 ⟨rfl, C1⟩
  clear k0 k1 k2 k3 k4 k5
  obtain ⟨⟨k0, k1, k2, k3, k4, k5⟩, -⟩ := C1.three
  go_wp2_with fail
  go_ret
  exact ⟨ret_b HV.out.symm, C1.low⟩
 ·skip
  cases h1 : inl 1152921504606846976 b0 b1
  ·have HV := Lib.hid (show onOf a0 a1 b0 b1 p0 p1 = false by unfold onOf; simp [h0, h1])
   have H0 := Lib.hid h0
   have H1 := Lib.hid h1
   clear h0 h1
   go_enter Tryz.func24, Tryz.ntmps24
   go_wp2_with fail
   change Has w _ (((w.alloc (.cells #[.int .i64 a0, .int .i64 a1] 37)).alloc (.cells #[.int .i64 b0, .int .i64 b1] 37)).alloc (.cells #[.int .i64 p0, .int .i64 p1] 37)) at C0
   generalize ((w.alloc (.cells #[.int .i64 a0, .int .i64 a1] 37)).alloc (.cells #[.int .i64 b0, .int .i64 b1] 37)).alloc (.cells #[.int .i64 p0, .int .i64 p1] 37) = w0 at *
   obtain ⟨⟨k0, k1, k2, k3, k4, k5⟩, -⟩ := C0.three
   go_wp2_with fail
   refine (Has.call C0 (bounded_is a0 a1 _ H0.out _)).mono ?_
   rintro e w1 ⟨rfl, C1⟩
   clear k0 k1 k2 k3 k4 k5
   obtain ⟨⟨k0, k1, k2, k3, k4, k5⟩, -⟩ := C1.three
   go_wp2_with fail
   refine (Has.call C1 (bounded_is b0 b1 _ H1.out _)).mono ?_
   rintro e w2 ⟨rfl, C2⟩
   clear k0 k1 k2 k3 k4 k5
   obtain ⟨⟨k0, k1, k2, k3, k4, k5⟩, -⟩ := C2.three
   go_wp2_with fail
   go_ret
   exact ⟨ret_b HV.out.symm, C2.low⟩
  ·skip
   cases h2 : inl 1152921504606846976 p0 p1
   ·have HV := Lib.hid (show onOf a0 a1 b0 b1 p0 p1 = false by unfold onOf; simp [h0, h1, h2])
    have H0 := Lib.hid h0
    have H1 := Lib.hid h1
    have H2 := Lib.hid h2
    clear h0 h1 h2
    go_enter Tryz.func24, Tryz.ntmps24
    go_wp2_with fail
    change Has w _ (((w.alloc (.cells #[.int .i64 a0, .int .i64 a1] 37)).alloc (.cells #[.int .i64 b0, .int .i64 b1] 37)).alloc (.cells #[.int .i64 p0, .int .i64 p1] 37)) at C0
    generalize ((w.alloc (.cells #[.int .i64 a0, .int .i64 a1] 37)).alloc (.cells #[.int .i64 b0, .int .i64 b1] 37)).alloc (.cells #[.int .i64 p0, .int .i64 p1] 37) = w0 at *
    obtain ⟨⟨k0, k1, k2, k3, k4, k5⟩, -⟩ := C0.three
    go_wp2_with fail
    refine (Has.call C0 (bounded_is a0 a1 _ H0.out _)).mono ?_
    rintro e w1 ⟨rfl, C1⟩
    clear k0 k1 k2 k3 k4 k5
    obtain ⟨⟨k0, k1, k2, k3, k4, k5⟩, -⟩ := C1.three
    go_wp2_with fail
    refine (Has.call C1 (bounded_is b0 b1 _ H1.out _)).mono ?_
    rintro e w2 ⟨rfl, C2⟩
    clear k0 k1 k2 k3 k4 k5
    obtain ⟨⟨k0, k1, k2, k3, k4, k5⟩, -⟩ := C2.three
    go_wp2_with fail
    refine (Has.call C2 (bounded_is p0 p1 _ H2.out _)).mono ?_
    rintro e w3 ⟨rfl, C3⟩
    clear k0 k1 k2 k3 k4 k5
    obtain ⟨⟨k0, k1, k2, k3, k4, k5⟩, -⟩ := C3.three
    go_wp2_with fail
    go_ret
    exact ⟨ret_b HV.out.symm, C3.low⟩
   ·skip
    obtain ⟨s, hs⟩ : ∃ s, sideOf a0 a1 b0 b1 p0 p1 = s := ⟨_, rfl⟩
    by_cases hz : s = 0
    ·obtain ⟨t, ht⟩ : ∃ t, ovl a0 a1 b0 b1 p0 p1 p0 p1 = t := ⟨_, rfl⟩
     have HT := Lib.hid ht
     have HV := Lib.hid (show onOf a0 a1 b0 b1 p0 p1 = decide (t = 1) by unfold onOf; simp [h0, h1, h2, hs, ht, hz])
     have e1 : (s == 0) = true := by rw [hz]; rfl
     clear ht hz
     have H0 := Lib.hid h0
     have H1 := Lib.hid h1
     have H2 := Lib.hid h2
     have HS := Lib.hid hs
     clear h0 h1 h2 hs
     go_enter Tryz.func24, Tryz.ntmps24
     go_wp2_with fail
     change Has w _ (((w.alloc (.cells #[.int .i64 a0, .int .i64 a1] 37)).alloc (.cells #[.int .i64 b0, .int .i64 b1] 37)).alloc (.cells #[.int .i64 p0, .int .i64 p1] 37)) at C0
     generalize ((w.alloc (.cells #[.int .i64 a0, .int .i64 a1] 37)).alloc (.cells #[.int .i64 b0, .int .i64 b1] 37)).alloc (.cells #[.int .i64 p0, .int .i64 p1] 37) = w0 at *
     obtain ⟨⟨k0, k1, k2, k3, k4, k5⟩, -⟩ := C0.three
     go_wp2_with fail
     refine (Has.call C0 (bounded_is a0 a1 _ H0.out _)).mono ?_
     rintro e w1 ⟨rfl, C1⟩
     clear k0 k1 k2 k3 k4 k5
     obtain ⟨⟨k0, k1, k2, k3, k4, k5⟩, -⟩ := C1.three
     go_wp2_with fail
     refine (Has.call C1 (bounded_is b0 b1 _ H1.out _)).mono ?_
     rintro e w2 ⟨rfl, C2⟩
     clear k0 k1 k2 k3 k4 k5
     obtain ⟨⟨k0, k1, k2, k3, k4, k5⟩, -⟩ := C2.three
     go_wp2_with fail
     refine (Has.call C2 (bounded_is p0 p1 _ H2.out _)).mono ?_
     rintro e w3 ⟨rfl, C3⟩
     clear k0 k1 k2 k3 k4 k5
     obtain ⟨⟨k0, k1, k2, k3, k4, k5⟩, -⟩ := C3.three
     go_wp2_with fail
     refine (Has.call C3 (side_is a0 a1 b0 b1 p0 p1 _ HS.out _)).mono ?_
     rintro e w4 ⟨rfl, C4⟩
     clear k0 k1 k2 k3 k4 k5
     obtain ⟨⟨k0, k1, k2, k3, k4, k5⟩, -⟩ := C4.three
     go_wp2_with fail
     refine (Has.call C4 (overlap_is _ _ _ _ _ _ _ _ _ HT.out _)).mono ?_
     rintro e w5 ⟨rfl, C5⟩
     by_cases h1 : t = 1
     ·have HW := Lib.hid (show true = decide (t = 1) by simp [h1])
      have e2 : (t == 1) = true := by rw [h1]; rfl
      clear h1
      go_wp2_with fail
      go_ret
      exact ⟨ret_b (HW.out.trans HV.out.symm), C5.low⟩
     ·have HW := Lib.hid (show false = decide (t = 1) by simp [h1])
      have e2 : (t == 1) = false := by rw [beq_eq_false_iff_ne]; exact h1
      clear h1
      go_wp2_with fail
      go_ret
      exact ⟨ret_b (HW.out.trans HV.out.symm), C5.low⟩
    ·have HV := Lib.hid (show onOf a0 a1 b0 b1 p0 p1 = false by unfold onOf; simp [h0, h1, h2, hs, hz])
     have e1 : (s == 0) = false := by rw [beq_eq_false_iff_ne]; exact hz
     clear hz
     have H0 := Lib.hid h0
     have H1 := Lib.hid h1
     have H2 := Lib.hid h2
     have HS := Lib.hid hs
     clear h0 h1 h2 hs
     go_enter Tryz.func24, Tryz.ntmps24
     go_wp2_with fail
     change Has w _ (((w.alloc (.cells #[.int .i64 a0, .int .i64 a1] 37)).alloc (.cells #[.int .i64 b0, .int .i64 b1] 37)).alloc (.cells #[.int .i64 p0, .int .i64 p1] 37)) at C0
     generalize ((w.alloc (.cells #[.int .i64 a0, .int .i64 a1] 37)).alloc (.cells #[.int .i64 b0, .int .i64 b1] 37)).alloc (.cells #[.int .i64 p0, .int .i64 p1] 37) = w0 at *
     obtain ⟨⟨k0, k1, k2, k3, k4, k5⟩, -⟩ := C0.three
     go_wp2_with fail
     refine (Has.call C0 (bounded_is a0 a1 _ H0.out _)).mono ?_
     rintro e w1 ⟨rfl, C1⟩
     clear k0 k1 k2 k3 k4 k5
     obtain ⟨⟨k0, k1, k2, k3, k4, k5⟩, -⟩ := C1.three
     go_wp2_with fail
     refine (Has.call C1 (bounded_is b0 b1 _ H1.out _)).mono ?_
     rintro e w2 ⟨rfl, C2⟩
     clear k0 k1 k2 k3 k4 k5
     obtain ⟨⟨k0, k1, k2, k3, k4, k5⟩, -⟩ := C2.three
     go_wp2_with fail
     refine (Has.call C2 (bounded_is p0 p1 _ H2.out _)).mono ?_
     rintro e w3 ⟨rfl, C3⟩
     clear k0 k1 k2 k3 k4 k5
     obtain ⟨⟨k0, k1, k2, k3, k4, k5⟩, -⟩ := C3.three
     go_wp2_with fail
     refine (Has.call C3 (side_is a0 a1 b0 b1 p0 p1 _ HS.out _)).mono ?_
     rintro e w4 ⟨rfl, C4⟩
     clear k0 k1 k2 k3 k4 k5
     obtain ⟨⟨k0, k1, k2, k3, k4, k5⟩, -⟩ := C4.three
     go_wp2_with fail
     go_ret
     exact ⟨ret_b HV.out.symm, C4.low⟩

end Go.Proofs.YtoaldbjcpfkcjaaGreat

namespace Go.Proofs.YtoaldbjcpfkcjaaGreat
open Go.RowKit Go.Lib

set_option maxHeartbeats 4000000 in
theorem meet_no (a0 a1 b0 b1 c0 c1 d0 d1 : Int) (w : World) (h : ¬ (inl 1152921504606846976 a0 a1 = true ∧ inl 1152921504606846976 b0 b1 = true ∧ inl 1152921504606846976 c0 c1 = true ∧ inl 1152921504606846976 d0 d1 = true)) :
  Calls Tryz.prog 74 #[.agg #[.int .i64 a0, .int .i64 a1], .agg #[.int .i64 b0, .int .i64 b1], .agg #[.int .i64 c0, .int .i64 c1], .agg #[.int .i64 d0, .int .i64 d1]] w fun e w' => e = .returned (.int .i64 (meetOf a0 a1 b0 b1 c0 c1 d0 d1)) ∧ Below w.heap.size w w' := by
 have C0 := has4 (w := w) [.int .i64 a0, .int .i64 a1] [.int .i64 b0, .int .i64 b1] [.int .i64 c0, .int .i64 c1] [.int .i64 d0, .int .i64 d1] 37 37 37 37
 cases h0 : inl 1152921504606846976 a0 a1
 ·have HV := Lib.hid (meet_no0 (a0 := a0) (a1 := a1) (b0 := b0) (b1 := b1) (c0 := c0) (c1 := c1) (d0 := d0) (d1 := d1) h0)
  have H0 := Lib.hid h0
  clear h h0
  go_enter Tryz.func74, Tryz.ntmps74
  go_wp2_with fail
  change Has w _ ((((w.alloc (.cells #[.int .i64 a0, .int .i64 a1] 37)).alloc (.cells #[.int .i64 b0, .int .i64 b1] 37)).alloc (.cells #[.int .i64 c0, .int .i64 c1] 37)).alloc (.cells #[.int .i64 d0, .int .i64 d1] 37)) at C0
  generalize (((w.alloc (.cells #[.int .i64 a0, .int .i64 a1] 37)).alloc (.cells #[.int .i64 b0, .int .i64 b1] 37)).alloc (.cells #[.int .i64 c0, .int .i64 c1] 37)).alloc (.cells #[.int .i64 d0, .int .i64 d1] 37) = w0 at *
  obtain ⟨⟨k0, k1, k2, k3, k4, k5, k6, k7⟩, -⟩ := C0.four
  go_wp2_with fail
  refine (Has.call C0 (bounded_is a0 a1 _ H0.out _)).mono ?_
  rintro e w1 ⟨rfl, C1⟩
  clear k0 k1 k2 k3 k4 k5 k6 k7
  obtain ⟨⟨k0, k1, k2, k3, k4, k5, k6, k7⟩, -⟩ := C1.four
  go_wp2_with fail
  go_ret
  exact ⟨ret_i HV.out, C1.low⟩
 ·skip
  cases h1 : inl 1152921504606846976 b0 b1
  ·have HV := Lib.hid (meet_no1 (a0 := a0) (a1 := a1) (b0 := b0) (b1 := b1) (c0 := c0) (c1 := c1) (d0 := d0) (d1 := d1) h1)
   have H0 := Lib.hid h0
   have H1 := Lib.hid h1
   clear h h0 h1
   go_enter Tryz.func74, Tryz.ntmps74
   go_wp2_with fail
   change Has w _ ((((w.alloc (.cells #[.int .i64 a0, .int .i64 a1] 37)).alloc (.cells #[.int .i64 b0, .int .i64 b1] 37)).alloc (.cells #[.int .i64 c0, .int .i64 c1] 37)).alloc (.cells #[.int .i64 d0, .int .i64 d1] 37)) at C0
   generalize (((w.alloc (.cells #[.int .i64 a0, .int .i64 a1] 37)).alloc (.cells #[.int .i64 b0, .int .i64 b1] 37)).alloc (.cells #[.int .i64 c0, .int .i64 c1] 37)).alloc (.cells #[.int .i64 d0, .int .i64 d1] 37) = w0 at *
   obtain ⟨⟨k0, k1, k2, k3, k4, k5, k6, k7⟩, -⟩ := C0.four
   go_wp2_with fail
   refine (Has.call C0 (bounded_is a0 a1 _ H0.out _)).mono ?_
   rintro e w1 ⟨rfl, C1⟩
   clear k0 k1 k2 k3 k4 k5 k6 k7
   obtain ⟨⟨k0, k1, k2, k3, k4, k5, k6, k7⟩, -⟩ := C1.four
   go_wp2_with fail
   refine (Has.call C1 (bounded_is b0 b1 _ H1.out _)).mono ?_
   rintro e w2 ⟨rfl, C2⟩
   clear k0 k1 k2 k3 k4 k5 k6 k7
   obtain ⟨⟨k0, k1, k2, k3, k4, k5, k6, k7⟩, -⟩ := C2.four
   go_wp2_with fail
   go_ret
   exact ⟨ret_i HV.out, C2.low⟩
  ·skip
   cases h2 : inl 1152921504606846976 c0 c1
   ·have HV := Lib.hid (meet_no2 (a0 := a0) (a1 := a1) (b0 := b0) (b1 := b1) (c0 := c0) (c1 := c1) (d0 := d0) (d1 := d1) h2)
    have H0 := Lib.hid h0
    have H1 := Lib.hid h1
    have H2 := Lib.hid h2
    clear h h0 h1 h2
    go_enter Tryz.func74, Tryz.ntmps74
    go_wp2_with fail
    change Has w _ ((((w.alloc (.cells #[.int .i64 a0, .int .i64 a1] 37)).alloc (.cells #[.int .i64 b0, .int .i64 b1] 37)).alloc (.cells #[.int .i64 c0, .int .i64 c1] 37)).alloc (.cells #[.int .i64 d0, .int .i64 d1] 37)) at C0
    generalize (((w.alloc (.cells #[.int .i64 a0, .int .i64 a1] 37)).alloc (.cells #[.int .i64 b0, .int .i64 b1] 37)).alloc (.cells #[.int .i64 c0, .int .i64 c1] 37)).alloc (.cells #[.int .i64 d0, .int .i64 d1] 37) = w0 at *
    obtain ⟨⟨k0, k1, k2, k3, k4, k5, k6, k7⟩, -⟩ := C0.four
    go_wp2_with fail
    refine (Has.call C0 (bounded_is a0 a1 _ H0.out _)).mono ?_
    rintro e w1 ⟨rfl, C1⟩
    clear k0 k1 k2 k3 k4 k5 k6 k7
    obtain ⟨⟨k0, k1, k2, k3, k4, k5, k6, k7⟩, -⟩ := C1.four
    go_wp2_with fail
    refine (Has.call C1 (bounded_is b0 b1 _ H1.out _)).mono ?_
    rintro e w2 ⟨rfl, C2⟩
    clear k0 k1 k2 k3 k4 k5 k6 k7
    obtain ⟨⟨k0, k1, k2, k3, k4, k5, k6, k7⟩, -⟩ := C2.four
    go_wp2_with fail
    refine (Has.call C2 (bounded_is c0 c1 _ H2.out _)).mono ?_
    rintro e w3 ⟨rfl, C3⟩
    clear k0 k1 k2 k3 k4 k5 k6 k7
    obtain ⟨⟨k0, k1, k2, k3, k4, k5, k6, k7⟩, -⟩ := C3.four
    go_wp2_with fail
    go_ret
    exact ⟨ret_i HV.out, C3.low⟩
   ·skip
    cases h3 : inl 1152921504606846976 d0 d1
    ·have HV := Lib.hid (meet_no3 (a0 := a0) (a1 := a1) (b0 := b0) (b1 := b1) (c0 := c0) (c1 := c1) (d0 := d0) (d1 := d1) h3)
     have H0 := Lib.hid h0
     have H1 := Lib.hid h1
     have H2 := Lib.hid h2
     have H3 := Lib.hid h3
     clear h h0 h1 h2 h3
     go_enter Tryz.func74, Tryz.ntmps74
     go_wp2_with fail
     change Has w _ ((((w.alloc (.cells #[.int .i64 a0, .int .i64 a1] 37)).alloc (.cells #[.int .i64 b0, .int .i64 b1] 37)).alloc (.cells #[.int .i64 c0, .int .i64 c1] 37)).alloc (.cells #[.int .i64 d0, .int .i64 d1] 37)) at C0
     generalize (((w.alloc (.cells #[.int .i64 a0, .int .i64 a1] 37)).alloc (.cells #[.int .i64 b0, .int .i64 b1] 37)).alloc (.cells #[.int .i64 c0, .int .i64 c1] 37)).alloc (.cells #[.int .i64 d0, .int .i64 d1] 37) = w0 at *
     obtain ⟨⟨k0, k1, k2, k3, k4, k5, k6, k7⟩, -⟩ := C0.four
     go_wp2_with fail
     refine (Has.call C0 (bounded_is a0 a1 _ H0.out _)).mono ?_
     rintro e w1 ⟨rfl, C1⟩
     clear k0 k1 k2 k3 k4 k5 k6 k7
     obtain ⟨⟨k0, k1, k2, k3, k4, k5, k6, k7⟩, -⟩ := C1.four
     go_wp2_with fail
     refine (Has.call C1 (bounded_is b0 b1 _ H1.out _)).mono ?_
     rintro e w2 ⟨rfl, C2⟩
     clear k0 k1 k2 k3 k4 k5 k6 k7
     obtain ⟨⟨k0, k1, k2, k3, k4, k5, k6, k7⟩, -⟩ := C2.four
     go_wp2_with fail
     refine (Has.call C2 (bounded_is c0 c1 _ H2.out _)).mono ?_
     rintro e w3 ⟨rfl, C3⟩
     clear k0 k1 k2 k3 k4 k5 k6 k7
     obtain ⟨⟨k0, k1, k2, k3, k4, k5, k6, k7⟩, -⟩ := C3.four
     go_wp2_with fail
     refine (Has.call C3 (bounded_is d0 d1 _ H3.out _)).mono ?_
     rintro e w4 ⟨rfl, C4⟩
     clear k0 k1 k2 k3 k4 k5 k6 k7
     obtain ⟨⟨k0, k1, k2, k3, k4, k5, k6, k7⟩, -⟩ := C4.four
     go_wp2_with fail
     go_ret
     exact ⟨ret_i HV.out, C4.low⟩
    ·skip
     exact absurd ⟨h0, h1, h2, h3⟩ h


end Go.Proofs.YtoaldbjcpfkcjaaGreat

namespace Go.Proofs.YtoaldbjcpfkcjaaGreat
open Go.RowKit Go.Lib

set_option maxRecDepth 100000 in
set_option maxHeartbeats 8000000 in
theorem meet_in (a0 a1 b0 b1 c0 c1 d0 d1 sA sB sC sD s : Int) (w : World) (h0 : inl 1152921504606846976 a0 a1 = true) (h1 : inl 1152921504606846976 b0 b1 = true) (h2 : inl 1152921504606846976 c0 c1 = true) (h3 : inl 1152921504606846976 d0 d1 = true) (eA : sideOf c0 c1 d0 d1 a0 a1 = sA) (eB : sideOf c0 c1 d0 d1 b0 b1 = sB) (eC : sideOf a0 a1 b0 b1 c0 c1 = sC) (eD : sideOf a0 a1 b0 b1 d0 d1 = sD) (eo : ovl a0 a1 b0 b1 c0 c1 d0 d1 = s) :
  Calls Tryz.prog 74 #[.agg #[.int .i64 a0, .int .i64 a1], .agg #[.int .i64 b0, .int .i64 b1], .agg #[.int .i64 c0, .int .i64 c1], .agg #[.int .i64 d0, .int .i64 d1]] w fun e w' => e = .returned (.int .i64 (meetS sA sB sC sD s)) ∧ Below w.heap.size w w' := by
 have bA := sideOf_bd c0 c1 d0 d1 a0 a1
 have bB := sideOf_bd c0 c1 d0 d1 b0 b1
 have bC := sideOf_bd a0 a1 b0 b1 c0 c1
 have bD := sideOf_bd a0 a1 b0 b1 d0 d1
 rw [eA] at bA
 rw [eB] at bB
 rw [eC] at bC
 rw [eD] at bD
 have p1 := prod_bd bC bD
 have p2 := prod_bd bA bB
 have EA := Lib.hid eA
 have EB := Lib.hid eB
 have EC := Lib.hid eC
 have ED := Lib.hid eD
 have EO := Lib.hid eo
 clear eA eB eC eD eo
 have H0 := Lib.hid h0
 have H1 := Lib.hid h1
 have H2 := Lib.hid h2
 have H3 := Lib.hid h3
 clear h0 h1 h2 h3
 have C0 := has4 (w := w) [.int .i64 a0, .int .i64 a1] [.int .i64 b0, .int .i64 b1] [.int .i64 c0, .int .i64 c1] [.int .i64 d0, .int .i64 d1] 37 37 37 37
 go_enter Tryz.func74, Tryz.ntmps74
 go_wp2_with fail
 change Has w _ ((((w.alloc (.cells #[.int .i64 a0, .int .i64 a1] 37)).alloc (.cells #[.int .i64 b0, .int .i64 b1] 37)).alloc (.cells #[.int .i64 c0, .int .i64 c1] 37)).alloc (.cells #[.int .i64 d0, .int .i64 d1] 37)) at C0
 generalize (((w.alloc (.cells #[.int .i64 a0, .int .i64 a1] 37)).alloc (.cells #[.int .i64 b0, .int .i64 b1] 37)).alloc (.cells #[.int .i64 c0, .int .i64 c1] 37)).alloc (.cells #[.int .i64 d0, .int .i64 d1] 37) = w0 at *
 obtain ⟨⟨k0, k1, k2, k3, k4, k5, k6, k7⟩, -⟩ := C0.four
 go_wp2_with fail
 refine (Has.call C0 (bounded_is a0 a1 _ H0.out _)).mono ?_
 rintro e w1 ⟨rfl, C1⟩
 clear k0 k1 k2 k3 k4 k5 k6 k7
 obtain ⟨⟨k0, k1, k2, k3, k4, k5, k6, k7⟩, -⟩ := C1.four
 go_wp2_with fail
 refine (Has.call C1 (bounded_is b0 b1 _ H1.out _)).mono ?_
 rintro e w2 ⟨rfl, C2⟩
 clear k0 k1 k2 k3 k4 k5 k6 k7
 obtain ⟨⟨k0, k1, k2, k3, k4, k5, k6, k7⟩, -⟩ := C2.four
 go_wp2_with fail
 refine (Has.call C2 (bounded_is c0 c1 _ H2.out _)).mono ?_
 rintro e w3 ⟨rfl, C3⟩
 clear k0 k1 k2 k3 k4 k5 k6 k7
 obtain ⟨⟨k0, k1, k2, k3, k4, k5, k6, k7⟩, -⟩ := C3.four
 go_wp2_with fail
 refine (Has.call C3 (bounded_is d0 d1 _ H3.out _)).mono ?_
 rintro e w4 ⟨rfl, C4⟩
 clear k0 k1 k2 k3 k4 k5 k6 k7
 obtain ⟨⟨k0, k1, k2, k3, k4, k5, k6, k7⟩, -⟩ := C4.four
 go_wp2_with fail
 go_region_held3 (fun w' => (w'.cell? ⟨w.heap.size, 0, none⟩ = some (.int .i64 a0) ∧ w'.cell? ⟨w.heap.size, 1, none⟩ = some (.int .i64 a1) ∧ w'.cell? ⟨w.heap.size + 1, 0, none⟩ = some (.int .i64 b0) ∧ w'.cell? ⟨w.heap.size + 1, 1, none⟩ = some (.int .i64 b1) ∧ w'.cell? ⟨w.heap.size + 2, 0, none⟩ = some (.int .i64 c0) ∧ w'.cell? ⟨w.heap.size + 2, 1, none⟩ = some (.int .i64 c1) ∧ w'.cell? ⟨w.heap.size + 3, 0, none⟩ = some (.int .i64 d0) ∧ w'.cell? ⟨w.heap.size + 3, 1, none⟩ = some (.int .i64 d1)) ∧ Has w [(w.heap.size, [.int .i64 a0, .int .i64 a1]), (w.heap.size + 1, [.int .i64 b0, .int .i64 b1]), (w.heap.size + 2, [.int .i64 c0, .int .i64 c1]), (w.heap.size + 3, [.int .i64 d0, .int .i64 d1])] w')
  (first | exact C4.drew.four | exact Has.four (by assumption))
  (first
   | (go_at_call 51; (with_reducible refine (Has.call (by first | assumption | exact And.right (by assumption)) (side_is c0 c1 d0 d1 a0 a1 _ EA.out _)).mono ?_); rintro e w' ⟨rfl, hC⟩)
   | (go_at_call 51; (with_reducible refine (Has.call (by first | assumption | exact And.right (by assumption)) (side_is c0 c1 d0 d1 b0 b1 _ EB.out _)).mono ?_); rintro e w' ⟨rfl, hC⟩))
 have C5 : Has w [(w.heap.size, [.int .i64 a0, .int .i64 a1]), (w.heap.size + 1, [.int .i64 b0, .int .i64 b1]), (w.heap.size + 2, [.int .i64 c0, .int .i64 c1]), (w.heap.size + 3, [.int .i64 d0, .int .i64 d1])] _ := hC
 clear k0 k1 k2 k3 k4 k5 k6 k7
 obtain ⟨⟨k0, k1, k2, k3, k4, k5, k6, k7⟩, -⟩ := C5.four
 go_wp2_with fail
 go_region_held3 (fun w' => (w'.cell? ⟨w.heap.size, 0, none⟩ = some (.int .i64 a0) ∧ w'.cell? ⟨w.heap.size, 1, none⟩ = some (.int .i64 a1) ∧ w'.cell? ⟨w.heap.size + 1, 0, none⟩ = some (.int .i64 b0) ∧ w'.cell? ⟨w.heap.size + 1, 1, none⟩ = some (.int .i64 b1) ∧ w'.cell? ⟨w.heap.size + 2, 0, none⟩ = some (.int .i64 c0) ∧ w'.cell? ⟨w.heap.size + 2, 1, none⟩ = some (.int .i64 c1) ∧ w'.cell? ⟨w.heap.size + 3, 0, none⟩ = some (.int .i64 d0) ∧ w'.cell? ⟨w.heap.size + 3, 1, none⟩ = some (.int .i64 d1)) ∧ Has w [(w.heap.size, [.int .i64 a0, .int .i64 a1]), (w.heap.size + 1, [.int .i64 b0, .int .i64 b1]), (w.heap.size + 2, [.int .i64 c0, .int .i64 c1]), (w.heap.size + 3, [.int .i64 d0, .int .i64 d1])] w')
  (first | exact C5.drew.four | exact Has.four (by assumption))
  (first
   | (go_at_call 51; (with_reducible refine (Has.call (by first | assumption | exact And.right (by assumption)) (side_is a0 a1 b0 b1 c0 c1 _ EC.out _)).mono ?_); rintro e w' ⟨rfl, hC⟩)
   | (go_at_call 51; (with_reducible refine (Has.call (by first | assumption | exact And.right (by assumption)) (side_is a0 a1 b0 b1 d0 d1 _ ED.out _)).mono ?_); rintro e w' ⟨rfl, hC⟩))
 have C6 : Has w [(w.heap.size, [.int .i64 a0, .int .i64 a1]), (w.heap.size + 1, [.int .i64 b0, .int .i64 b1]), (w.heap.size + 2, [.int .i64 c0, .int .i64 c1]), (w.heap.size + 3, [.int .i64 d0, .int .i64 d1])] _ := hC
 clear k0 k1 k2 k3 k4 k5 k6 k7
 obtain ⟨⟨k0, k1, k2, k3, k4, k5, k6, k7⟩, -⟩ := C6.four
 clear C0 C1 C2 C3 C4 C5
 by_cases hs : sA = 0 ∧ sB = 0 ∧ sC = 0 ∧ sD = 0
 ·have HV := Lib.hid (show s = meetS sA sB sC sD s by unfold meetS; rw [if_pos hs])
  have y1 : (sA == 0) = true := by rw [hs.1]; rfl
  have y2 : (sB == 0) = true := by rw [hs.2.1]; rfl
  have y3 : (sC == 0) = true := by rw [hs.2.2.1]; rfl
  have y4 : (sD == 0) = true := by rw [hs.2.2.2]; rfl
  clear hs
  go_wp2_with fail
  refine (Has.call C6 (overlap_is _ _ _ _ _ _ _ _ _ EO.out _)).mono ?_
  rintro e w7 ⟨rfl, C7⟩
  go_wp2_with fail
  go_ret
  exact ⟨ret_i HV.out, C7.low⟩
 ·have HS := Lib.hid hs
  clear hs
  go_upto_region 5 with fail
  go_cut [47] (fun v wx => v = .bool false ∧ Has w [(w.heap.size, [.int .i64 a0, .int .i64 a1]), (w.heap.size + 1, [.int .i64 b0, .int .i64 b1]), (w.heap.size + 2, [.int .i64 c0, .int .i64 c1]), (w.heap.size + 3, [.int .i64 d0, .int .i64 d1])] wx)
  case first =>
   by_cases z1 : sA = 0
   ·have y1 : (sA == 0) = true := by rw [z1]; rfl
    by_cases z2 : sB = 0
    ·have y2 : (sB == 0) = true := by rw [z2]; rfl
     by_cases z3 : sC = 0
     ·have y3 : (sC == 0) = true := by rw [z3]; rfl
      have y4 : (sD == 0) = false := by rw [beq_eq_false_iff_ne]; exact fun z => HS.out ⟨z1, z2, z3, z⟩
      clear z1 z2 z3
      go_wp2_with fail
      go_meet
      exact ⟨rfl, C6⟩
     ·have y3 : (sC == 0) = false := by rw [beq_eq_false_iff_ne]; exact z3
      clear z1 z2 z3
      go_wp2_with fail
      go_meet
      exact ⟨rfl, C6⟩
    ·have y2 : (sB == 0) = false := by rw [beq_eq_false_iff_ne]; exact z2
     clear z1 z2
     go_wp2_with fail
     go_meet
     exact ⟨rfl, C6⟩
   ·have y1 : (sA == 0) = false := by rw [beq_eq_false_iff_ne]; exact z1
    clear z1
    go_wp2_with fail
    go_meet
    exact ⟨rfl, C6⟩
  case rest =>
   obtain ⟨rfl, D6⟩ := hcut
   by_cases q1 : sA * sB ≤ 0
   ·by_cases q2 : sC * sD ≤ 0
    ·have HV := Lib.hid (show (1 : Int) = meetS sA sB sC sD s by unfold meetS; rw [if_neg HS.out, if_pos ⟨q1, q2⟩])
     have x1 : decide (sA * sB ≤ 0) = true := by simp; omega
     have x2 : decide (sC * sD ≤ 0) = true := by simp; omega
     go_wp2_with fail
     go_ret
     exact ⟨ret_i HV.out, D6.low⟩
    ·have HV := Lib.hid (show (0 : Int) = meetS sA sB sC sD s by unfold meetS; rw [if_neg HS.out, if_neg (fun z => q2 z.2)])
     have x1 : decide (sA * sB ≤ 0) = true := by simp; omega
     have x2 : decide (sC * sD ≤ 0) = false := by simp; omega
     go_wp2_with fail
     go_ret
     exact ⟨ret_i HV.out, D6.low⟩
   ·have HV := Lib.hid (show (0 : Int) = meetS sA sB sC sD s by unfold meetS; rw [if_neg HS.out, if_neg (fun z => q1 z.1)])
    have x1 : decide (sA * sB ≤ 0) = false := by simp; omega
    go_wp2_with fail
    go_ret
    exact ⟨ret_i HV.out, D6.low⟩

theorem meet_any (a0 a1 b0 b1 c0 c1 d0 d1 : Int) (w : World) :
  Calls Tryz.prog 74 #[.agg #[.int .i64 a0, .int .i64 a1], .agg #[.int .i64 b0, .int .i64 b1], .agg #[.int .i64 c0, .int .i64 c1], .agg #[.int .i64 d0, .int .i64 d1]] w fun e w' => e = .returned (.int .i64 (meetOf a0 a1 b0 b1 c0 c1 d0 d1)) ∧ Below w.heap.size w w' := by
 by_cases h : inl 1152921504606846976 a0 a1 = true ∧ inl 1152921504606846976 b0 b1 = true ∧ inl 1152921504606846976 c0 c1 = true ∧ inl 1152921504606846976 d0 d1 = true
 ·obtain ⟨h0, h1, h2, h3⟩ := h
  rw [meet_yes h0 h1 h2 h3 rfl rfl rfl rfl rfl]
  exact meet_in a0 a1 b0 b1 c0 c1 d0 d1 _ _ _ _ _ w h0 h1 h2 h3 rfl rfl rfl rfl rfl
 ·exact meet_no a0 a1 b0 b1 c0 c1 d0 d1 w h
theorem meet_is (a0 a1 b0 b1 c0 c1 d0 d1 s : Int) (h : meetOf a0 a1 b0 b1 c0 c1 d0 d1 = s) (w : World) :
  Calls Tryz.prog 74 #[.agg #[.int .i64 a0, .int .i64 a1], .agg #[.int .i64 b0, .int .i64 b1], .agg #[.int .i64 c0, .int .i64 c1], .agg #[.int .i64 d0, .int .i64 d1]] w fun e w' => e = .returned (.int .i64 s) ∧ Below w.heap.size w w' := h ▸ meet_any a0 a1 b0 b1 c0 c1 d0 d1 w

end Go.Proofs.YtoaldbjcpfkcjaaGreat
