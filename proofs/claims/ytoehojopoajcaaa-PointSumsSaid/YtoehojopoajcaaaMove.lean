/- Move of point. -/
import Derived.Test.YtoehojopoajcaaaMoveD
import Derived.Test.YtoehojopoajcaaaLow
import Derived.IntWalk
namespace Go.Proofs.Ytoehojopoajcaaa
open Go.RowKit Go.Lib

set_option maxRecDepth 100000 in
set_option maxHeartbeats 8000000 in
theorem move_any (a0 a1 a2 b0 b1 b2 fn fd : Int) (w : World) :
    Calls Try.prog 38 #[.agg #[.int .i64 a0, .int .i64 a1, .int .i64 a2], .agg #[.int .i64 b0, .int .i64 b1, .int .i64 b2], .agg #[.int .i64 fn, .int .i64 fd]] w fun e w' => e = .returned (.tuple #[.agg #[.int .i64 (mv0 a0 a1 a2 b0 b1 b2 fn fd), .int .i64 (mv1 a0 a1 a2 b0 b1 b2 fn fd), .int .i64 (mv2 a0 a1 a2 b0 b1 b2 fn fd)], .bool (mvI a0 a1 a2 b0 b1 b2 fn fd)]) ∧ Below w.heap.size w w' := by
  have C0 := has4 (w := w) [.int .i64 a0, .int .i64 a1, .int .i64 a2] [.int .i64 b0, .int .i64 b1, .int .i64 b2] [.int .i64 fn, .int .i64 fd] [.int .i64 0, .int .i64 0, .int .i64 0] 34 34 50 34
  cases h0 : rs a0 a1 a2
  · have HV := Lib.hid (mv_no (a0 := a0) (a1 := a1) (a2 := a2) (b0 := b0) (b1 := b1) (b2 := b2) (fn := fn) (fd := fd) (mvI_0 h0))
    have H0 := Lib.hid h0
    clear h0
    go_enter Try.func38, Try.ntmps38
    go_wp2_with fail
    change Has w _ ((((w.alloc (.cells #[.int .i64 a0, .int .i64 a1, .int .i64 a2] 34)).alloc (.cells #[.int .i64 b0, .int .i64 b1, .int .i64 b2] 34)).alloc (.cells #[.int .i64 fn, .int .i64 fd] 50)).alloc (.cells #[.int .i64 0, .int .i64 0, .int .i64 0] 34)) at C0
    generalize (((w.alloc (.cells #[.int .i64 a0, .int .i64 a1, .int .i64 a2] 34)).alloc (.cells #[.int .i64 b0, .int .i64 b1, .int .i64 b2] 34)).alloc (.cells #[.int .i64 fn, .int .i64 fd] 50)).alloc (.cells #[.int .i64 0, .int .i64 0, .int .i64 0] 34) = w0 at *
    have k0 := C0.fact (.head _) (i := 0) rfl
    have k1 := C0.fact (.head _) (i := 1) rfl
    have k2 := C0.fact (.head _) (i := 2) rfl
    have k3 := C0.tail.fact (.head _) (i := 0) rfl
    have k4 := C0.tail.fact (.head _) (i := 1) rfl
    have k5 := C0.tail.fact (.head _) (i := 2) rfl
    have k6 := C0.tail.tail.fact (.head _) (i := 0) rfl
    have k7 := C0.tail.tail.fact (.head _) (i := 1) rfl
    have k8 := C0.tail.tail.tail.fact (.head _) (i := 0) rfl
    have k9 := C0.tail.tail.tail.fact (.head _) (i := 1) rfl
    have k10 := C0.tail.tail.tail.fact (.head _) (i := 2) rfl
    have f0 := C0.tail.tail.tail.free (.head _) (i := 0) rfl
    have f1 := C0.tail.tail.tail.free (.head _) (i := 1) rfl
    have f2 := C0.tail.tail.tail.free (.head _) (i := 2) rfl
    go_wp2_with fail
    refine (Has.call C0 (rightSpot_is a0 a1 a2 _ H0.out _)).mono ?_
    rintro e w1 ⟨rfl, C1⟩
    clear k0 k1 k2 k3 k4 k5 k6 k7 k8 k9 k10 f0 f1 f2
    have k0 := C1.fact (.head _) (i := 0) rfl
    have k1 := C1.fact (.head _) (i := 1) rfl
    have k2 := C1.fact (.head _) (i := 2) rfl
    have k3 := C1.tail.fact (.head _) (i := 0) rfl
    have k4 := C1.tail.fact (.head _) (i := 1) rfl
    have k5 := C1.tail.fact (.head _) (i := 2) rfl
    have k6 := C1.tail.tail.fact (.head _) (i := 0) rfl
    have k7 := C1.tail.tail.fact (.head _) (i := 1) rfl
    have k8 := C1.tail.tail.tail.fact (.head _) (i := 0) rfl
    have k9 := C1.tail.tail.tail.fact (.head _) (i := 1) rfl
    have k10 := C1.tail.tail.tail.fact (.head _) (i := 2) rfl
    have f0 := C1.tail.tail.tail.free (.head _) (i := 0) rfl
    have f1 := C1.tail.tail.tail.free (.head _) (i := 1) rfl
    have f2 := C1.tail.tail.tail.free (.head _) (i := 2) rfl
    go_wp2_with fail
    have D3 := C1.fourth.set3 (.int .i64 0) (.int .i64 0) (.int .i64 0)
    generalize ((World.setCell w1 ⟨w.heap.size + 3, 0, none⟩ (.int .i64 0)).setCell ⟨w.heap.size + 3, 1, none⟩ (.int .i64 0)).setCell ⟨w.heap.size + 3, 2, none⟩ (.int .i64 0) = w9 at *
    have d0 := D3.fact (.head _) (i := 0) rfl
    have d1 := D3.fact (.head _) (i := 1) rfl
    have d2 := D3.fact (.head _) (i := 2) rfl
    exact bodyPost_ret (v := .tuple #[.agg #[.int .i64 0, .int .i64 0, .int .i64 0], .bool false]) (by simp [results, Try.results38, go_sem, d0, d1, d2]) rfl ⟨HV.out, D3.low⟩
  · skip
    cases h1 : rs b0 b1 b2
    · have HV := Lib.hid (mv_no (a0 := a0) (a1 := a1) (a2 := a2) (b0 := b0) (b1 := b1) (b2 := b2) (fn := fn) (fd := fd) (mvI_1 h1))
      have H0 := Lib.hid h0
      have H1 := Lib.hid h1
      clear h0 h1
      go_enter Try.func38, Try.ntmps38
      go_wp2_with fail
      change Has w _ ((((w.alloc (.cells #[.int .i64 a0, .int .i64 a1, .int .i64 a2] 34)).alloc (.cells #[.int .i64 b0, .int .i64 b1, .int .i64 b2] 34)).alloc (.cells #[.int .i64 fn, .int .i64 fd] 50)).alloc (.cells #[.int .i64 0, .int .i64 0, .int .i64 0] 34)) at C0
      generalize (((w.alloc (.cells #[.int .i64 a0, .int .i64 a1, .int .i64 a2] 34)).alloc (.cells #[.int .i64 b0, .int .i64 b1, .int .i64 b2] 34)).alloc (.cells #[.int .i64 fn, .int .i64 fd] 50)).alloc (.cells #[.int .i64 0, .int .i64 0, .int .i64 0] 34) = w0 at *
      have k0 := C0.fact (.head _) (i := 0) rfl
      have k1 := C0.fact (.head _) (i := 1) rfl
      have k2 := C0.fact (.head _) (i := 2) rfl
      have k3 := C0.tail.fact (.head _) (i := 0) rfl
      have k4 := C0.tail.fact (.head _) (i := 1) rfl
      have k5 := C0.tail.fact (.head _) (i := 2) rfl
      have k6 := C0.tail.tail.fact (.head _) (i := 0) rfl
      have k7 := C0.tail.tail.fact (.head _) (i := 1) rfl
      have k8 := C0.tail.tail.tail.fact (.head _) (i := 0) rfl
      have k9 := C0.tail.tail.tail.fact (.head _) (i := 1) rfl
      have k10 := C0.tail.tail.tail.fact (.head _) (i := 2) rfl
      have f0 := C0.tail.tail.tail.free (.head _) (i := 0) rfl
      have f1 := C0.tail.tail.tail.free (.head _) (i := 1) rfl
      have f2 := C0.tail.tail.tail.free (.head _) (i := 2) rfl
      go_wp2_with fail
      refine (Has.call C0 (rightSpot_is a0 a1 a2 _ H0.out _)).mono ?_
      rintro e w1 ⟨rfl, C1⟩
      clear k0 k1 k2 k3 k4 k5 k6 k7 k8 k9 k10 f0 f1 f2
      have k0 := C1.fact (.head _) (i := 0) rfl
      have k1 := C1.fact (.head _) (i := 1) rfl
      have k2 := C1.fact (.head _) (i := 2) rfl
      have k3 := C1.tail.fact (.head _) (i := 0) rfl
      have k4 := C1.tail.fact (.head _) (i := 1) rfl
      have k5 := C1.tail.fact (.head _) (i := 2) rfl
      have k6 := C1.tail.tail.fact (.head _) (i := 0) rfl
      have k7 := C1.tail.tail.fact (.head _) (i := 1) rfl
      have k8 := C1.tail.tail.tail.fact (.head _) (i := 0) rfl
      have k9 := C1.tail.tail.tail.fact (.head _) (i := 1) rfl
      have k10 := C1.tail.tail.tail.fact (.head _) (i := 2) rfl
      have f0 := C1.tail.tail.tail.free (.head _) (i := 0) rfl
      have f1 := C1.tail.tail.tail.free (.head _) (i := 1) rfl
      have f2 := C1.tail.tail.tail.free (.head _) (i := 2) rfl
      go_wp2_with fail
      refine (Has.call C1 (rightSpot_is b0 b1 b2 _ H1.out _)).mono ?_
      rintro e w2 ⟨rfl, C2⟩
      clear k0 k1 k2 k3 k4 k5 k6 k7 k8 k9 k10 f0 f1 f2
      have k0 := C2.fact (.head _) (i := 0) rfl
      have k1 := C2.fact (.head _) (i := 1) rfl
      have k2 := C2.fact (.head _) (i := 2) rfl
      have k3 := C2.tail.fact (.head _) (i := 0) rfl
      have k4 := C2.tail.fact (.head _) (i := 1) rfl
      have k5 := C2.tail.fact (.head _) (i := 2) rfl
      have k6 := C2.tail.tail.fact (.head _) (i := 0) rfl
      have k7 := C2.tail.tail.fact (.head _) (i := 1) rfl
      have k8 := C2.tail.tail.tail.fact (.head _) (i := 0) rfl
      have k9 := C2.tail.tail.tail.fact (.head _) (i := 1) rfl
      have k10 := C2.tail.tail.tail.fact (.head _) (i := 2) rfl
      have f0 := C2.tail.tail.tail.free (.head _) (i := 0) rfl
      have f1 := C2.tail.tail.tail.free (.head _) (i := 1) rfl
      have f2 := C2.tail.tail.tail.free (.head _) (i := 2) rfl
      go_wp2_with fail
      have D3 := C2.fourth.set3 (.int .i64 0) (.int .i64 0) (.int .i64 0)
      generalize ((World.setCell w2 ⟨w.heap.size + 3, 0, none⟩ (.int .i64 0)).setCell ⟨w.heap.size + 3, 1, none⟩ (.int .i64 0)).setCell ⟨w.heap.size + 3, 2, none⟩ (.int .i64 0) = w9 at *
      have d0 := D3.fact (.head _) (i := 0) rfl
      have d1 := D3.fact (.head _) (i := 1) rfl
      have d2 := D3.fact (.head _) (i := 2) rfl
      exact bodyPost_ret (v := .tuple #[.agg #[.int .i64 0, .int .i64 0, .int .i64 0], .bool false]) (by simp [results, Try.results38, go_sem, d0, d1, d2]) rfl ⟨HV.out, D3.low⟩
    · skip
      cases h2 : rf fn fd
      · have HV := Lib.hid (mv_no (a0 := a0) (a1 := a1) (a2 := a2) (b0 := b0) (b1 := b1) (b2 := b2) (fn := fn) (fd := fd) (mvI_2 h2))
        have H0 := Lib.hid h0
        have H1 := Lib.hid h1
        have H2 := Lib.hid h2
        clear h0 h1 h2
        go_enter Try.func38, Try.ntmps38
        go_wp2_with fail
        change Has w _ ((((w.alloc (.cells #[.int .i64 a0, .int .i64 a1, .int .i64 a2] 34)).alloc (.cells #[.int .i64 b0, .int .i64 b1, .int .i64 b2] 34)).alloc (.cells #[.int .i64 fn, .int .i64 fd] 50)).alloc (.cells #[.int .i64 0, .int .i64 0, .int .i64 0] 34)) at C0
        generalize (((w.alloc (.cells #[.int .i64 a0, .int .i64 a1, .int .i64 a2] 34)).alloc (.cells #[.int .i64 b0, .int .i64 b1, .int .i64 b2] 34)).alloc (.cells #[.int .i64 fn, .int .i64 fd] 50)).alloc (.cells #[.int .i64 0, .int .i64 0, .int .i64 0] 34) = w0 at *
        have k0 := C0.fact (.head _) (i := 0) rfl
        have k1 := C0.fact (.head _) (i := 1) rfl
        have k2 := C0.fact (.head _) (i := 2) rfl
        have k3 := C0.tail.fact (.head _) (i := 0) rfl
        have k4 := C0.tail.fact (.head _) (i := 1) rfl
        have k5 := C0.tail.fact (.head _) (i := 2) rfl
        have k6 := C0.tail.tail.fact (.head _) (i := 0) rfl
        have k7 := C0.tail.tail.fact (.head _) (i := 1) rfl
        have k8 := C0.tail.tail.tail.fact (.head _) (i := 0) rfl
        have k9 := C0.tail.tail.tail.fact (.head _) (i := 1) rfl
        have k10 := C0.tail.tail.tail.fact (.head _) (i := 2) rfl
        have f0 := C0.tail.tail.tail.free (.head _) (i := 0) rfl
        have f1 := C0.tail.tail.tail.free (.head _) (i := 1) rfl
        have f2 := C0.tail.tail.tail.free (.head _) (i := 2) rfl
        go_wp2_with fail
        refine (Has.call C0 (rightSpot_is a0 a1 a2 _ H0.out _)).mono ?_
        rintro e w1 ⟨rfl, C1⟩
        clear k0 k1 k2 k3 k4 k5 k6 k7 k8 k9 k10 f0 f1 f2
        have k0 := C1.fact (.head _) (i := 0) rfl
        have k1 := C1.fact (.head _) (i := 1) rfl
        have k2 := C1.fact (.head _) (i := 2) rfl
        have k3 := C1.tail.fact (.head _) (i := 0) rfl
        have k4 := C1.tail.fact (.head _) (i := 1) rfl
        have k5 := C1.tail.fact (.head _) (i := 2) rfl
        have k6 := C1.tail.tail.fact (.head _) (i := 0) rfl
        have k7 := C1.tail.tail.fact (.head _) (i := 1) rfl
        have k8 := C1.tail.tail.tail.fact (.head _) (i := 0) rfl
        have k9 := C1.tail.tail.tail.fact (.head _) (i := 1) rfl
        have k10 := C1.tail.tail.tail.fact (.head _) (i := 2) rfl
        have f0 := C1.tail.tail.tail.free (.head _) (i := 0) rfl
        have f1 := C1.tail.tail.tail.free (.head _) (i := 1) rfl
        have f2 := C1.tail.tail.tail.free (.head _) (i := 2) rfl
        go_wp2_with fail
        refine (Has.call C1 (rightSpot_is b0 b1 b2 _ H1.out _)).mono ?_
        rintro e w2 ⟨rfl, C2⟩
        clear k0 k1 k2 k3 k4 k5 k6 k7 k8 k9 k10 f0 f1 f2
        have k0 := C2.fact (.head _) (i := 0) rfl
        have k1 := C2.fact (.head _) (i := 1) rfl
        have k2 := C2.fact (.head _) (i := 2) rfl
        have k3 := C2.tail.fact (.head _) (i := 0) rfl
        have k4 := C2.tail.fact (.head _) (i := 1) rfl
        have k5 := C2.tail.fact (.head _) (i := 2) rfl
        have k6 := C2.tail.tail.fact (.head _) (i := 0) rfl
        have k7 := C2.tail.tail.fact (.head _) (i := 1) rfl
        have k8 := C2.tail.tail.tail.fact (.head _) (i := 0) rfl
        have k9 := C2.tail.tail.tail.fact (.head _) (i := 1) rfl
        have k10 := C2.tail.tail.tail.fact (.head _) (i := 2) rfl
        have f0 := C2.tail.tail.tail.free (.head _) (i := 0) rfl
        have f1 := C2.tail.tail.tail.free (.head _) (i := 1) rfl
        have f2 := C2.tail.tail.tail.free (.head _) (i := 2) rfl
        go_wp2_with fail
        refine (Has.call C2 (rightFraction_is fn fd _ H2.out _)).mono ?_
        rintro e w3 ⟨rfl, C3⟩
        clear k0 k1 k2 k3 k4 k5 k6 k7 k8 k9 k10 f0 f1 f2
        have k0 := C3.fact (.head _) (i := 0) rfl
        have k1 := C3.fact (.head _) (i := 1) rfl
        have k2 := C3.fact (.head _) (i := 2) rfl
        have k3 := C3.tail.fact (.head _) (i := 0) rfl
        have k4 := C3.tail.fact (.head _) (i := 1) rfl
        have k5 := C3.tail.fact (.head _) (i := 2) rfl
        have k6 := C3.tail.tail.fact (.head _) (i := 0) rfl
        have k7 := C3.tail.tail.fact (.head _) (i := 1) rfl
        have k8 := C3.tail.tail.tail.fact (.head _) (i := 0) rfl
        have k9 := C3.tail.tail.tail.fact (.head _) (i := 1) rfl
        have k10 := C3.tail.tail.tail.fact (.head _) (i := 2) rfl
        have f0 := C3.tail.tail.tail.free (.head _) (i := 0) rfl
        have f1 := C3.tail.tail.tail.free (.head _) (i := 1) rfl
        have f2 := C3.tail.tail.tail.free (.head _) (i := 2) rfl
        go_wp2_with fail
        have D3 := C3.fourth.set3 (.int .i64 0) (.int .i64 0) (.int .i64 0)
        generalize ((World.setCell w3 ⟨w.heap.size + 3, 0, none⟩ (.int .i64 0)).setCell ⟨w.heap.size + 3, 1, none⟩ (.int .i64 0)).setCell ⟨w.heap.size + 3, 2, none⟩ (.int .i64 0) = w9 at *
        have d0 := D3.fact (.head _) (i := 0) rfl
        have d1 := D3.fact (.head _) (i := 1) rfl
        have d2 := D3.fact (.head _) (i := 2) rfl
        exact bodyPost_ret (v := .tuple #[.agg #[.int .i64 0, .int .i64 0, .int .i64 0], .bool false]) (by simp [results, Try.results38, go_sem, d0, d1, d2]) rfl ⟨HV.out, D3.low⟩
      · skip
        obtain ⟨⟨ha1, ha2⟩, ⟨hb1, hb2⟩, ⟨hf1, hf2, hf3, hf4⟩, hx, hy, hz, hu⟩ := mb h0 h1 h2
        have hI := mvI_3 h0 h1 h2
        obtain ⟨SA, hSA⟩ : ∃ SA, (fd - fn) * b2 = SA := ⟨_, rfl⟩
        obtain ⟨SB, hSB⟩ : ∃ SB, fn * a2 = SB := ⟨_, rfl⟩
        have bSA := mul_b (fd - fn) b2 1048576 2048 (by omega) (by omega) (by omega) (by omega)
        have bSB := mul_b fn a2 1048576 2048 (by omega) (by omega) (by omega) (by omega)
        have bD1 := mul_p fd a2 1048576 2048 (by omega) (by omega)
        have bD2 := mul_p (fd * a2) b2 2147483648 2048 (by omega) (by omega)
        rw [hSA] at bSA
        rw [hSB] at bSB
        have q1 := mul_b SA a0 2147483648 33554432 (by omega) (by omega) (by omega) (by omega)
        have q2 := mul_b SB b0 2147483648 33554432 (by omega) (by omega) (by omega) (by omega)
        have q3 := mul_b SA a1 2147483648 33554432 (by omega) (by omega) (by omega) (by omega)
        have q4 := mul_b SB b1 2147483648 33554432 (by omega) (by omega) (by omega) (by omega)
        have HV := Lib.hid (show Ending.returned (.tuple #[.agg #[.int .i64 ((SA * a0 + SB * b0).tdiv (gcdOf (gcdOf (SA * a0 + SB * b0) (SA * a1 + SB * b1)) (fd * a2 * b2))), .int .i64 ((SA * a1 + SB * b1).tdiv (gcdOf (gcdOf (SA * a0 + SB * b0) (SA * a1 + SB * b1)) (fd * a2 * b2))), .int .i64 (fd * a2 * b2 / gcdOf (gcdOf (SA * a0 + SB * b0) (SA * a1 + SB * b1)) (fd * a2 * b2))], .bool true]) = .returned (.tuple #[.agg #[.int .i64 (mv0 a0 a1 a2 b0 b1 b2 fn fd), .int .i64 (mv1 a0 a1 a2 b0 b1 b2 fn fd), .int .i64 (mv2 a0 a1 a2 b0 b1 b2 fn fd)], .bool (mvI a0 a1 a2 b0 b1 b2 fn fd)]) by
          unfold mv0 mv1 mv2
          rw [if_pos hI, if_pos hI, if_pos hI, hI]
          unfold mG mX mD
          rw [hSA, hSB])
        have e1 : IntKind.i64.wrap (fd - fn) = fd - fn := IntWalk.i64_in _ (by omega)
        have e2 : IntKind.i64.wrap ((fd - fn) * b2) = SA := by rw [hSA]; exact IntWalk.i64_in _ (by omega)
        have e3 : IntKind.i64.wrap (fn * a2) = SB := by rw [hSB]; exact IntWalk.i64_in _ (by omega)
        have H0 := Lib.hid h0
        have H1 := Lib.hid h1
        have H2 := Lib.hid h2
        clear h0 h1 h2 hI hSA hSB
        go_enter Try.func38, Try.ntmps38
        go_wp2_with fail
        change Has w _ ((((w.alloc (.cells #[.int .i64 a0, .int .i64 a1, .int .i64 a2] 34)).alloc (.cells #[.int .i64 b0, .int .i64 b1, .int .i64 b2] 34)).alloc (.cells #[.int .i64 fn, .int .i64 fd] 50)).alloc (.cells #[.int .i64 0, .int .i64 0, .int .i64 0] 34)) at C0
        generalize (((w.alloc (.cells #[.int .i64 a0, .int .i64 a1, .int .i64 a2] 34)).alloc (.cells #[.int .i64 b0, .int .i64 b1, .int .i64 b2] 34)).alloc (.cells #[.int .i64 fn, .int .i64 fd] 50)).alloc (.cells #[.int .i64 0, .int .i64 0, .int .i64 0] 34) = w0 at *
        have k0 := C0.fact (.head _) (i := 0) rfl
        have k1 := C0.fact (.head _) (i := 1) rfl
        have k2 := C0.fact (.head _) (i := 2) rfl
        have k3 := C0.tail.fact (.head _) (i := 0) rfl
        have k4 := C0.tail.fact (.head _) (i := 1) rfl
        have k5 := C0.tail.fact (.head _) (i := 2) rfl
        have k6 := C0.tail.tail.fact (.head _) (i := 0) rfl
        have k7 := C0.tail.tail.fact (.head _) (i := 1) rfl
        have k8 := C0.tail.tail.tail.fact (.head _) (i := 0) rfl
        have k9 := C0.tail.tail.tail.fact (.head _) (i := 1) rfl
        have k10 := C0.tail.tail.tail.fact (.head _) (i := 2) rfl
        have f0 := C0.tail.tail.tail.free (.head _) (i := 0) rfl
        have f1 := C0.tail.tail.tail.free (.head _) (i := 1) rfl
        have f2 := C0.tail.tail.tail.free (.head _) (i := 2) rfl
        go_wp2_with fail
        refine (Has.call C0 (rightSpot_is a0 a1 a2 _ H0.out _)).mono ?_
        rintro e w1 ⟨rfl, C1⟩
        clear k0 k1 k2 k3 k4 k5 k6 k7 k8 k9 k10 f0 f1 f2
        have k0 := C1.fact (.head _) (i := 0) rfl
        have k1 := C1.fact (.head _) (i := 1) rfl
        have k2 := C1.fact (.head _) (i := 2) rfl
        have k3 := C1.tail.fact (.head _) (i := 0) rfl
        have k4 := C1.tail.fact (.head _) (i := 1) rfl
        have k5 := C1.tail.fact (.head _) (i := 2) rfl
        have k6 := C1.tail.tail.fact (.head _) (i := 0) rfl
        have k7 := C1.tail.tail.fact (.head _) (i := 1) rfl
        have k8 := C1.tail.tail.tail.fact (.head _) (i := 0) rfl
        have k9 := C1.tail.tail.tail.fact (.head _) (i := 1) rfl
        have k10 := C1.tail.tail.tail.fact (.head _) (i := 2) rfl
        have f0 := C1.tail.tail.tail.free (.head _) (i := 0) rfl
        have f1 := C1.tail.tail.tail.free (.head _) (i := 1) rfl
        have f2 := C1.tail.tail.tail.free (.head _) (i := 2) rfl
        go_wp2_with fail
        refine (Has.call C1 (rightSpot_is b0 b1 b2 _ H1.out _)).mono ?_
        rintro e w2 ⟨rfl, C2⟩
        clear k0 k1 k2 k3 k4 k5 k6 k7 k8 k9 k10 f0 f1 f2
        have k0 := C2.fact (.head _) (i := 0) rfl
        have k1 := C2.fact (.head _) (i := 1) rfl
        have k2 := C2.fact (.head _) (i := 2) rfl
        have k3 := C2.tail.fact (.head _) (i := 0) rfl
        have k4 := C2.tail.fact (.head _) (i := 1) rfl
        have k5 := C2.tail.fact (.head _) (i := 2) rfl
        have k6 := C2.tail.tail.fact (.head _) (i := 0) rfl
        have k7 := C2.tail.tail.fact (.head _) (i := 1) rfl
        have k8 := C2.tail.tail.tail.fact (.head _) (i := 0) rfl
        have k9 := C2.tail.tail.tail.fact (.head _) (i := 1) rfl
        have k10 := C2.tail.tail.tail.fact (.head _) (i := 2) rfl
        have f0 := C2.tail.tail.tail.free (.head _) (i := 0) rfl
        have f1 := C2.tail.tail.tail.free (.head _) (i := 1) rfl
        have f2 := C2.tail.tail.tail.free (.head _) (i := 2) rfl
        go_wp2_with fail
        refine (Has.call C2 (rightFraction_is fn fd _ H2.out _)).mono ?_
        rintro e w3 ⟨rfl, C3⟩
        clear k0 k1 k2 k3 k4 k5 k6 k7 k8 k9 k10 f0 f1 f2
        have k0 := C3.fact (.head _) (i := 0) rfl
        have k1 := C3.fact (.head _) (i := 1) rfl
        have k2 := C3.fact (.head _) (i := 2) rfl
        have k3 := C3.tail.fact (.head _) (i := 0) rfl
        have k4 := C3.tail.fact (.head _) (i := 1) rfl
        have k5 := C3.tail.fact (.head _) (i := 2) rfl
        have k6 := C3.tail.tail.fact (.head _) (i := 0) rfl
        have k7 := C3.tail.tail.fact (.head _) (i := 1) rfl
        have k8 := C3.tail.tail.tail.fact (.head _) (i := 0) rfl
        have k9 := C3.tail.tail.tail.fact (.head _) (i := 1) rfl
        have k10 := C3.tail.tail.tail.fact (.head _) (i := 2) rfl
        have f0 := C3.tail.tail.tail.free (.head _) (i := 0) rfl
        have f1 := C3.tail.tail.tail.free (.head _) (i := 1) rfl
        have f2 := C3.tail.tail.tail.free (.head _) (i := 2) rfl
        go_wp2_with fail
        go_quiet (fail)
        clear e1 e2 e3
        have C4 := C3.drewN nq
        clear k0 k1 k2 k3 k4 k5 k6 k7 k8 k9 k10 f0 f1 f2
        generalize w3.drewN nq = w4 at *
        have k0 := C4.fact (.head _) (i := 0) rfl
        have k1 := C4.fact (.head _) (i := 1) rfl
        have k2 := C4.fact (.head _) (i := 2) rfl
        have k3 := C4.tail.fact (.head _) (i := 0) rfl
        have k4 := C4.tail.fact (.head _) (i := 1) rfl
        have k5 := C4.tail.fact (.head _) (i := 2) rfl
        have k6 := C4.tail.tail.fact (.head _) (i := 0) rfl
        have k7 := C4.tail.tail.fact (.head _) (i := 1) rfl
        have k8 := C4.tail.tail.tail.fact (.head _) (i := 0) rfl
        have k9 := C4.tail.tail.tail.fact (.head _) (i := 1) rfl
        have k10 := C4.tail.tail.tail.fact (.head _) (i := 2) rfl
        have f0 := C4.tail.tail.tail.free (.head _) (i := 0) rfl
        have f1 := C4.tail.tail.tail.free (.head _) (i := 1) rfl
        have f2 := C4.tail.tail.tail.free (.head _) (i := 2) rfl
        go_wp2_with fail
        refine (Has.call C4 (lowest_any _ _ _ _ (by unfold I64; omega) (by unfold I64; omega) (by omega))).mono ?_
        rintro e w5 ⟨rfl, C5⟩
        clear k0 k1 k2 k3 k4 k5 k6 k7 k8 k9 k10 f0 f1 f2
        have k0 := C5.fact (.head _) (i := 0) rfl
        have k1 := C5.fact (.head _) (i := 1) rfl
        have k2 := C5.fact (.head _) (i := 2) rfl
        have k3 := C5.tail.fact (.head _) (i := 0) rfl
        have k4 := C5.tail.fact (.head _) (i := 1) rfl
        have k5 := C5.tail.fact (.head _) (i := 2) rfl
        have k6 := C5.tail.tail.fact (.head _) (i := 0) rfl
        have k7 := C5.tail.tail.fact (.head _) (i := 1) rfl
        have k8 := C5.tail.tail.tail.fact (.head _) (i := 0) rfl
        have k9 := C5.tail.tail.tail.fact (.head _) (i := 1) rfl
        have k10 := C5.tail.tail.tail.fact (.head _) (i := 2) rfl
        have f0 := C5.tail.tail.tail.free (.head _) (i := 0) rfl
        have f1 := C5.tail.tail.tail.free (.head _) (i := 1) rfl
        have f2 := C5.tail.tail.tail.free (.head _) (i := 2) rfl
        generalize gcdOf (gcdOf (SA * a0 + SB * b0) (SA * a1 + SB * b1)) (fd * a2 * b2) = G at *
        generalize (SA * a0 + SB * b0).tdiv G = R0 at *
        generalize (SA * a1 + SB * b1).tdiv G = R1 at *
        generalize fd * a2 * b2 / G = R2 at *
        go_wp2_with fail
        have D3 := C5.fourth.set3 (.int .i64 R0) (.int .i64 R1) (.int .i64 R2)
        generalize ((World.setCell w5 ⟨w.heap.size + 3, 0, none⟩ (.int .i64 R0)).setCell ⟨w.heap.size + 3, 1, none⟩ (.int .i64 R1)).setCell ⟨w.heap.size + 3, 2, none⟩ (.int .i64 R2) = w9 at *
        have d0 := D3.fact (.head _) (i := 0) rfl
        have d1 := D3.fact (.head _) (i := 1) rfl
        have d2 := D3.fact (.head _) (i := 2) rfl
        exact bodyPost_ret (v := .tuple #[.agg #[.int .i64 R0, .int .i64 R1, .int .i64 R2], .bool true]) (by simp [results, Try.results38, go_sem, d0, d1, d2]) rfl ⟨HV.out, D3.low⟩

end Go.Proofs.Ytoehojopoajcaaa
