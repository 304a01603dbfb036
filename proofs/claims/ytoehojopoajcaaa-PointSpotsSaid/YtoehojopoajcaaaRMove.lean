/- Move of the reference. -/
import Derived.Test.YtoehojopoajcaaaMoveD
import Derived.IntWalk
import Derived.Test.YtoehojopoajcaaaLow
namespace Go.Proofs.Ytoehojopoajcaaa
open Go.RowKit Go.Lib


/-- Numbers are what they come out as, whichever way they are multiplied. -/
theorem rm_x (a0 a2 b0 b2 fn fd : Int) : a0 * b2 * (fd - fn) + b0 * a2 * fn = mX a0 a2 b0 b2 fn fd := by unfold mX; grind
theorem rm_d (a2 b2 fd : Int) : a2 * b2 * fd = mD a2 b2 fd := by unfold mD; grind

/-- All that the reference computes, within int. -/
structure RM (a0 a1 a2 b0 b1 b2 fn fd F A A' B B' C C' E E' U X Y D : Int) : Prop where
  f : IntKind.i64.wrap (fd - fn) = F
  a : IntKind.i64.wrap (a0 * b2) = A
  a' : IntKind.i64.wrap (A * F) = A'
  b : IntKind.i64.wrap (b0 * a2) = B
  b' : IntKind.i64.wrap (B * fn) = B'
  x : IntKind.i64.wrap (A' + B') = X
  c : IntKind.i64.wrap (a1 * b2) = C
  c' : IntKind.i64.wrap (C * F) = C'
  e : IntKind.i64.wrap (b1 * a2) = E
  e' : IntKind.i64.wrap (E * fn) = E'
  y : IntKind.i64.wrap (C' + E') = Y
  u : IntKind.i64.wrap (a2 * b2) = U
  d : IntKind.i64.wrap (U * fd) = D
  bx : -9223372036854775807 ≤ X ∧ X ≤ 9223372036854775807
  byy : -9223372036854775807 ≤ Y ∧ Y ≤ 9223372036854775807
  bd : 1 ≤ D ∧ D ≤ 9223372036854775807
  ex : X = mX a0 a2 b0 b2 fn fd
  ey : Y = mX a1 a2 b1 b2 fn fd
  ed : D = mD a2 b2 fd

theorem rm_all {a0 a1 a2 b0 b1 b2 fn fd : Int} (h : MB a0 a1 a2 b0 b1 b2 fn fd) : ∃ F A A' B B' C C' E E' U X Y D, RM a0 a1 a2 b0 b1 b2 fn fd F A A' B B' C C' E E' U X Y D := by
  obtain ⟨⟨ha1, ha2⟩, ⟨hb1, hb2⟩, ⟨hf1, hf2, hf3, hf4⟩, hx, hy, hz, hu⟩ := h
  have q1 := mul_b a0 b2 33554432 2048 (by omega) (by omega) (by omega) (by omega)
  have q2 := mul_b (a0 * b2) (fd - fn) 68719476736 1048576 (by omega) (by omega) (by omega) (by omega)
  have q3 := mul_b b0 a2 33554432 2048 (by omega) (by omega) (by omega) (by omega)
  have q4 := mul_b (b0 * a2) fn 68719476736 1048576 (by omega) (by omega) (by omega) (by omega)
  have q5 := mul_b a1 b2 33554432 2048 (by omega) (by omega) (by omega) (by omega)
  have q6 := mul_b (a1 * b2) (fd - fn) 68719476736 1048576 (by omega) (by omega) (by omega) (by omega)
  have q7 := mul_b b1 a2 33554432 2048 (by omega) (by omega) (by omega) (by omega)
  have q8 := mul_b (b1 * a2) fn 68719476736 1048576 (by omega) (by omega) (by omega) (by omega)
  have q9 := mul_p a2 b2 2048 2048 (by omega) (by omega)
  have q10 := mul_p (a2 * b2) fd 4194304 1048576 (by omega) (by omega)
  exact ⟨_, _, _, _, _, _, _, _, _, _, _, _, _, IntWalk.i64_in _ (by omega), IntWalk.i64_in _ (by omega), IntWalk.i64_in _ (by omega), IntWalk.i64_in _ (by omega), IntWalk.i64_in _ (by omega), IntWalk.i64_in _ (by omega), IntWalk.i64_in _ (by omega), IntWalk.i64_in _ (by omega), IntWalk.i64_in _ (by omega), IntWalk.i64_in _ (by omega), IntWalk.i64_in _ (by omega), IntWalk.i64_in _ (by omega), IntWalk.i64_in _ (by omega), by omega, by omega, by omega, rm_x a0 a2 b0 b2 fn fd, rm_x a1 a2 b1 b2 fn fd, rm_d a2 b2 fd⟩

theorem rm_quo {X G : Int} (h : -9223372036854775807 ≤ X ∧ X ≤ 9223372036854775807) : IntKind.i64.wrap (X.tdiv G) = X.tdiv G := by
  have h1 := Int.natAbs_tdiv_le_natAbs X G
  exact IntWalk.i64_in _ (by omega)

set_option maxRecDepth 100000 in
set_option maxHeartbeats 8000000 in
theorem rmove_any (a0 a1 a2 b0 b1 b2 fn fd : Int) (w : World) :
    Calls Try.prog 39 #[.agg #[.int .i64 a0, .int .i64 a1, .int .i64 a2], .agg #[.int .i64 b0, .int .i64 b1, .int .i64 b2], .agg #[.int .i64 fn, .int .i64 fd]] w fun e w' => e = .returned (.tuple #[.agg #[.int .i64 (mv0 a0 a1 a2 b0 b1 b2 fn fd), .int .i64 (mv1 a0 a1 a2 b0 b1 b2 fn fd), .int .i64 (mv2 a0 a1 a2 b0 b1 b2 fn fd)], .bool (mvI a0 a1 a2 b0 b1 b2 fn fd)]) ∧ Below w.heap.size w w' := by
  have C0 := has4 (w := w) [.int .i64 a0, .int .i64 a1, .int .i64 a2] [.int .i64 b0, .int .i64 b1, .int .i64 b2] [.int .i64 fn, .int .i64 fd] [.int .i64 0, .int .i64 0, .int .i64 0] 34 34 50 34
  cases h0 : rs a0 a1 a2
  · have HV := Lib.hid (mv_no (a0 := a0) (a1 := a1) (a2 := a2) (b0 := b0) (b1 := b1) (b2 := b2) (fn := fn) (fd := fd) (mvI_0 h0))
    have H0 := Lib.hid h0
    clear h0
    go_enter Try.func39, Try.ntmps39
    go_wp2_with fail
    change Has w _ ((((w.alloc (.cells #[.int .i64 a0, .int .i64 a1, .int .i64 a2] 34)).alloc (.cells #[.int .i64 b0, .int .i64 b1, .int .i64 b2] 34)).alloc (.cells #[.int .i64 fn, .int .i64 fd] 50)).alloc (.cells #[.int .i64 0, .int .i64 0, .int .i64 0] 34)) at C0
    generalize (((w.alloc (.cells #[.int .i64 a0, .int .i64 a1, .int .i64 a2] 34)).alloc (.cells #[.int .i64 b0, .int .i64 b1, .int .i64 b2] 34)).alloc (.cells #[.int .i64 fn, .int .i64 fd] 50)).alloc (.cells #[.int .i64 0, .int .i64 0, .int .i64 0] 34) = w0 at *
    have k0 := C0.fact (.head _) (i := 0) rfl
    have k1 := C0.fact (.head _) (i := 1) rfl
    have k2 := C0.fact (.head _) (i := 2) rfl
    have k3 := C0.tail.fact (.head _) (i := 0) rfl
    have k4 := C0.tail.fact (.head _) (i := 1) rfl
    have k5 := C0.tail.fact (.head _) (i := 2) rfl
    have k6 := C0.tail.tail.fact (.head _) (i := 0) rfl
    have k7 := C0.tail.tail.fact (.head _) (i := 1) rfl
    have k8 := C0.tail.tail.tail.fact (.head _) (i := 0) rfl
    have k9 := C0.tail.tail.tail.fact (.head _) (i := 1) rfl
    have k10 := C0.tail.tail.tail.fact (.head _) (i := 2) rfl
    have f0 := C0.tail.tail.tail.free (.head _) (i := 0) rfl
    have f1 := C0.tail.tail.tail.free (.head _) (i := 1) rfl
    have f2 := C0.tail.tail.tail.free (.head _) (i := 2) rfl
    go_wp2_with fail
    refine (Has.call C0 (rspot_is a0 a1 a2 _ H0.out _)).mono ?_
    rintro e w1 ⟨rfl, C1⟩
    clear k0 k1 k2 k3 k4 k5 k6 k7 k8 k9 k10 f0 f1 f2
    have k0 := C1.fact (.head _) (i := 0) rfl
    have k1 := C1.fact (.head _) (i := 1) rfl
    have k2 := C1.fact (.head _) (i := 2) rfl
    have k3 := C1.tail.fact (.head _) (i := 0) rfl
    have k4 := C1.tail.fact (.head _) (i := 1) rfl
    have k5 := C1.tail.fact (.head _) (i := 2) rfl
    have k6 := C1.tail.tail.fact (.head _) (i := 0) rfl
    have k7 := C1.tail.tail.fact (.head _) (i := 1) rfl
    have k8 := C1.tail.tail.tail.fact (.head _) (i := 0) rfl
    have k9 := C1.tail.tail.tail.fact (.head _) (i := 1) rfl
    have k10 := C1.tail.tail.tail.fact (.head _) (i := 2) rfl
    have f0 := C1.tail.tail.tail.free (.head _) (i := 0) rfl
    have f1 := C1.tail.tail.tail.free (.head _) (i := 1) rfl
    have f2 := C1.tail.tail.tail.free (.head _) (i := 2) rfl
    go_wp2_with fail
    have D3 := C1.fourth.set3 (.int .i64 0) (.int .i64 0) (.int .i64 0)
    generalize ((World.setCell w1 ⟨w.heap.size + 3, 0, none⟩ (.int .i64 0)).setCell ⟨w.heap.size + 3, 1, none⟩ (.int .i64 0)).setCell ⟨w.heap.size + 3, 2, none⟩ (.int .i64 0) = w9 at *
    have d0 := D3.fact (.head _) (i := 0) rfl
    have d1 := D3.fact (.head _) (i := 1) rfl
    have d2 := D3.fact (.head _) (i := 2) rfl
    exact bodyPost_ret (v := .tuple #[.agg #[.int .i64 0, .int .i64 0, .int .i64 0], .bool false]) (by simp [results, Try.results39, go_sem, d0, d1, d2]) rfl ⟨HV.out, D3.low⟩
  · skip
    cases h1 : rs b0 b1 b2
    · have HV := Lib.hid (mv_no (a0 := a0) (a1 := a1) (a2 := a2) (b0 := b0) (b1 := b1) (b2 := b2) (fn := fn) (fd := fd) (mvI_1 h1))
      have H0 := Lib.hid h0
      have H1 := Lib.hid h1
      clear h0 h1
      go_enter Try.func39, Try.ntmps39
      go_wp2_with fail
      change Has w _ ((((w.alloc (.cells #[.int .i64 a0, .int .i64 a1, .int .i64 a2] 34)).alloc (.cells #[.int .i64 b0, .int .i64 b1, .int .i64 b2] 34)).alloc (.cells #[.int .i64 fn, .int .i64 fd] 50)).alloc (.cells #[.int .i64 0, .int .i64 0, .int .i64 0] 34)) at C0
      generalize (((w.alloc (.cells #[.int .i64 a0, .int .i64 a1, .int .i64 a2] 34)).alloc (.cells #[.int .i64 b0, .int .i64 b1, .int .i64 b2] 34)).alloc (.cells #[.int .i64 fn, .int .i64 fd] 50)).alloc (.cells #[.int .i64 0, .int .i64 0, .int .i64 0] 34) = w0 at *
      have k0 := C0.fact (.head _) (i := 0) rfl
      have k1 := C0.fact (.head _) (i := 1) rfl
      have k2 := C0.fact (.head _) (i := 2) rfl
      have k3 := C0.tail.fact (.head _) (i := 0) rfl
      have k4 := C0.tail.fact (.head _) (i := 1) rfl
      have k5 := C0.tail.fact (.head _) (i := 2) rfl
      have k6 := C0.tail.tail.fact (.head _) (i := 0) rfl
      have k7 := C0.tail.tail.fact (.head _) (i := 1) rfl
      have k8 := C0.tail.tail.tail.fact (.head _) (i := 0) rfl
      have k9 := C0.tail.tail.tail.fact (.head _) (i := 1) rfl
      have k10 := C0.tail.tail.tail.fact (.head _) (i := 2) rfl
      have f0 := C0.tail.tail.tail.free (.head _) (i := 0) rfl
      have f1 := C0.tail.tail.tail.free (.head _) (i := 1) rfl
      have f2 := C0.tail.tail.tail.free (.head _) (i := 2) rfl
      go_wp2_with fail
      refine (Has.call C0 (rspot_is a0 a1 a2 _ H0.out _)).mono ?_
      rintro e w1 ⟨rfl, C1⟩
      clear k0 k1 k2 k3 k4 k5 k6 k7 k8 k9 k10 f0 f1 f2
      have k0 := C1.fact (.head _) (i := 0) rfl
      have k1 := C1.fact (.head _) (i := 1) rfl
      have k2 := C1.fact (.head _) (i := 2) rfl
      have k3 := C1.tail.fact (.head _) (i := 0) rfl
      have k4 := C1.tail.fact (.head _) (i := 1) rfl
      have k5 := C1.tail.fact (.head _) (i := 2) rfl
      have k6 := C1.tail.tail.fact (.head _) (i := 0) rfl
      have k7 := C1.tail.tail.fact (.head _) (i := 1) rfl
      have k8 := C1.tail.tail.tail.fact (.head _) (i := 0) rfl
      have k9 := C1.tail.tail.tail.fact (.head _) (i := 1) rfl
      have k10 := C1.tail.tail.tail.fact (.head _) (i := 2) rfl
      have f0 := C1.tail.tail.tail.free (.head _) (i := 0) rfl
      have f1 := C1.tail.tail.tail.free (.head _) (i := 1) rfl
      have f2 := C1.tail.tail.tail.free (.head _) (i := 2) rfl
      go_wp2_with fail
      refine (Has.call C1 (rspot_is b0 b1 b2 _ H1.out _)).mono ?_
      rintro e w2 ⟨rfl, C2⟩
      clear k0 k1 k2 k3 k4 k5 k6 k7 k8 k9 k10 f0 f1 f2
      have k0 := C2.fact (.head _) (i := 0) rfl
      have k1 := C2.fact (.head _) (i := 1) rfl
      have k2 := C2.fact (.head _) (i := 2) rfl
      have k3 := C2.tail.fact (.head _) (i := 0) rfl
      have k4 := C2.tail.fact (.head _) (i := 1) rfl
      have k5 := C2.tail.fact (.head _) (i := 2) rfl
      have k6 := C2.tail.tail.fact (.head _) (i := 0) rfl
      have k7 := C2.tail.tail.fact (.head _) (i := 1) rfl
      have k8 := C2.tail.tail.tail.fact (.head _) (i := 0) rfl
      have k9 := C2.tail.tail.tail.fact (.head _) (i := 1) rfl
      have k10 := C2.tail.tail.tail.fact (.head _) (i := 2) rfl
      have f0 := C2.tail.tail.tail.free (.head _) (i := 0) rfl
      have f1 := C2.tail.tail.tail.free (.head _) (i := 1) rfl
      have f2 := C2.tail.tail.tail.free (.head _) (i := 2) rfl
      go_wp2_with fail
      have D3 := C2.fourth.set3 (.int .i64 0) (.int .i64 0) (.int .i64 0)
      generalize ((World.setCell w2 ⟨w.heap.size + 3, 0, none⟩ (.int .i64 0)).setCell ⟨w.heap.size + 3, 1, none⟩ (.int .i64 0)).setCell ⟨w.heap.size + 3, 2, none⟩ (.int .i64 0) = w9 at *
      have d0 := D3.fact (.head _) (i := 0) rfl
      have d1 := D3.fact (.head _) (i := 1) rfl
      have d2 := D3.fact (.head _) (i := 2) rfl
      exact bodyPost_ret (v := .tuple #[.agg #[.int .i64 0, .int .i64 0, .int .i64 0], .bool false]) (by simp [results, Try.results39, go_sem, d0, d1, d2]) rfl ⟨HV.out, D3.low⟩
    · skip
      cases h2 : btw 1 fd 1048576
      · have HV := Lib.hid (mv_no (a0 := a0) (a1 := a1) (a2 := a2) (b0 := b0) (b1 := b1) (b2 := b2) (fn := fn) (fd := fd) (mvI_2 (by unfold rf; rw [h2]; rfl)))
        have H0 := Lib.hid h0
        have H1 := Lib.hid h1
        have H2 := Lib.hid h2
        clear h0 h1 h2
        go_enter Try.func39, Try.ntmps39
        go_wp2_with fail
        change Has w _ ((((w.alloc (.cells #[.int .i64 a0, .int .i64 a1, .int .i64 a2] 34)).alloc (.cells #[.int .i64 b0, .int .i64 b1, .int .i64 b2] 34)).alloc (.cells #[.int .i64 fn, .int .i64 fd] 50)).alloc (.cells #[.int .i64 0, .int .i64 0, .int .i64 0] 34)) at C0
        generalize (((w.alloc (.cells #[.int .i64 a0, .int .i64 a1, .int .i64 a2] 34)).alloc (.cells #[.int .i64 b0, .int .i64 b1, .int .i64 b2] 34)).alloc (.cells #[.int .i64 fn, .int .i64 fd] 50)).alloc (.cells #[.int .i64 0, .int .i64 0, .int .i64 0] 34) = w0 at *
        have k0 := C0.fact (.head _) (i := 0) rfl
        have k1 := C0.fact (.head _) (i := 1) rfl
        have k2 := C0.fact (.head _) (i := 2) rfl
        have k3 := C0.tail.fact (.head _) (i := 0) rfl
        have k4 := C0.tail.fact (.head _) (i := 1) rfl
        have k5 := C0.tail.fact (.head _) (i := 2) rfl
        have k6 := C0.tail.tail.fact (.head _) (i := 0) rfl
        have k7 := C0.tail.tail.fact (.head _) (i := 1) rfl
        have k8 := C0.tail.tail.tail.fact (.head _) (i := 0) rfl
        have k9 := C0.tail.tail.tail.fact (.head _) (i := 1) rfl
        have k10 := C0.tail.tail.tail.fact (.head _) (i := 2) rfl
        have f0 := C0.tail.tail.tail.free (.head _) (i := 0) rfl
        have f1 := C0.tail.tail.tail.free (.head _) (i := 1) rfl
        have f2 := C0.tail.tail.tail.free (.head _) (i := 2) rfl
        go_wp2_with fail
        refine (Has.call C0 (rspot_is a0 a1 a2 _ H0.out _)).mono ?_
        rintro e w1 ⟨rfl, C1⟩
        clear k0 k1 k2 k3 k4 k5 k6 k7 k8 k9 k10 f0 f1 f2
        have k0 := C1.fact (.head _) (i := 0) rfl
        have k1 := C1.fact (.head _) (i := 1) rfl
        have k2 := C1.fact (.head _) (i := 2) rfl
        have k3 := C1.tail.fact (.head _) (i := 0) rfl
        have k4 := C1.tail.fact (.head _) (i := 1) rfl
        have k5 := C1.tail.fact (.head _) (i := 2) rfl
        have k6 := C1.tail.tail.fact (.head _) (i := 0) rfl
        have k7 := C1.tail.tail.fact (.head _) (i := 1) rfl
        have k8 := C1.tail.tail.tail.fact (.head _) (i := 0) rfl
        have k9 := C1.tail.tail.tail.fact (.head _) (i := 1) rfl
        have k10 := C1.tail.tail.tail.fact (.head _) (i := 2) rfl
        have f0 := C1.tail.tail.tail.free (.head _) (i := 0) rfl
        have f1 := C1.tail.tail.tail.free (.head _) (i := 1) rfl
        have f2 := C1.tail.tail.tail.free (.head _) (i := 2) rfl
        go_wp2_with fail
        refine (Has.call C1 (rspot_is b0 b1 b2 _ H1.out _)).mono ?_
        rintro e w2 ⟨rfl, C2⟩
        clear k0 k1 k2 k3 k4 k5 k6 k7 k8 k9 k10 f0 f1 f2
        have k0 := C2.fact (.head _) (i := 0) rfl
        have k1 := C2.fact (.head _) (i := 1) rfl
        have k2 := C2.fact (.head _) (i := 2) rfl
        have k3 := C2.tail.fact (.head _) (i := 0) rfl
        have k4 := C2.tail.fact (.head _) (i := 1) rfl
        have k5 := C2.tail.fact (.head _) (i := 2) rfl
        have k6 := C2.tail.tail.fact (.head _) (i := 0) rfl
        have k7 := C2.tail.tail.fact (.head _) (i := 1) rfl
        have k8 := C2.tail.tail.tail.fact (.head _) (i := 0) rfl
        have k9 := C2.tail.tail.tail.fact (.head _) (i := 1) rfl
        have k10 := C2.tail.tail.tail.fact (.head _) (i := 2) rfl
        have f0 := C2.tail.tail.tail.free (.head _) (i := 0) rfl
        have f1 := C2.tail.tail.tail.free (.head _) (i := 1) rfl
        have f2 := C2.tail.tail.tail.free (.head _) (i := 2) rfl
        go_wp2_with fail
        refine (between_is _ _ _ _ H2.out _).mono ?_
        rintro e w' ⟨rfl, rfl⟩
        go_wp2_with fail
        have D3 := C2.fourth.set3 (.int .i64 0) (.int .i64 0) (.int .i64 0)
        generalize ((World.setCell w2 ⟨w.heap.size + 3, 0, none⟩ (.int .i64 0)).setCell ⟨w.heap.size + 3, 1, none⟩ (.int .i64 0)).setCell ⟨w.heap.size + 3, 2, none⟩ (.int .i64 0) = w9 at *
        have d0 := D3.fact (.head _) (i := 0) rfl
        have d1 := D3.fact (.head _) (i := 1) rfl
        have d2 := D3.fact (.head _) (i := 2) rfl
        exact bodyPost_ret (v := .tuple #[.agg #[.int .i64 0, .int .i64 0, .int .i64 0], .bool false]) (by simp [results, Try.results39, go_sem, d0, d1, d2]) rfl ⟨HV.out, D3.low⟩
      · cases h3 : btw 0 fn fd
        · have HV := Lib.hid (mv_no (a0 := a0) (a1 := a1) (a2 := a2) (b0 := b0) (b1 := b1) (b2 := b2) (fn := fn) (fd := fd) (mvI_2 (by unfold rf; rw [h2, h3]; rfl)))
          have H0 := Lib.hid h0
          have H1 := Lib.hid h1
          have H2 := Lib.hid h2
          have H3 := Lib.hid h3
          clear h0 h1 h2 h3
          go_enter Try.func39, Try.ntmps39
          go_wp2_with fail
          change Has w _ ((((w.alloc (.cells #[.int .i64 a0, .int .i64 a1, .int .i64 a2] 34)).alloc (.cells #[.int .i64 b0, .int .i64 b1, .int .i64 b2] 34)).alloc (.cells #[.int .i64 fn, .int .i64 fd] 50)).alloc (.cells #[.int .i64 0, .int .i64 0, .int .i64 0] 34)) at C0
          generalize (((w.alloc (.cells #[.int .i64 a0, .int .i64 a1, .int .i64 a2] 34)).alloc (.cells #[.int .i64 b0, .int .i64 b1, .int .i64 b2] 34)).alloc (.cells #[.int .i64 fn, .int .i64 fd] 50)).alloc (.cells #[.int .i64 0, .int .i64 0, .int .i64 0] 34) = w0 at *
          have k0 := C0.fact (.head _) (i := 0) rfl
          have k1 := C0.fact (.head _) (i := 1) rfl
          have k2 := C0.fact (.head _) (i := 2) rfl
          have k3 := C0.tail.fact (.head _) (i := 0) rfl
          have k4 := C0.tail.fact (.head _) (i := 1) rfl
          have k5 := C0.tail.fact (.head _) (i := 2) rfl
          have k6 := C0.tail.tail.fact (.head _) (i := 0) rfl
          have k7 := C0.tail.tail.fact (.head _) (i := 1) rfl
          have k8 := C0.tail.tail.tail.fact (.head _) (i := 0) rfl
          have k9 := C0.tail.tail.tail.fact (.head _) (i := 1) rfl
          have k10 := C0.tail.tail.tail.fact (.head _) (i := 2) rfl
          have f0 := C0.tail.tail.tail.free (.head _) (i := 0) rfl
          have f1 := C0.tail.tail.tail.free (.head _) (i := 1) rfl
          have f2 := C0.tail.tail.tail.free (.head _) (i := 2) rfl
          go_wp2_with fail
          refine (Has.call C0 (rspot_is a0 a1 a2 _ H0.out _)).mono ?_
          rintro e w1 ⟨rfl, C1⟩
          clear k0 k1 k2 k3 k4 k5 k6 k7 k8 k9 k10 f0 f1 f2
          have k0 := C1.fact (.head _) (i := 0) rfl
          have k1 := C1.fact (.head _) (i := 1) rfl
          have k2 := C1.fact (.head _) (i := 2) rfl
          have k3 := C1.tail.fact (.head _) (i := 0) rfl
          have k4 := C1.tail.fact (.head _) (i := 1) rfl
          have k5 := C1.tail.fact (.head _) (i := 2) rfl
          have k6 := C1.tail.tail.fact (.head _) (i := 0) rfl
          have k7 := C1.tail.tail.fact (.head _) (i := 1) rfl
          have k8 := C1.tail.tail.tail.fact (.head _) (i := 0) rfl
          have k9 := C1.tail.tail.tail.fact (.head _) (i := 1) rfl
          have k10 := C1.tail.tail.tail.fact (.head _) (i := 2) rfl
          have f0 := C1.tail.tail.tail.free (.head _) (i := 0) rfl
          have f1 := C1.tail.tail.tail.free (.head _) (i := 1) rfl
          have f2 := C1.tail.tail.tail.free (.head _) (i := 2) rfl
          go_wp2_with fail
          refine (Has.call C1 (rspot_is b0 b1 b2 _ H1.out _)).mono ?_
          rintro e w2 ⟨rfl, C2⟩
          clear k0 k1 k2 k3 k4 k5 k6 k7 k8 k9 k10 f0 f1 f2
          have k0 := C2.fact (.head _) (i := 0) rfl
          have k1 := C2.fact (.head _) (i := 1) rfl
          have k2 := C2.fact (.head _) (i := 2) rfl
          have k3 := C2.tail.fact (.head _) (i := 0) rfl
          have k4 := C2.tail.fact (.head _) (i := 1) rfl
          have k5 := C2.tail.fact (.head _) (i := 2) rfl
          have k6 := C2.tail.tail.fact (.head _) (i := 0) rfl
          have k7 := C2.tail.tail.fact (.head _) (i := 1) rfl
          have k8 := C2.tail.tail.tail.fact (.head _) (i := 0) rfl
          have k9 := C2.tail.tail.tail.fact (.head _) (i := 1) rfl
          have k10 := C2.tail.tail.tail.fact (.head _) (i := 2) rfl
          have f0 := C2.tail.tail.tail.free (.head _) (i := 0) rfl
          have f1 := C2.tail.tail.tail.free (.head _) (i := 1) rfl
          have f2 := C2.tail.tail.tail.free (.head _) (i := 2) rfl
          go_wp2_with fail
          refine (between_is _ _ _ _ H2.out _).mono ?_
          rintro e w' ⟨rfl, rfl⟩
          go_wp2_with fail
          refine (between_is _ _ _ _ H3.out _).mono ?_
          rintro e w' ⟨rfl, rfl⟩
          go_wp2_with fail
          have D3 := C2.fourth.set3 (.int .i64 0) (.int .i64 0) (.int .i64 0)
          generalize ((World.setCell w2 ⟨w.heap.size + 3, 0, none⟩ (.int .i64 0)).setCell ⟨w.heap.size + 3, 1, none⟩ (.int .i64 0)).setCell ⟨w.heap.size + 3, 2, none⟩ (.int .i64 0) = w9 at *
          have d0 := D3.fact (.head _) (i := 0) rfl
          have d1 := D3.fact (.head _) (i := 1) rfl
          have d2 := D3.fact (.head _) (i := 2) rfl
          exact bodyPost_ret (v := .tuple #[.agg #[.int .i64 0, .int .i64 0, .int .i64 0], .bool false]) (by simp [results, Try.results39, go_sem, d0, d1, d2]) rfl ⟨HV.out, D3.low⟩
        · skip
          have h4 : rf fn fd = true := by unfold rf; rw [h2, h3]; rfl
          have hI := mvI_3 h0 h1 h4
          obtain ⟨F, A, A', B, B', C, C', E, E', U, X, Y, D, R⟩ := rm_all (mb h0 h1 h4)
          have e1 := R.f
          have e2 := R.a
          have e3 := R.a'
          have e4 := R.b
          have e5 := R.b'
          have e6 := R.x
          have e7 := R.c
          have e8 := R.c'
          have e9 := R.e
          have e10 := R.e'
          have e11 := R.y
          have e12 := R.u
          have e13 := R.d
          obtain ⟨G, hG⟩ : ∃ G, gcdOf (gcdOf X Y) D = G := ⟨_, rfl⟩
          have bd := R.bd
          obtain ⟨g1, g2, g3⟩ := gcdOf_bd (gcdOf X Y) D (by omega)
          rw [hG] at g1
          clear g2 g3
          have g4 := rm_quo (G := G) R.bx
          have g5 := rm_quo (G := G) R.byy
          have g6 : IntKind.i64.wrap (D.tdiv G) = D / G := by rw [rm_quo (by omega)]; exact Int.tdiv_eq_ediv_of_nonneg (by omega)
          have HV := Lib.hid (show Ending.returned (.tuple #[.agg #[.int .i64 (X.tdiv G), .int .i64 (Y.tdiv G), .int .i64 (D / G)], .bool true]) = .returned (.tuple #[.agg #[.int .i64 (mv0 a0 a1 a2 b0 b1 b2 fn fd), .int .i64 (mv1 a0 a1 a2 b0 b1 b2 fn fd), .int .i64 (mv2 a0 a1 a2 b0 b1 b2 fn fd)], .bool (mvI a0 a1 a2 b0 b1 b2 fn fd)]) by
            unfold mv0 mv1 mv2
            rw [if_pos hI, if_pos hI, if_pos hI, hI]
            unfold mG
            rw [← R.ex, ← R.ey, ← R.ed, hG])
          have HI := Lib.hid (gcdOf_I X Y)
          have HX := Lib.hid (show I64 X by have := R.bx; unfold I64; omega)
          have HY := Lib.hid (show I64 Y by have := R.byy; unfold I64; omega)
          have HD := Lib.hid (show I64 D by unfold I64; omega)
          have HG := Lib.hid hG
          have G0 := Lib.hid g1
          have H0 := Lib.hid h0
          have H1 := Lib.hid h1
          have H2 := Lib.hid h2
          have H3 := Lib.hid h3
          clear h0 h1 h2 h3 h4 hI hG g1 bd R
          go_enter Try.func39, Try.ntmps39
          go_wp2_with fail
          change Has w _ ((((w.alloc (.cells #[.int .i64 a0, .int .i64 a1, .int .i64 a2] 34)).alloc (.cells #[.int .i64 b0, .int .i64 b1, .int .i64 b2] 34)).alloc (.cells #[.int .i64 fn, .int .i64 fd] 50)).alloc (.cells #[.int .i64 0, .int .i64 0, .int .i64 0] 34)) at C0
          generalize (((w.alloc (.cells #[.int .i64 a0, .int .i64 a1, .int .i64 a2] 34)).alloc (.cells #[.int .i64 b0, .int .i64 b1, .int .i64 b2] 34)).alloc (.cells #[.int .i64 fn, .int .i64 fd] 50)).alloc (.cells #[.int .i64 0, .int .i64 0, .int .i64 0] 34) = w0 at *
          have k0 := C0.fact (.head _) (i := 0) rfl
          have k1 := C0.fact (.head _) (i := 1) rfl
          have k2 := C0.fact (.head _) (i := 2) rfl
          have k3 := C0.tail.fact (.head _) (i := 0) rfl
          have k4 := C0.tail.fact (.head _) (i := 1) rfl
          have k5 := C0.tail.fact (.head _) (i := 2) rfl
          have k6 := C0.tail.tail.fact (.head _) (i := 0) rfl
          have k7 := C0.tail.tail.fact (.head _) (i := 1) rfl
          have k8 := C0.tail.tail.tail.fact (.head _) (i := 0) rfl
          have k9 := C0.tail.tail.tail.fact (.head _) (i := 1) rfl
          have k10 := C0.tail.tail.tail.fact (.head _) (i := 2) rfl
          have f0 := C0.tail.tail.tail.free (.head _) (i := 0) rfl
          have f1 := C0.tail.tail.tail.free (.head _) (i := 1) rfl
          have f2 := C0.tail.tail.tail.free (.head _) (i := 2) rfl
          go_wp2_with fail
          refine (Has.call C0 (rspot_is a0 a1 a2 _ H0.out _)).mono ?_
          rintro e w1 ⟨rfl, C1⟩
          clear k0 k1 k2 k3 k4 k5 k6 k7 k8 k9 k10 f0 f1 f2
          have k0 := C1.fact (.head _) (i := 0) rfl
          have k1 := C1.fact (.head _) (i := 1) rfl
          have k2 := C1.fact (.head _) (i := 2) rfl
          have k3 := C1.tail.fact (.head _) (i := 0) rfl
          have k4 := C1.tail.fact (.head _) (i := 1) rfl
          have k5 := C1.tail.fact (.head _) (i := 2) rfl
          have k6 := C1.tail.tail.fact (.head _) (i := 0) rfl
          have k7 := C1.tail.tail.fact (.head _) (i := 1) rfl
          have k8 := C1.tail.tail.tail.fact (.head _) (i := 0) rfl
          have k9 := C1.tail.tail.tail.fact (.head _) (i := 1) rfl
          have k10 := C1.tail.tail.tail.fact (.head _) (i := 2) rfl
          have f0 := C1.tail.tail.tail.free (.head _) (i := 0) rfl
          have f1 := C1.tail.tail.tail.free (.head _) (i := 1) rfl
          have f2 := C1.tail.tail.tail.free (.head _) (i := 2) rfl
          go_wp2_with fail
          refine (Has.call C1 (rspot_is b0 b1 b2 _ H1.out _)).mono ?_
          rintro e w2 ⟨rfl, C2⟩
          clear k0 k1 k2 k3 k4 k5 k6 k7 k8 k9 k10 f0 f1 f2
          have k0 := C2.fact (.head _) (i := 0) rfl
          have k1 := C2.fact (.head _) (i := 1) rfl
          have k2 := C2.fact (.head _) (i := 2) rfl
          have k3 := C2.tail.fact (.head _) (i := 0) rfl
          have k4 := C2.tail.fact (.head _) (i := 1) rfl
          have k5 := C2.tail.fact (.head _) (i := 2) rfl
          have k6 := C2.tail.tail.fact (.head _) (i := 0) rfl
          have k7 := C2.tail.tail.fact (.head _) (i := 1) rfl
          have k8 := C2.tail.tail.tail.fact (.head _) (i := 0) rfl
          have k9 := C2.tail.tail.tail.fact (.head _) (i := 1) rfl
          have k10 := C2.tail.tail.tail.fact (.head _) (i := 2) rfl
          have f0 := C2.tail.tail.tail.free (.head _) (i := 0) rfl
          have f1 := C2.tail.tail.tail.free (.head _) (i := 1) rfl
          have f2 := C2.tail.tail.tail.free (.head _) (i := 2) rfl
          go_wp2_with fail
          refine (between_is _ _ _ _ H2.out _).mono ?_
          rintro e w' ⟨rfl, rfl⟩
          go_wp2_with fail
          refine (between_is _ _ _ _ H3.out _).mono ?_
          rintro e w' ⟨rfl, rfl⟩
          go_wp2_with fail
          refine (Has.call C2 (rgcd_any X Y _ HX.out HY.out)).mono ?_
          rintro e w3 ⟨rfl, C3⟩
          clear e1 e2 e3 e4 e5 e6 e7 e8 e9 e10 e11 e12 e13
          go_wp2_with fail
          refine (Has.call C3 (rgcd_any _ D _ HI.out HD.out)).mono ?_
          rintro e w4 ⟨rfl, C4⟩
          clear k0 k1 k2 k3 k4 k5 k6 k7 k8 k9 k10 f0 f1 f2
          have k0 := C4.fact (.head _) (i := 0) rfl
          have k1 := C4.fact (.head _) (i := 1) rfl
          have k2 := C4.fact (.head _) (i := 2) rfl
          have k3 := C4.tail.fact (.head _) (i := 0) rfl
          have k4 := C4.tail.fact (.head _) (i := 1) rfl
          have k5 := C4.tail.fact (.head _) (i := 2) rfl
          have k6 := C4.tail.tail.fact (.head _) (i := 0) rfl
          have k7 := C4.tail.tail.fact (.head _) (i := 1) rfl
          have k8 := C4.tail.tail.tail.fact (.head _) (i := 0) rfl
          have k9 := C4.tail.tail.tail.fact (.head _) (i := 1) rfl
          have k10 := C4.tail.tail.tail.fact (.head _) (i := 2) rfl
          have f0 := C4.tail.tail.tail.free (.head _) (i := 0) rfl
          have f1 := C4.tail.tail.tail.free (.head _) (i := 1) rfl
          have f2 := C4.tail.tail.tail.free (.head _) (i := 2) rfl
          rw [HG.out]
          have e0 : (G == 0) = false := by rw [beq_eq_false_iff_ne]; have := G0.out; omega
          have e1 : ¬ G = 0 := by have := G0.out; omega
          go_wp2_with fail
          go_region
          have D3 := (C4.fourth.set3 (.int .i64 (X.tdiv G)) (.int .i64 (Y.tdiv G)) (.int .i64 (D / G))).drew
          generalize (((World.setCell w4 ⟨w.heap.size + 3, 0, none⟩ (.int .i64 (X.tdiv G))).setCell ⟨w.heap.size + 3, 1, none⟩ (.int .i64 (Y.tdiv G))).setCell ⟨w.heap.size + 3, 2, none⟩ (.int .i64 (D / G))).drew = w9 at *
          have d0 := D3.fact (.head _) (i := 0) rfl
          have d1 := D3.fact (.head _) (i := 1) rfl
          have d2 := D3.fact (.head _) (i := 2) rfl
          go_wp2_with fail
          exact bodyPost_ret (v := .tuple #[.agg #[.int .i64 (X.tdiv G), .int .i64 (Y.tdiv G), .int .i64 (D / G)], .bool true]) (by simp [results, Try.results39, go_sem, d0, d1, d2]) rfl ⟨HV.out, D3.low⟩

end Go.Proofs.Ytoehojopoajcaaa
