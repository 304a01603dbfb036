/- The examples of the chapter. -/
import Derived.Test.YtfcoblapbcdaiaaE9
namespace Go.Proofs.Ytfcoblapbcdaiaa
open Go.RowKit Go.Lib
attribute [local go_sem] Oper.semAt_some
theorem sc24 : scV 24 = 4 := sc_is (k := 4) (by omega) (.inr (by decide)) (.inr (by decide))
theorem sc25 : scV 25 = 5 := sc_is (k := 5) (by omega) (.inr (by decide)) (.inr (by decide))
theorem sc2m : scV 2000000 = 1024 := sc_is (k := 1024) (by omega) (.inr (by decide)) (.inl rfl)
set_option linter.unusedSimpArgs false in
set_option maxRecDepth 100000 in
set_option maxHeartbeats 8000000 in
theorem sane_any (w : World) : Calls Try.prog 8 #[] w fun e w' => e = .returned (.bool true) ∧ Below w.heap.size w w' := by
  have C0 := has2 (w := w) [.int .i64 0, .int .i64 3, .int .i64 0, .int .i64 0, .int .i64 0, .int .i64 0, .int .i64 5, .int .i64 0, .int .i64 0, .int .i64 0, .int .i64 0, .int .i64 100, .int .i64 0, .int .i64 0, .int .i64 0] [.int .i64 0, .slice (some ⟨w.heap.size, 0, none⟩) 3 3] 30 25
  change Has w _ ((w.alloc (.cells #[.int .i64 0, .int .i64 3, .int .i64 0, .int .i64 0, .int .i64 0, .int .i64 0, .int .i64 5, .int .i64 0, .int .i64 0, .int .i64 0, .int .i64 0, .int .i64 100, .int .i64 0, .int .i64 0, .int .i64 0] 30)).alloc (.cells #[.int .i64 0, .slice (some ⟨w.heap.size, 0, none⟩) 3 3] 25)) at C0
  go_enter Try.func8, Try.ntmps8
  go_wp2_with fail
  generalize (w.alloc (.cells #[.int .i64 0, .int .i64 3, .int .i64 0, .int .i64 0, .int .i64 0, .int .i64 0, .int .i64 5, .int .i64 0, .int .i64 0, .int .i64 0, .int .i64 0, .int .i64 100, .int .i64 0, .int .i64 0, .int .i64 0] 30)).alloc (.cells #[.int .i64 0, .slice (some ⟨w.heap.size, 0, none⟩) 3 3] 25) = w0 at *
  have k0 := C0.tail.fact (.head _) (i := 0) rfl
  have k1 := C0.tail.fact (.head _) (i := 1) rfl
  simp only at k0 k1
  go_wp2_with fail
  refine (Has.call C0 (done_any 0 (.slice (some ⟨w.heap.size, 0, none⟩) 3 3) H3 8 _ (row3 C0))).mono ?_
  rintro e w1 ⟨rfl, C1⟩
  rw [show doneN 8 H3 = 0 from by decide +kernel]
  clear k0 k1 C0
  have k0 := C1.tail.fact (.head _) (i := 0) rfl
  have k1 := C1.tail.fact (.head _) (i := 1) rfl
  simp only at k0 k1
  go_wp2_with fail
  refine (Has.call C1 (done_any 0 (.slice (some ⟨w.heap.size, 0, none⟩) 3 3) H3 9 _ (row3 C1))).mono ?_
  rintro e w2 ⟨rfl, C2⟩
  rw [show doneN 9 H3 = 1 from by decide +kernel]
  clear k0 k1 C1
  have k0 := C2.tail.fact (.head _) (i := 0) rfl
  have k1 := C2.tail.fact (.head _) (i := 1) rfl
  simp only at k0 k1
  go_wp2_with fail
  refine (Has.call C2 (done_any 0 (.slice (some ⟨w.heap.size, 0, none⟩) 3 3) H3 25 _ (row3 C2))).mono ?_
  rintro e w3 ⟨rfl, C3⟩
  rw [show doneN 25 H3 = 2 from by decide +kernel]
  clear k0 k1 C2
  have k0 := C3.tail.fact (.head _) (i := 0) rfl
  have k1 := C3.tail.fact (.head _) (i := 1) rfl
  simp only at k0 k1
  go_wp2_with fail
  refine (Has.call C3 (done_any 0 (.slice (some ⟨w.heap.size, 0, none⟩) 3 3) H3 10000 _ (row3 C3))).mono ?_
  rintro e w4 ⟨rfl, C4⟩
  rw [show doneN 10000 H3 = 3 from by decide +kernel]
  clear k0 k1 C3
  have k0 := C4.tail.fact (.head _) (i := 0) rfl
  have k1 := C4.tail.fact (.head _) (i := 1) rfl
  simp only at k0 k1
  go_wp2_with fail
  refine (Has.call C4 (doing_yes 0 (.slice (some ⟨w.heap.size, 0, none⟩) 3 3) H3 9 0 0 0 _ (by omega) (row3 C4) (by decide +kernel) (by decide +kernel) (by decide +kernel) (by decide +kernel))).mono ?_
  rintro e w5 ⟨rfl, C5⟩
  clear k0 k1 C4
  have k0 := C5.tail.fact (.head _) (i := 0) rfl
  have k1 := C5.tail.fact (.head _) (i := 1) rfl
  simp only at k0 k1
  go_wp2_with fail
  refine (Has.call C5 (doing_yes 0 (.slice (some ⟨w.heap.size, 0, none⟩) 3 3) H3 10 1 1 16 _ (by omega) (row3 C5) (by decide +kernel) (by decide +kernel) (by decide +kernel) (by decide +kernel))).mono ?_
  rintro e w6 ⟨rfl, C6⟩
  clear k0 k1 C5
  have k0 := C6.tail.fact (.head _) (i := 0) rfl
  have k1 := C6.tail.fact (.head _) (i := 1) rfl
  simp only at k0 k1
  go_wp2_with fail
  refine (Has.call C6 (doing_yes 0 (.slice (some ⟨w.heap.size, 0, none⟩) 3 3) H3 25 0 0 0 _ (by omega) (row3 C6) (by decide +kernel) (by decide +kernel) (by decide +kernel) (by decide +kernel))).mono ?_
  rintro e w7 ⟨rfl, C7⟩
  clear k0 k1 C6
  have k0 := C7.tail.fact (.head _) (i := 0) rfl
  have k1 := C7.tail.fact (.head _) (i := 1) rfl
  simp only at k0 k1
  go_wp2_with fail
  refine (Has.call C7 (doing_yes 0 (.slice (some ⟨w.heap.size, 0, none⟩) 3 3) H3 24 1 15 16 _ (by omega) (row3 C7) (by decide +kernel) (by decide +kernel) (by decide +kernel) (by decide +kernel))).mono ?_
  rintro e w8 ⟨rfl, C8⟩
  clear k0 k1 C7
  have k0 := C8.tail.fact (.head _) (i := 0) rfl
  have k1 := C8.tail.fact (.head _) (i := 1) rfl
  simp only at k0 k1
  go_wp2_with fail
  refine (Has.call C8 (doing_yes 0 (.slice (some ⟨w.heap.size, 0, none⟩) 3 3) H3 4 0 4 9 _ (by omega) (row3 C8) (by decide +kernel) (by decide +kernel) (by decide +kernel) (by decide +kernel))).mono ?_
  rintro e w9 ⟨rfl, C9⟩
  clear k0 k1 C8
  have k0 := C9.tail.fact (.head _) (i := 0) rfl
  have k1 := C9.tail.fact (.head _) (i := 1) rfl
  simp only at k0 k1
  go_wp2_with fail
  refine (Has.call C9 (doing_yes 0 (.slice (some ⟨w.heap.size, 0, none⟩) 3 3) H3 0 0 0 0 _ (by omega) (row3 C9) (by decide +kernel) (by decide +kernel) (by decide +kernel) (by decide +kernel))).mono ?_
  rintro e w10 ⟨rfl, C10⟩
  clear k0 k1 C9
  have k0 := C10.tail.fact (.head _) (i := 0) rfl
  have k1 := C10.tail.fact (.head _) (i := 1) rfl
  simp only at k0 k1
  go_wp2_with fail
  refine (Has.call C10 (doing_yes 0 (.slice (some ⟨w.heap.size, 0, none⟩) 3 3) H3 10000 0 0 0 _ (by omega) (row3 C10) (by decide +kernel) (by decide +kernel) (by decide +kernel) (by decide +kernel))).mono ?_
  rintro e w11 ⟨rfl, C11⟩
  clear k0 k1 C10
  have k0 := C11.tail.fact (.head _) (i := 0) rfl
  have k1 := C11.tail.fact (.head _) (i := 1) rfl
  simp only at k0 k1
  have X1 := C11.push [.int .i64 0, .int .i64 3, .int .i64 0, .int .i64 0, .int .i64 0, .int .i64 0, .int .i64 3, .int .i64 0, .int .i64 0, .int .i64 0] 30
  have X := X1.push [.int .i64 0, .slice (some ⟨w11.heap.size, 0, none⟩) 2 2] 25
  rw [size_alloc] at X
  change Has w _ ((w11.alloc (.cells #[.int .i64 0, .int .i64 3, .int .i64 0, .int .i64 0, .int .i64 0, .int .i64 0, .int .i64 3, .int .i64 0, .int .i64 0, .int .i64 0] 30)).alloc (.cells #[.int .i64 0, .slice (some ⟨w11.heap.size, 0, none⟩) 2 2] 25)) at X
  clear X1 k0 k1
  have k0 := X.tail.tail.tail.fact (.head _) (i := 0) rfl
  have k1 := X.tail.tail.tail.fact (.head _) (i := 1) rfl
  simp only at k0 k1
  go_wp2_with fail
  generalize (w11.alloc (.cells #[.int .i64 0, .int .i64 3, .int .i64 0, .int .i64 0, .int .i64 0, .int .i64 0, .int .i64 3, .int .i64 0, .int .i64 0, .int .i64 0] 30)).alloc (.cells #[.int .i64 0, .slice (some ⟨w11.heap.size, 0, none⟩) 2 2] 25) = y0 at *
  generalize w11.heap.size = S2 at *
  clear C11
  refine (Has.call X (check_any 0 (.slice (some ⟨w.heap.size, 0, none⟩) 3 3) H3 _ (row3 X.tail.tail))).mono ?_
  rintro e y1 ⟨rfl, X1⟩
  rw [show chkE H3 = 0 from by decide +kernel]
  clear k0 k1 X
  have k0 := X1.fact (.head _) (i := 0) rfl
  have k1 := X1.fact (.head _) (i := 1) rfl
  simp only at k0 k1
  go_wp2_with fail
  refine (Has.call X1 (check_any 0 (.slice (some ⟨S2, 0, none⟩) 2 2) H2 _ (row2 X1.tail))).mono ?_
  rintro e y2 ⟨rfl, X2⟩
  rw [show chkE H2 = 21 from by decide +kernel]
  clear k0 k1 X1
  have X3 := X2.push [.int .i64 0, .int .i64 0, .int .i64 0, .int .i64 0, .int .i64 0] 30
  change Has w _ (y2.alloc (.cells #[.int .i64 0, .int .i64 0, .int .i64 0, .int .i64 0, .int .i64 0] 30)) at X3
  go_wp2_with fail
  generalize y2.alloc (.cells #[.int .i64 0, .int .i64 0, .int .i64 0, .int .i64 0, .int .i64 0] 30) = y3 at *
  generalize y2.heap.size = S1 at *
  clear X2
  refine (Has.call X3 (check_any 0 (.slice (some ⟨S1, 0, none⟩) 1 1) H1 _ (row1 X3))).mono ?_
  rintro e y4 ⟨rfl, X4⟩
  rw [show chkE H1 = 3 from by decide +kernel]
  clear X3
  go_wp2_with fail
  refine (scale_any 24 _ (by omega)).mono ?_
  rintro e yy ⟨rfl, rfl⟩
  rw [sc24]
  go_wp2_with fail
  refine (scale_any 25 _ (by omega)).mono ?_
  rintro e yy ⟨rfl, rfl⟩
  rw [sc25]
  go_wp2_with fail
  refine (scale_any 2000000 _ (by omega)).mono ?_
  rintro e yy ⟨rfl, rfl⟩
  rw [sc2m]
  go_wp2_with fail
  refine (band_any 1024 _).mono ?_
  rintro e yy ⟨rfl, rfl⟩
  rw [show bandV 1024 = 0 from by decide]
  go_wp2_with fail
  refine (band_any 1025 _).mono ?_
  rintro e yy ⟨rfl, rfl⟩
  rw [show bandV 1025 = 1 from by decide]
  go_wp2_with fail
  refine (band_any 262145 _).mono ?_
  rintro e yy ⟨rfl, rfl⟩
  rw [show bandV 262145 = 3 from by decide]
  go_wp2_with fail
  refine (Has.call X4 (square_any 3 (-4) _)).mono ?_
  rintro e y5 ⟨rfl, X5⟩
  rw [show sqV 3 (-4) = 25 from by decide +kernel]
  go_wp2_with fail
  go_ret
  exact ⟨rfl, X5.low⟩
end Go.Proofs.Ytfcoblapbcdaiaa
