/- The examples of the chapter, as each law asks them ahead of all else: they all come out true. -/
import Derived.Test.YtoehojopoajcaaaMeet
import Derived.Test.YtoehojopoajcaaaMove
import Derived.Test.YtoehojopoajcaaaSpotS
import Derived.Test.YtoehojopoajcaaaSmall
namespace Go.Proofs.Ytoehojopoajcaaa
open Go.RowKit Go.Lib

theorem turn_is (x y n p q : Int) (h : rotN (n % 4).toNat x y = (p, q)) (w : World) :
    Calls Try.prog 20 #[.agg #[.int .i64 x, .int .i64 y], .int .i64 n] w fun e w' => e = .returned (.agg #[.int .i64 p, .int .i64 q]) ∧ Below w.heap.size w w' := by
  have := turn_any x y n w
  rw [h] at this
  exact this
theorem on_is (a0 a1 b0 b1 p0 p1 : Int) (r : Bool) (h : onOf a0 a1 b0 b1 p0 p1 = r) (w : World) :
    Calls Try.prog 32 #[.agg #[.int .i64 a0, .int .i64 a1], .agg #[.int .i64 b0, .int .i64 b1], .agg #[.int .i64 p0, .int .i64 p1]] w fun e w' => e = .returned (.bool r) ∧ Below w.heap.size w w' := h ▸ on_any a0 a1 b0 b1 p0 p1 w
theorem move_is (a0 a1 a2 b0 b1 b2 fn fd r s t : Int) (u : Bool) (h0 : mv0 a0 a1 a2 b0 b1 b2 fn fd = r) (h1 : mv1 a0 a1 a2 b0 b1 b2 fn fd = s) (h2 : mv2 a0 a1 a2 b0 b1 b2 fn fd = t) (h3 : mvI a0 a1 a2 b0 b1 b2 fn fd = u) (w : World) :
    Calls Try.prog 38 #[.agg #[.int .i64 a0, .int .i64 a1, .int .i64 a2], .agg #[.int .i64 b0, .int .i64 b1, .int .i64 b2], .agg #[.int .i64 fn, .int .i64 fd]] w fun e w' => e = .returned (.tuple #[.agg #[.int .i64 r, .int .i64 s, .int .i64 t], .bool u]) ∧ Below w.heap.size w w' := by
  have := move_any a0 a1 a2 b0 b1 b2 fn fd w
  rw [h0, h1, h2, h3] at this
  exact this

set_option maxRecDepth 100000 in
set_option maxHeartbeats 8000000 in
theorem sane (w : World) : Calls Try.prog 9 #[] w fun en w' => en = .returned (.bool true) ∧ Below w.heap.size w w' := by
  have C0 : Has w [] w := Has.nil (Below.refl _ _)
  have S1 := Lib.hid (show sideOf 0 0 4 2 1 1 = 1 by decide +kernel)
  have S2 := Lib.hid (show sideOf 0 0 4 2 2 1 = 0 by decide +kernel)
  have S3 := Lib.hid (show sideOf 0 0 4 2 9 0 = -1 by decide +kernel)
  have T1 := Lib.hid (turn_is 3 1 1 (-1) 3 (by decide +kernel))
  have T2 := Lib.hid (turn_is 3 1 (-1) 1 (-3) (by decide +kernel))
  have T3 := Lib.hid (turn_is 3 1 6 (-3) (-1) (by decide +kernel))
  have O1 := Lib.hid (show onOf 0 0 4 2 2 1 = true by decide +kernel)
  have O2 := Lib.hid (show onOf 0 0 4 2 6 3 = false by decide +kernel)
  have M1 := Lib.hid (show meetOf 0 0 4 4 0 4 4 0 = 1 by decide +kernel)
  have M2 := Lib.hid (show meetOf 0 0 4 4 4 4 9 4 = 1 by decide +kernel)
  have M3 := Lib.hid (show meetOf 0 0 4 4 5 5 9 9 = 0 by decide +kernel)
  have M4 := Lib.hid (show meetOf 0 0 4 4 2 2 9 9 = 2 by decide +kernel)
  have V := Lib.hid (move_is 0 0 1 5 1 2 2 3 5 1 3 true (by decide +kernel) (by decide +kernel) (by decide +kernel) (by decide +kernel))
  have V2 := Lib.hid (show sideS 0 0 1 3 3 2 3 4 6 = 1 by decide +kernel)
  go_enter Try.func9, Try.ntmps9
  go_wp2_with fail
  refine (Has.call C0 (pt_any _ _ _)).mono ?_
  rintro e w1 ⟨rfl, C1⟩
  go_wp2_with fail
  refine (Has.call C1 (pt_any _ _ _)).mono ?_
  rintro e w2 ⟨rfl, C2⟩
  go_upto_region 2 with fail
  have C3 := C2.push2 [.int .i64 0, .int .i64 0] [.int .i64 4, .int .i64 2] 28 28
  change Has w _ ((w2.alloc (.cells #[.int .i64 0, .int .i64 0] 28)).alloc (.cells #[.int .i64 4, .int .i64 2] 28)) at C3
  generalize (w2.alloc (.cells #[.int .i64 0, .int .i64 0] 28)).alloc (.cells #[.int .i64 4, .int .i64 2] 28) = w3 at *
  generalize w2.heap.size = A at *
  obtain ⟨⟨k0, k1, k2, k3⟩, -⟩ := C3.two
  go_region_held3 (fun w' => (w'.cell? ⟨A + 1, 0, none⟩ = some (.int .i64 4) ∧ w'.cell? ⟨A + 1, 1, none⟩ = some (.int .i64 2) ∧ w'.cell? ⟨A, 0, none⟩ = some (.int .i64 0) ∧ w'.cell? ⟨A, 1, none⟩ = some (.int .i64 0)) ∧ Has w [(A + 1, [.int .i64 4, .int .i64 2]), (A, [.int .i64 0, .int .i64 0])] w')
    (first | exact C3.drew.two | exact Has.two (by assumption))
    (first
      | (go_at_call 29; (with_reducible refine (Has.call (by first | assumption | exact And.right (by assumption)) (pt_any _ _ _)).mono ?_); rintro e w' ⟨rfl, hC⟩)
      | (go_at_call 30; (with_reducible refine (Has.call (by first | assumption | exact And.right (by assumption)) (side_is _ _ _ _ _ _ _ S1.out _)).mono ?_); rintro e w' ⟨rfl, hC⟩)
      | (go_at_call 30; (with_reducible refine (Has.call (by first | assumption | exact And.right (by assumption)) (side_is _ _ _ _ _ _ _ S2.out _)).mono ?_); rintro e w' ⟨rfl, hC⟩)
      | (go_at_call 30; (with_reducible refine (Has.call (by first | assumption | exact And.right (by assumption)) (side_is _ _ _ _ _ _ _ S3.out _)).mono ?_); rintro e w' ⟨rfl, hC⟩))
  have C4 : Has w [(A + 1, [.int .i64 4, .int .i64 2]), (A, [.int .i64 0, .int .i64 0])] _ := hC
  clear k0 k1 k2 k3
  go_wp2_with fail
  refine (Has.call C4 (pt_any _ _ _)).mono ?_
  rintro e w5 ⟨rfl, C5⟩
  go_upto_region 4 with fail
  have C6 := C5.push [.int .i64 3, .int .i64 1] 28
  change Has w _ (w5.alloc (.cells #[.int .i64 3, .int .i64 1] 28)) at C6
  generalize w5.alloc (.cells #[.int .i64 3, .int .i64 1] 28) = w6 at *
  generalize w5.heap.size = P at *
  obtain ⟨⟨k0, k1, k2, k3, k4, k5⟩, -⟩ := C6.three
  go_region_held3 (fun w' => (w'.cell? ⟨P, 0, none⟩ = some (.int .i64 3) ∧ w'.cell? ⟨P, 1, none⟩ = some (.int .i64 1) ∧ w'.cell? ⟨A + 1, 0, none⟩ = some (.int .i64 4) ∧ w'.cell? ⟨A + 1, 1, none⟩ = some (.int .i64 2) ∧ w'.cell? ⟨A, 0, none⟩ = some (.int .i64 0) ∧ w'.cell? ⟨A, 1, none⟩ = some (.int .i64 0)) ∧ Has w [(P, [.int .i64 3, .int .i64 1]), (A + 1, [.int .i64 4, .int .i64 2]), (A, [.int .i64 0, .int .i64 0])] w')
    (first | exact C6.drew.three | exact Has.three (by assumption))
    (first
      | (go_at_call 29; (with_reducible refine (Has.call (by first | assumption | exact And.right (by assumption)) (pt_any _ _ _)).mono ?_); rintro e w' ⟨rfl, hC⟩)
      | (go_at_call 20; (with_reducible refine (Has.call (by first | assumption | exact And.right (by assumption)) (T1.out _)).mono ?_); rintro e w' ⟨rfl, hC⟩)
      | (go_at_call 20; (with_reducible refine (Has.call (by first | assumption | exact And.right (by assumption)) (T2.out _)).mono ?_); rintro e w' ⟨rfl, hC⟩)
      | (go_at_call 20; (with_reducible refine (Has.call (by first | assumption | exact And.right (by assumption)) (T3.out _)).mono ?_); rintro e w' ⟨rfl, hC⟩)
      | (go_at_call 32; (with_reducible refine (Has.call (by first | assumption | exact And.right (by assumption)) (on_is _ _ _ _ _ _ _ O1.out _)).mono ?_); rintro e w' ⟨rfl, hC⟩)
      | (go_at_call 32; (with_reducible refine (Has.call (by first | assumption | exact And.right (by assumption)) (on_is _ _ _ _ _ _ _ O2.out _)).mono ?_); rintro e w' ⟨rfl, hC⟩))
  have C7 : Has w [(P, [.int .i64 3, .int .i64 1]), (A + 1, [.int .i64 4, .int .i64 2]), (A, [.int .i64 0, .int .i64 0])] _ := hC
  clear k0 k1 k2 k3 k4 k5
  go_wp2_with fail
  refine (Has.call C7 (pt_any _ _ _)).mono ?_
  rintro e w8 ⟨rfl, C8⟩
  go_upto_region 6 with fail
  have C9 := C8.push [.int .i64 4, .int .i64 4] 28
  change Has w _ (w8.alloc (.cells #[.int .i64 4, .int .i64 4] 28)) at C9
  generalize w8.alloc (.cells #[.int .i64 4, .int .i64 4] 28) = w9 at *
  generalize w8.heap.size = B at *
  obtain ⟨⟨k0, k1, k2, k3, k4, k5, k6, k7⟩, -⟩ := C9.four
  go_region_held3 (fun w' => (w'.cell? ⟨B, 0, none⟩ = some (.int .i64 4) ∧ w'.cell? ⟨B, 1, none⟩ = some (.int .i64 4) ∧ w'.cell? ⟨P, 0, none⟩ = some (.int .i64 3) ∧ w'.cell? ⟨P, 1, none⟩ = some (.int .i64 1) ∧ w'.cell? ⟨A + 1, 0, none⟩ = some (.int .i64 4) ∧ w'.cell? ⟨A + 1, 1, none⟩ = some (.int .i64 2) ∧ w'.cell? ⟨A, 0, none⟩ = some (.int .i64 0) ∧ w'.cell? ⟨A, 1, none⟩ = some (.int .i64 0)) ∧ Has w [(B, [.int .i64 4, .int .i64 4]), (P, [.int .i64 3, .int .i64 1]), (A + 1, [.int .i64 4, .int .i64 2]), (A, [.int .i64 0, .int .i64 0])] w')
    (first | exact C9.drew.four | exact Has.four (by assumption))
    (first
      | (go_at_call 29; (with_reducible refine (Has.call (by first | assumption | exact And.right (by assumption)) (pt_any _ _ _)).mono ?_); rintro e w' ⟨rfl, hC⟩)
      | (go_at_call 34; (with_reducible refine (Has.call (by first | assumption | exact And.right (by assumption)) (meet_is _ _ _ _ _ _ _ _ _ M1.out _)).mono ?_); rintro e w' ⟨rfl, hC⟩)
      | (go_at_call 34; (with_reducible refine (Has.call (by first | assumption | exact And.right (by assumption)) (meet_is _ _ _ _ _ _ _ _ _ M2.out _)).mono ?_); rintro e w' ⟨rfl, hC⟩)
      | (go_at_call 34; (with_reducible refine (Has.call (by first | assumption | exact And.right (by assumption)) (meet_is _ _ _ _ _ _ _ _ _ M3.out _)).mono ?_); rintro e w' ⟨rfl, hC⟩)
      | (go_at_call 34; (with_reducible refine (Has.call (by first | assumption | exact And.right (by assumption)) (meet_is _ _ _ _ _ _ _ _ _ M4.out _)).mono ?_); rintro e w' ⟨rfl, hC⟩))
  have C10 : Has w [(B, [.int .i64 4, .int .i64 4]), (P, [.int .i64 3, .int .i64 1]), (A + 1, [.int .i64 4, .int .i64 2]), (A, [.int .i64 0, .int .i64 0])] _ := hC
  clear k0 k1 k2 k3 k4 k5 k6 k7
  go_wp2_with fail
  refine (Has.call C10 (V.out _)).mono ?_
  rintro e w11 ⟨rfl, C11⟩
  go_upto_region 8 with fail
  have C12 := C11.push [.int .i64 5, .int .i64 1, .int .i64 3] 34
  change Has w _ (w11.alloc (.cells #[.int .i64 5, .int .i64 1, .int .i64 3] 34)) at C12
  generalize w11.alloc (.cells #[.int .i64 5, .int .i64 1, .int .i64 3] 34) = w12 at *
  generalize w11.heap.size = X at *
  have k0 := C12.fact (.head _) (i := 0) rfl
  have k1 := C12.fact (.head _) (i := 1) rfl
  have k2 := C12.fact (.head _) (i := 2) rfl
  go_wp2_with fail
  refine (Has.call C12 (spotSide_is _ _ _ _ _ _ _ _ _ _ V2.out _)).mono ?_
  rintro e w13 ⟨rfl, C13⟩
  go_wp2_with fail
  go_ret
  exact ⟨rfl, C13.low⟩

end Go.Proofs.Ytoehojopoajcaaa
