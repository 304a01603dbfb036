/- The functions of point and of its reference that do not call others but the smallest. -/
import Derived.Test.YtmldgjhecoeldaaHas
namespace Go.Proofs.Ytmldgjhecoeldaa
open Go.RowKit Go.Lib

set_option maxHeartbeats 400000 in
theorem rbounded_any (x y : Int) (w : World) :
    Calls Try.prog 65 #[.agg #[.int .i64 x, .int .i64 y]] w fun e w' => e = .returned (.bool (inl 1152921504606846976 x y)) ∧ Below w.heap.size w w' := by
  cases hx : btw (-1152921504606846976) x 1152921504606846976
  · have H := Lib.hid (inl_no1 (y := y) hx)
    have HX := Lib.hid hx
    clear hx
    go_enter Try.func65, Try.ntmps65
    go_wp2_with fail
    refine (between_is _ _ _ _ HX.out _).mono ?_
    rintro e w1 ⟨rfl, rfl⟩
    go_wp2
    go_ret
    exact ⟨ret_b H.out.symm, by go_grown⟩
  · obtain ⟨r, hr⟩ : ∃ r, btw (-1152921504606846976) y 1152921504606846976 = r := ⟨_, rfl⟩
    have H := Lib.hid (inl_is hx hr)
    have HX := Lib.hid hx
    have HR := Lib.hid hr
    clear hx hr
    go_enter Try.func65, Try.ntmps65
    go_wp2_with fail
    refine (between_is _ _ _ _ HX.out _).mono ?_
    rintro e w1 ⟨rfl, rfl⟩
    go_wp2_with fail
    refine (between_is _ _ _ _ HR.out _).mono ?_
    rintro e w1 ⟨rfl, rfl⟩
    go_wp2
    go_ret
    exact ⟨ret_b H.out.symm, by go_grown⟩

set_option maxHeartbeats 400000 in
theorem right_any (x y : Int) (w : World) :
    Calls Try.prog 80 #[.agg #[.int .i64 x, .int .i64 y]] w fun e w' => e = .returned (.bool (inl 16384 x y)) ∧ Below w.heap.size w w' := by
  cases hx : btw (-16384) x 16384
  · have H := Lib.hid (inl_no1 (y := y) hx)
    have HX := Lib.hid hx
    clear hx
    go_enter Try.func80, Try.ntmps80
    go_wp2_with fail
    refine (within_is _ _ _ HX.out _ (by omega)).mono ?_
    rintro e w1 ⟨rfl, rfl⟩
    go_wp2
    go_ret
    exact ⟨ret_b H.out.symm, by go_grown⟩
  · obtain ⟨r, hr⟩ : ∃ r, btw (-16384) y 16384 = r := ⟨_, rfl⟩
    have H := Lib.hid (inl_is hx hr)
    have HX := Lib.hid hx
    have HR := Lib.hid hr
    clear hx hr
    go_enter Try.func80, Try.ntmps80
    go_wp2_with fail
    refine (within_is _ _ _ HX.out _ (by omega)).mono ?_
    rintro e w1 ⟨rfl, rfl⟩
    go_wp2_with fail
    refine (within_is _ _ _ HR.out _ (by omega)).mono ?_
    rintro e w1 ⟨rfl, rfl⟩
    go_wp2
    go_ret
    exact ⟨ret_b H.out.symm, by go_grown⟩

set_option maxHeartbeats 400000 in
theorem rright_any (x y : Int) (w : World) :
    Calls Try.prog 84 #[.agg #[.int .i64 x, .int .i64 y]] w fun e w' => e = .returned (.bool (inl 16384 x y)) ∧ Below w.heap.size w w' := by
  cases hx : btw (-16384) x 16384
  · have H := Lib.hid (inl_no1 (y := y) hx)
    have HX := Lib.hid hx
    clear hx
    go_enter Try.func84, Try.ntmps84
    go_wp2_with fail
    refine (between_is _ _ _ _ HX.out _).mono ?_
    rintro e w1 ⟨rfl, rfl⟩
    go_wp2
    go_ret
    exact ⟨ret_b H.out.symm, by go_grown⟩
  · obtain ⟨r, hr⟩ : ∃ r, btw (-16384) y 16384 = r := ⟨_, rfl⟩
    have H := Lib.hid (inl_is hx hr)
    have HX := Lib.hid hx
    have HR := Lib.hid hr
    clear hx hr
    go_enter Try.func84, Try.ntmps84
    go_wp2_with fail
    refine (between_is _ _ _ _ HX.out _).mono ?_
    rintro e w1 ⟨rfl, rfl⟩
    go_wp2_with fail
    refine (between_is _ _ _ _ HR.out _).mono ?_
    rintro e w1 ⟨rfl, rfl⟩
    go_wp2
    go_ret
    exact ⟨ret_b H.out.symm, by go_grown⟩

set_option maxHeartbeats 400000 in
theorem sub_any (a b c d : Int) (w : World) :
    Calls Try.prog 68 #[.agg #[.int .i64 a, .int .i64 b], .agg #[.int .i64 c, .int .i64 d]] w fun e w' => e = .returned (.agg #[.int .i64 (wrap64 (a - c)), .int .i64 (wrap64 (b - d))]) ∧ Below w.heap.size w w' := by
  go_enter Try.func68, Try.ntmps68
  go_wp2
  go_returns
  exact ⟨rfl, by go_grown⟩

set_option maxHeartbeats 400000 in
theorem rsub_any (a b c d : Int) (w : World) :
    Calls Try.prog 70 #[.agg #[.int .i64 a, .int .i64 b], .agg #[.int .i64 c, .int .i64 d]] w fun e w' => e = .returned (.agg #[.int .i64 (wrap64 (a - c)), .int .i64 (wrap64 (b - d))]) ∧ Below w.heap.size w w' := by
  go_enter Try.func70, Try.ntmps70
  go_wp2
  go_returns
  exact ⟨rfl, by go_grown⟩

set_option maxHeartbeats 400000 in
theorem rcross_any (a b c d : Int) (w : World) :
    Calls Try.prog 32 #[.agg #[.int .i64 a, .int .i64 b], .agg #[.int .i64 c, .int .i64 d]] w fun e w' => e = .returned (.int .i64 (wrap64 (wrap64 (a * d) - wrap64 (b * c)))) ∧ Below w.heap.size w w' := by
  go_enter Try.func32, Try.ntmps32
  go_wp2
  go_ret
  exact ⟨rfl, by go_grown⟩

/-- Whether two rectangles are near. -/
def nearOf (a0 a1 a2 a3 b0 b1 b2 b3 : Int) : Bool := decide (a0 ≤ b2 ∧ b0 ≤ a2 ∧ a1 ≤ b3 ∧ b1 ≤ a3)
theorem near_yes {a0 a1 a2 a3 b0 b1 b2 b3 : Int} (h1 : a0 ≤ b2) (h2 : b0 ≤ a2) (h3 : a1 ≤ b3) (h4 : b1 ≤ a3) : nearOf a0 a1 a2 a3 b0 b1 b2 b3 = true := by unfold nearOf; simp [h1, h2, h3, h4]
theorem near_no {a0 a1 a2 a3 b0 b1 b2 b3 : Int} (h : ¬ (a0 ≤ b2 ∧ b0 ≤ a2 ∧ a1 ≤ b3 ∧ b1 ≤ a3)) : nearOf a0 a1 a2 a3 b0 b1 b2 b3 = false := by unfold nearOf; simp only [h, decide_false]

set_option maxHeartbeats 400000 in
theorem near_any (a0 a1 a2 a3 b0 b1 b2 b3 : Int) (w : World) :
    Calls Try.prog 34 #[.agg #[.int .i64 a0, .int .i64 a1, .int .i64 a2, .int .i64 a3], .agg #[.int .i64 b0, .int .i64 b1, .int .i64 b2, .int .i64 b3]] w fun e w' => e = .returned (.bool (nearOf a0 a1 a2 a3 b0 b1 b2 b3)) ∧ Below w.heap.size w w' := by
  by_cases h1 : a0 ≤ b2
  · skip
    by_cases h2 : b0 ≤ a2
    · skip
      by_cases h3 : a1 ≤ b3
      · skip
        by_cases h4 : b1 ≤ a3
        · skip
          go_enter Try.func34, Try.ntmps34
          go_wp2
          go_ret
          exact ⟨ret_b (near_yes h1 h2 h3 h4).symm, by go_grown⟩
        · have d4 : decide (b1 ≤ a3) = false := by simp; omega
          go_enter Try.func34, Try.ntmps34
          go_wp2
          go_ret
          exact ⟨ret_b (near_no (by omega)).symm, by go_grown⟩
      · have d3 : decide (a1 ≤ b3) = false := by simp; omega
        go_enter Try.func34, Try.ntmps34
        go_wp2
        go_ret
        exact ⟨ret_b (near_no (by omega)).symm, by go_grown⟩
    · have d2 : decide (b0 ≤ a2) = false := by simp; omega
      go_enter Try.func34, Try.ntmps34
      go_wp2
      go_ret
      exact ⟨ret_b (near_no (by omega)).symm, by go_grown⟩
  · have d1 : decide (a0 ≤ b2) = false := by simp; omega
    go_enter Try.func34, Try.ntmps34
    go_wp2
    go_ret
    exact ⟨ret_b (near_no (by omega)).symm, by go_grown⟩

end Go.Proofs.Ytmldgjhecoeldaa
