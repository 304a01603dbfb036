/- The words of the proofs of point: numbers between two others, what is bounded, and the small functions on numbers and points. -/
import Derived.Test.YtmldgjhecoeldaaFuns
namespace Go.Proofs.Ytmldgjhecoeldaa
open Go.RowKit Go.Lib

theorem ret_b {a b : Bool} (h : a = b) : Ending.returned (.bool a) = .returned (.bool b) := by rw [h]
theorem ret_p {a b c d : Int} (h : a = c) (k : b = d) : Ending.returned (.agg #[.int .i64 a, .int .i64 b]) = .returned (.agg #[.int .i64 c, .int .i64 d]) := by rw [h, k]
theorem ret_s {a b c d e f : Int} (h : a = d) (k : b = e) (l : c = f) : Ending.returned (.agg #[.int .i64 a, .int .i64 b, .int .i64 c]) = .returned (.agg #[.int .i64 d, .int .i64 e, .int .i64 f]) := by rw [h, k, l]

/-- Whether a number lies between two others. -/
def btw (lo n hi : Int) : Bool := decide (lo ≤ n ∧ n ≤ hi)
theorem btw_yes {lo n hi : Int} (h : lo ≤ n) (k : n ≤ hi) : btw lo n hi = true := by unfold btw; simp [h, k]
theorem btw_no1 {lo n hi : Int} (h : ¬ lo ≤ n) : btw lo n hi = false := by unfold btw; simp [h]
theorem btw_no2 {lo n hi : Int} (h : ¬ n ≤ hi) : btw lo n hi = false := by unfold btw; simp [h]
theorem btw_iff {lo n hi : Int} : btw lo n hi = true ↔ (lo ≤ n ∧ n ≤ hi) := by unfold btw; simp

set_option maxHeartbeats 400000 in
theorem within_any (n l : Int) (w : World) (hl : 0 ≤ l ∧ l ≤ 4611686018427387904) :
    Calls Try.prog 88 #[.int .i64 n, .int .i64 l] w fun e w' => e = .returned (.bool (btw (-l) n l)) ∧ w = w' := by
  by_cases h1 : -l ≤ n
  · by_cases h2 : n ≤ l
    · go_enter Try.func88, Try.ntmps88
      go_wp2
      go_ret
      exact ⟨ret_b (btw_yes h1 h2).symm, rfl⟩
    · go_enter Try.func88, Try.ntmps88
      go_wp2
      go_ret
      exact ⟨ret_b (btw_no2 (by omega)).symm, rfl⟩
  · go_enter Try.func88, Try.ntmps88
    go_wp2
    go_ret
    exact ⟨ret_b (btw_no1 (by omega)).symm, rfl⟩

set_option maxHeartbeats 400000 in
theorem between_any (n lo hi : Int) (w : World) :
    Calls Try.prog 66 #[.int .i64 n, .int .i64 lo, .int .i64 hi] w fun e w' => e = .returned (.bool (btw lo n hi)) ∧ w = w' := by
  by_cases h1 : lo ≤ n
  · by_cases h2 : n ≤ hi
    · go_enter Try.func66, Try.ntmps66
      go_wp2
      go_ret
      exact ⟨ret_b (btw_yes h1 h2).symm, rfl⟩
    · go_enter Try.func66, Try.ntmps66
      go_wp2
      go_ret
      exact ⟨ret_b (btw_no2 (by omega)).symm, rfl⟩
  · go_enter Try.func66, Try.ntmps66
    go_wp2
    go_ret
    exact ⟨ret_b (btw_no1 (by omega)).symm, rfl⟩

theorem within_is (n l : Int) (r : Bool) (h : btw (-l) n l = r) (w : World) (hl : 0 ≤ l ∧ l ≤ 4611686018427387904) :
    Calls Try.prog 88 #[.int .i64 n, .int .i64 l] w fun e w' => e = .returned (.bool r) ∧ w = w' := h ▸ within_any n l w hl
theorem between_is (n lo hi : Int) (r : Bool) (h : btw lo n hi = r) (w : World) :
    Calls Try.prog 66 #[.int .i64 n, .int .i64 lo, .int .i64 hi] w fun e w' => e = .returned (.bool r) ∧ w = w' := h ▸ between_any n lo hi w

/-- Whether both coordinates lie within a limit. -/
def inl (m x y : Int) : Bool := btw (-m) x m && btw (-m) y m
theorem inl_no1 {m x y : Int} (h : btw (-m) x m = false) : inl m x y = false := by unfold inl; rw [h]; rfl
theorem inl_is {m x y : Int} {r : Bool} (h : btw (-m) x m = true) (k : btw (-m) y m = r) : inl m x y = r := by unfold inl; rw [h, k]; rfl
theorem inl_iff {m x y : Int} : inl m x y = true ↔ (-m ≤ x ∧ x ≤ m ∧ -m ≤ y ∧ y ≤ m) := by unfold inl; rw [Bool.and_eq_true, btw_iff, btw_iff]; omega

set_option maxHeartbeats 400000 in
theorem bounded_any (x y : Int) (w : World) :
    Calls Try.prog 63 #[.agg #[.int .i64 x, .int .i64 y]] w fun e w' => e = .returned (.bool (inl 1152921504606846976 x y)) ∧ Below w.heap.size w w' := by
  cases hx : btw (-1152921504606846976) x 1152921504606846976
  · have H := Lib.hid (inl_no1 (y := y) hx)
    have HX := Lib.hid hx
    clear hx
    go_enter Try.func63, Try.ntmps63
    go_wp2_with fail
    refine (within_is _ _ _ HX.out _ (by omega)).mono ?_
    rintro e w1 ⟨rfl, rfl⟩
    go_wp2
    go_ret
    exact ⟨ret_b H.out.symm, by go_grown⟩
  · obtain ⟨r, hr⟩ : ∃ r, btw (-1152921504606846976) y 1152921504606846976 = r := ⟨_, rfl⟩
    have H := Lib.hid (inl_is hx hr)
    have HX := Lib.hid hx
    have HR := Lib.hid hr
    clear hx hr
    go_enter Try.func63, Try.ntmps63
    go_wp2_with fail
    refine (within_is _ _ _ HX.out _ (by omega)).mono ?_
    rintro e w1 ⟨rfl, rfl⟩
    go_wp2_with fail
    refine (within_is _ _ _ HR.out _ (by omega)).mono ?_
    rintro e w1 ⟨rfl, rfl⟩
    go_wp2
    go_ret
    exact ⟨ret_b H.out.symm, by go_grown⟩

set_option maxHeartbeats 400000 in
theorem cross_any (a b c d : Int) (w : World) :
    Calls Try.prog 31 #[.agg #[.int .i64 a, .int .i64 b], .agg #[.int .i64 c, .int .i64 d]] w fun e w' => e = .returned (.int .i64 (wrap64 (wrap64 (a * d) - wrap64 (b * c)))) ∧ Below w.heap.size w w' := by
  go_enter Try.func31, Try.ntmps31
  go_wp2
  go_ret
  exact ⟨rfl, by go_grown⟩

end Go.Proofs.Ytmldgjhecoeldaa
