/- What is bounded and what is right of spots and fractions; the difference of two spots. -/
import Derived.Test.YtmldgjhecoeldaaBd
namespace Go.Proofs.Ytmldgjhecoeldaa
open Go.RowKit Go.Lib

/-- Three spots. -/
theorem Has.three3 {w0 w : World} {bs : List (Nat × List Value)} {A B C : Nat} {a b c d e f g k l : Value} (h : Has w0 ((A, [a, b, c]) :: (B, [d, e, f]) :: (C, [g, k, l]) :: bs) w) :
    (w.cell? ⟨A, 0, none⟩ = some a ∧ w.cell? ⟨A, 1, none⟩ = some b ∧ w.cell? ⟨A, 2, none⟩ = some c ∧ w.cell? ⟨B, 0, none⟩ = some d ∧ w.cell? ⟨B, 1, none⟩ = some e ∧ w.cell? ⟨B, 2, none⟩ = some f ∧ w.cell? ⟨C, 0, none⟩ = some g ∧ w.cell? ⟨C, 1, none⟩ = some k ∧ w.cell? ⟨C, 2, none⟩ = some l) ∧ Has w0 ((A, [a, b, c]) :: (B, [d, e, f]) :: (C, [g, k, l]) :: bs) w :=
  ⟨⟨h.fact (.head _) (i := 0) rfl, h.fact (.head _) (i := 1) rfl, h.fact (.head _) (i := 2) rfl, h.tail.fact (.head _) (i := 0) rfl, h.tail.fact (.head _) (i := 1) rfl, h.tail.fact (.head _) (i := 2) rfl, h.tail.tail.fact (.head _) (i := 0) rfl, h.tail.tail.fact (.head _) (i := 1) rfl, h.tail.tail.fact (.head _) (i := 2) rfl⟩, h⟩

/-- Whether a spot is bounded. -/
def sbd (x y z : Int) : Bool := btw 1 z 4194304 && inl 137438953472 x y
theorem sbd_no {x y z : Int} (h : btw 1 z 4194304 = false) : sbd x y z = false := by unfold sbd; rw [h]; rfl
theorem sbd_nx {x y z : Int} (h : btw (-137438953472) x 137438953472 = false) : sbd x y z = false := by unfold sbd; rw [inl_no1 h, Bool.and_false]
theorem sbd_is {x y z : Int} {r : Bool} (h : btw 1 z 4194304 = true) (k : btw (-137438953472) x 137438953472 = true) (l : btw (-137438953472) y 137438953472 = r) : sbd x y z = r := by unfold sbd; rw [h, inl_is k l]; rfl

set_option maxHeartbeats 1000000 in
theorem sbounded_any (x y z : Int) (w : World) :
    Calls Try.prog 75 #[.agg #[.int .i64 x, .int .i64 y, .int .i64 z]] w fun e w' => e = .returned (.bool (sbd x y z)) ∧ Below w.heap.size w w' := by
  by_cases h1 : 1 ≤ z
  · by_cases h2 : z ≤ 4194304
    · cases hx : btw (-137438953472) x 137438953472
      · have HV := Lib.hid (sbd_nx (y := y) (z := z) hx)
        have HX := Lib.hid hx
        clear hx
        go_enter Try.func75, Try.ntmps75
        go_wp2_with fail
        refine (within_is _ _ _ HX.out _ (by omega)).mono ?_
        rintro e w1 ⟨rfl, rfl⟩
        go_wp2
        go_ret
        exact ⟨ret_b HV.out.symm, by go_grown⟩
      · obtain ⟨r, hy⟩ : ∃ r, btw (-137438953472) y 137438953472 = r := ⟨_, rfl⟩
        have HV := Lib.hid (sbd_is (btw_yes h1 h2) hx hy)
        have HX := Lib.hid hx
        have HY := Lib.hid hy
        clear hx hy
        go_enter Try.func75, Try.ntmps75
        go_wp2_with fail
        refine (within_is _ _ _ HX.out _ (by omega)).mono ?_
        rintro e w1 ⟨rfl, rfl⟩
        go_wp2_with fail
        refine (within_is _ _ _ HY.out _ (by omega)).mono ?_
        rintro e w1 ⟨rfl, rfl⟩
        go_wp2
        go_ret
        exact ⟨ret_b HV.out.symm, by go_grown⟩
    · have HV := Lib.hid (sbd_no (x := x) (y := y) (btw_no2 (lo := 1) h2))
      have d2 : decide (z ≤ 4194304) = false := by simp; omega
      go_enter Try.func75, Try.ntmps75
      go_wp2
      go_ret
      exact ⟨ret_b HV.out.symm, by go_grown⟩
  · have HV := Lib.hid (sbd_no (x := x) (y := y) (btw_no1 (hi := 4194304) h1))
    have d1 : decide (1 ≤ z) = false := by simp; omega
    go_enter Try.func75, Try.ntmps75
    go_wp2
    go_ret
    exact ⟨ret_b HV.out.symm, by go_grown⟩

theorem sbounded_is (x y z : Int) (r : Bool) (h : sbd x y z = r) (w : World) :
    Calls Try.prog 75 #[.agg #[.int .i64 x, .int .i64 y, .int .i64 z]] w fun e w' => e = .returned (.bool r) ∧ Below w.heap.size w w' := h ▸ sbounded_any x y z w

set_option maxHeartbeats 1000000 in
theorem far_any (x y z : Int) (w : World) :
    Calls Try.prog 79 #[.agg #[.int .i64 x, .int .i64 y, .int .i64 z]] w fun e w' => e = .returned (.bool (!sbd x y z)) ∧ Below w.heap.size w w' := by
  cases hz : btw 1 z 4194304
  · have HV := Lib.hid (show (!sbd x y z) = true by rw [sbd_no hz]; rfl)
    have HZ := Lib.hid hz
    clear hz
    go_enter Try.func79, Try.ntmps79
    go_wp2_with fail
    refine (between_is _ _ _ _ HZ.out _).mono ?_
    rintro e w1 ⟨rfl, rfl⟩
    go_wp2
    go_ret
    exact ⟨ret_b HV.out.symm, by go_grown⟩
  · cases hx : btw (-137438953472) x 137438953472
    · have HV := Lib.hid (show (!sbd x y z) = true by rw [sbd_nx hx]; rfl)
      have HZ := Lib.hid hz
      have HX := Lib.hid hx
      clear hz hx
      go_enter Try.func79, Try.ntmps79
      go_wp2_with fail
      refine (between_is _ _ _ _ HZ.out _).mono ?_
      rintro e w1 ⟨rfl, rfl⟩
      go_wp2_with fail
      refine (between_is _ _ _ _ HX.out _).mono ?_
      rintro e w1 ⟨rfl, rfl⟩
      go_wp2
      go_ret
      exact ⟨ret_b HV.out.symm, by go_grown⟩
    · obtain ⟨r, hy⟩ : ∃ r, btw (-137438953472) y 137438953472 = r := ⟨_, rfl⟩
      have HV := Lib.hid (show (!sbd x y z) = !r by rw [sbd_is hz hx hy])
      have HZ := Lib.hid hz
      have HX := Lib.hid hx
      have HY := Lib.hid hy
      clear hz hx hy
      go_enter Try.func79, Try.ntmps79
      go_wp2_with fail
      refine (between_is _ _ _ _ HZ.out _).mono ?_
      rintro e w1 ⟨rfl, rfl⟩
      go_wp2_with fail
      refine (between_is _ _ _ _ HX.out _).mono ?_
      rintro e w1 ⟨rfl, rfl⟩
      go_wp2_with fail
      refine (between_is _ _ _ _ HY.out _).mono ?_
      rintro e w1 ⟨rfl, rfl⟩
      go_wp2
      go_ret
      exact ⟨ret_b HV.out.symm, by go_grown⟩
theorem far_is (x y z : Int) (r : Bool) (h : (!sbd x y z) = r) (w : World) :
    Calls Try.prog 79 #[.agg #[.int .i64 x, .int .i64 y, .int .i64 z]] w fun e w' => e = .returned (.bool r) ∧ Below w.heap.size w w' := h ▸ far_any x y z w

/-- Whether a spot is right, and a fraction. -/
def rs (x y z : Int) : Bool := btw 1 z 2048 && inl (16384 * z) x y
theorem rs_no {x y z : Int} (h : btw 1 z 2048 = false) : rs x y z = false := by unfold rs; rw [h]; rfl
theorem rs_nx {x y z : Int} (h : btw (-(16384 * z)) x (16384 * z) = false) : rs x y z = false := by unfold rs; rw [inl_no1 h, Bool.and_false]
theorem rs_is {x y z : Int} {r : Bool} (h : btw 1 z 2048 = true) (k : btw (-(16384 * z)) x (16384 * z) = true) (l : btw (-(16384 * z)) y (16384 * z) = r) : rs x y z = r := by unfold rs; rw [h, inl_is k l]; rfl
def rf (n d : Int) : Bool := btw 1 d 1048576 && btw 0 n d

/-- What is bounded, as inequalities. -/
def SB (x y z : Int) : Prop := 1 ≤ z ∧ z ≤ 4194304 ∧ -137438953472 ≤ x ∧ x ≤ 137438953472 ∧ -137438953472 ≤ y ∧ y ≤ 137438953472
theorem sbd_iff {x y z : Int} : sbd x y z = true ↔ SB x y z := by unfold sbd SB; rw [Bool.and_eq_true, btw_iff, inl_iff]; omega
theorem mul_bds (x z : Int) (hx : -137438953472 ≤ x ∧ x ≤ 137438953472) (hz : 1 ≤ z ∧ z ≤ 4194304) : -576460752303423488 ≤ x * z ∧ x * z ≤ 576460752303423488 := by
  have h : (x * z).natAbs ≤ 137438953472 * 4194304 := by
    rw [Int.natAbs_mul]; exact Nat.mul_le_mul (by omega) (by omega)
  omega

set_option maxHeartbeats 1000000 in
theorem difference_bd (b0 b1 b2 a0 a1 a2 : Int) (w : World) (hb : SB b0 b1 b2) (ha : SB a0 a1 a2) :
    Calls Try.prog 76 #[.agg #[.int .i64 b0, .int .i64 b1, .int .i64 b2], .agg #[.int .i64 a0, .int .i64 a1, .int .i64 a2]] w fun e w' => e = .returned (.agg #[.int .i64 (b0 * a2 - a0 * b2), .int .i64 (b1 * a2 - a1 * b2)]) ∧ Below w.heap.size w w' := by
  obtain ⟨ha1, ha2, ha3, ha4, ha5, ha6⟩ := ha
  obtain ⟨hb1, hb2, hb3, hb4, hb5, hb6⟩ := hb
  have m1 := mul_bds b0 a2 (by omega) (by omega)
  have m2 := mul_bds a0 b2 (by omega) (by omega)
  have m3 := mul_bds b1 a2 (by omega) (by omega)
  have m4 := mul_bds a1 b2 (by omega) (by omega)
  go_enter Try.func76, Try.ntmps76
  go_wp2
  go_returns
  exact ⟨rfl, by go_grown⟩

/-- On which side of the line from a to b the spot p lies. -/
def sideS (a0 a1 a2 b0 b1 b2 p0 p1 p2 : Int) : Int := if sbd a0 a1 a2 = true ∧ sbd b0 b1 b2 = true ∧ sbd p0 p1 p2 = true then ((b0 * a2 - a0 * b2) * (p1 * a2 - a1 * p2) - (b1 * a2 - a1 * b2) * (p0 * a2 - a0 * p2)).sign else 0
theorem sideS_no0 (a0 a1 a2 b0 b1 b2 p0 p1 p2 : Int) (h : sbd a0 a1 a2 = false) : 0 = sideS a0 a1 a2 b0 b1 b2 p0 p1 p2 := by unfold sideS; rw [if_neg (by rw [h]; simp)]
theorem sideS_no1 (a0 a1 a2 b0 b1 b2 p0 p1 p2 : Int) (h : sbd b0 b1 b2 = false) : 0 = sideS a0 a1 a2 b0 b1 b2 p0 p1 p2 := by unfold sideS; rw [if_neg (by rw [h]; simp)]
theorem sideS_no2 (a0 a1 a2 b0 b1 b2 p0 p1 p2 : Int) (h : sbd p0 p1 p2 = false) : 0 = sideS a0 a1 a2 b0 b1 b2 p0 p1 p2 := by unfold sideS; rw [if_neg (by rw [h]; simp)]
theorem sideS_yes (a0 a1 a2 b0 b1 b2 p0 p1 p2 : Int) (h : sbd a0 a1 a2 = true) (k : sbd b0 b1 b2 = true) (l : sbd p0 p1 p2 = true) : ((b0 * a2 - a0 * b2) * (p1 * a2 - a1 * p2) - (b1 * a2 - a1 * b2) * (p0 * a2 - a0 * p2)).sign = sideS a0 a1 a2 b0 b1 b2 p0 p1 p2 := by
  unfold sideS; rw [if_pos ⟨h, k, l⟩]
theorem sbd_all {a0 a1 a2 b0 b1 b2 p0 p1 p2 : Int} (h : sbd a0 a1 a2 = true) (k : sbd b0 b1 b2 = true) (l : sbd p0 p1 p2 = true) :
    SB b0 b1 b2 ∧ SB a0 a1 a2 ∧ SB p0 p1 p2 ∧ I64 (b0 * a2 - a0 * b2) ∧ I64 (p1 * a2 - a1 * p2) ∧ I64 (b1 * a2 - a1 * b2) ∧ I64 (p0 * a2 - a0 * p2) := by
  have h := sbd_iff.1 h
  have k := sbd_iff.1 k
  have l := sbd_iff.1 l
  refine ⟨k, h, l, ?_⟩
  obtain ⟨ha1, ha2, ha3, ha4, ha5, ha6⟩ := h
  obtain ⟨hb1, hb2, hb3, hb4, hb5, hb6⟩ := k
  obtain ⟨hp1, hp2, hp3, hp4, hp5, hp6⟩ := l
  have m1 := mul_bds b0 a2 (by omega) (by omega)
  have m2 := mul_bds a0 b2 (by omega) (by omega)
  have m3 := mul_bds b1 a2 (by omega) (by omega)
  have m4 := mul_bds a1 b2 (by omega) (by omega)
  have m5 := mul_bds p0 a2 (by omega) (by omega)
  have m6 := mul_bds a0 p2 (by omega) (by omega)
  have m7 := mul_bds p1 a2 (by omega) (by omega)
  have m8 := mul_bds a1 p2 (by omega) (by omega)
  unfold I64
  omega

end Go.Proofs.Ytmldgjhecoeldaa
