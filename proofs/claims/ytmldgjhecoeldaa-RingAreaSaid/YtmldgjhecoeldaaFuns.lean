/- The functions of exact and of its reference that the laws of point reach: Gcd, and the reference's Sign2 and Gcd. -/
import Derived.Test.YtmldgjhecoeldaaLeaf
namespace Go.Proofs.Ytmldgjhecoeldaa
open Go.RowKit Go.Lib

theorem sign_is (x : Int) : (x < 0 ∧ x.sign = -1) ∨ (x = 0 ∧ x.sign = 0) ∨ (0 < x ∧ x.sign = 1) := by
  rcases Int.lt_trichotomy x 0 with h | h | h
  · exact Or.inl ⟨h, Int.sign_eq_neg_one_of_neg h⟩
  · exact Or.inr (Or.inl ⟨h, by rw [h]; rfl⟩)
  · exact Or.inr (Or.inr ⟨h, Int.sign_eq_one_of_pos h⟩)

/-- The signs of two numbers and their sizes say the sign of the difference. -/
theorem signs (P Q : Int) :
    (P.sign ≠ Q.sign → (P.sign - Q.sign).sign = (P - Q).sign) ∧
    (P.sign = Q.sign → (Q.natAbs < P.natAbs → P.sign = (P - Q).sign) ∧ (P.natAbs < Q.natAbs → -P.sign = (P - Q).sign) ∧ (P.natAbs = Q.natAbs → 0 = (P - Q).sign)) := by
  have h1 := sign_is P
  have h2 := sign_is Q
  have h3 := sign_is (P - Q)
  have h4 := sign_is (P.sign - Q.sign)
  refine ⟨fun _ => ?_, fun _ => ⟨fun _ => ?_, fun _ => ?_, fun _ => ?_⟩⟩ <;> omega

theorem sign_bd (a : Int) : -1 ≤ a.sign ∧ a.sign ≤ 1 := by have := sign_is a; omega

/-- Two products without signs, in words of 64 bits. -/
theorem hilo (X Y : Nat) (s ans : Int) (H : (Y < X → s = ans) ∧ (X < Y → -s = ans) ∧ (X = Y → 0 = ans)) :
    (((Y / 18446744073709551616 : Nat) : Int) < ((X / 18446744073709551616 : Nat) : Int) → s = ans) ∧ (((X / 18446744073709551616 : Nat) : Int) < ((Y / 18446744073709551616 : Nat) : Int) → -s = ans) ∧
    (((X / 18446744073709551616 : Nat) : Int) = ((Y / 18446744073709551616 : Nat) : Int) → (((Y % 18446744073709551616 : Nat) : Int) < ((X % 18446744073709551616 : Nat) : Int) → s = ans) ∧ (((X % 18446744073709551616 : Nat) : Int) < ((Y % 18446744073709551616 : Nat) : Int) → -s = ans) ∧ (((X % 18446744073709551616 : Nat) : Int) = ((Y % 18446744073709551616 : Nat) : Int) → 0 = ans)) := by
  refine ⟨fun h => H.1 ?_, fun h => H.2.1 ?_, fun h => ⟨fun k => H.1 ?_, fun k => H.2.1 ?_, fun k => H.2.2 ?_⟩⟩ <;> omega

set_option maxHeartbeats 1000000 in
theorem rsign2_any (a b c d : Int) (w : World) (ha : -9223372036854775808 ≤ a ∧ a ≤ 9223372036854775807) (hb : -9223372036854775808 ≤ b ∧ b ≤ 9223372036854775807) (hc : -9223372036854775808 ≤ c ∧ c ≤ 9223372036854775807) (hd : -9223372036854775808 ≤ d ∧ d ≤ 9223372036854775807) :
    Calls Try.prog 71 #[.int .i64 a, .int .i64 b, .int .i64 c, .int .i64 d] w fun e w' => e = .returned (.int .i64 (a * b - c * d).sign) ∧ Below w.heap.size w w' := by
  have S0 := signs (a * b) (c * d)
  rw [Int.natAbs_mul, Int.natAbs_mul] at S0
  have bs := sign_bd (a * b)
  have bt := sign_bd (c * d)
  rw [Int.sign_mul] at bs bt
  rw [Int.sign_mul a b, Int.sign_mul c d] at S0
  generalize (a * b - c * d).sign = ans at *
  have S := Lib.hid S0
  clear S0
  go_enter Try.func71, Try.ntmps71
  go_wp2_with fail
  refine (sign_any a _).mono ?_
  rintro e w1 ⟨rfl, rfl⟩
  go_wp2_with fail
  refine (sign_any b _).mono ?_
  rintro e w1 ⟨rfl, rfl⟩
  go_wp2_with fail
  refine (sign_any c _).mono ?_
  rintro e w1 ⟨rfl, rfl⟩
  go_wp2_with fail
  refine (sign_any d _).mono ?_
  rintro e w1 ⟨rfl, rfl⟩
  by_cases hst : a.sign * b.sign = c.sign * d.sign
  · have hst1 : (a.sign * b.sign != c.sign * d.sign) = false := by rw [bne_eq_false_iff_eq]; exact hst
    have S2 := Lib.hid (hilo _ _ _ _ (S.out.2 hst))
    clear S hst
    go_wp2_with fail
    clear hst1
    generalize a.sign * b.sign = s at *
    generalize c.sign * d.sign = t at *
    refine (size_any a _ ha.1 ha.2).mono ?_
    rintro e w1 ⟨rfl, rfl⟩
    go_wp2_with fail
    refine (size_any b _ hb.1 hb.2).mono ?_
    rintro e w1 ⟨rfl, rfl⟩
    go_wp2_with fail
    refine (product_any _ _ (by omega) (by omega) _).mono ?_
    rintro e w1 ⟨rfl, hb1⟩
    generalize ((a.natAbs * b.natAbs / 18446744073709551616 : Nat) : Int) = xh at *
    generalize ((a.natAbs * b.natAbs % 18446744073709551616 : Nat) : Int) = xl at *
    go_wp2_with fail
    refine (size_any c _ hc.1 hc.2).mono ?_
    rintro e w2 ⟨rfl, rfl⟩
    go_wp2_with fail
    refine (size_any d _ hd.1 hd.2).mono ?_
    rintro e w2 ⟨rfl, rfl⟩
    go_wp2_with fail
    refine (product_any _ _ (by omega) (by omega) _).mono ?_
    rintro e w2 ⟨rfl, hb2⟩
    generalize ((c.natAbs * d.natAbs / 18446744073709551616 : Nat) : Int) = yh at *
    generalize ((c.natAbs * d.natAbs % 18446744073709551616 : Nat) : Int) = yl at *
    have t1 := (Cells.made w1 [.int .u64 xh, .int .u64 xl] 110).later hb2 (by simp)
    have s1 : w1.heap.size + 1 ≤ w2.heap.size := by have := hb2.size; simp at this; omega
    have hB : Below w.heap.size w w2 := (hb1.alloc hb1.size _).trans (hb2.mono (by have := hb1.size; simp; omega))
    have t2 := Cells.made w2 [.int .u64 yh, .int .u64 yl] 110
    have t3 := t1.alloc (by omega) (.cells #[.int .u64 yh, .int .u64 yl] 110)
    go_wp2_with fail
    have hB2 := hB.alloc hB.size (.cells #[.int .u64 yh, .int .u64 yl] 110)
    generalize w2.alloc (.cells #[.int .u64 yh, .int .u64 yl] 110) = w3 at *
    have c1 := (t2.get 0 rfl).1
    have c2 := (t2.get 1 rfl).1
    have c3 := (t3.get 0 rfl).1
    have c4 := (t3.get 1 rfl).1
    clear t1 hB hb1 hb2
    by_cases h1 : yh < xh
    · have r := Lib.hid (S2.out.1 h1)
      clear S2
      refine wp_loop_rounds 3 ?_
      rw [rounds_succ]
      go_wp2_with fail
      go_quiet (fail)
      go_wp2_with fail
      go_ret
      exact ⟨ret_i r.out, by repeat (first | exact hB2 | apply below_drewN)⟩
    · by_cases h2 : xh < yh
      · have r := Lib.hid (S2.out.2.1 h2)
        clear S2
        refine wp_loop_rounds 3 ?_
        rw [rounds_succ]
        go_wp2_with fail
        go_quiet (fail)
        go_wp2_with fail
        go_quiet (fail)
        go_wp2_with fail
        go_ret
        exact ⟨ret_i r.out, by repeat (first | exact hB2 | apply below_drewN)⟩
      · obtain rfl : xh = yh := by omega
        have S3 := Lib.hid (S2.out.2.2 rfl)
        clear S2 h1 h2
        by_cases h3 : yl < xl
        · have r := Lib.hid (S3.out.1 h3)
          clear S3
          refine wp_loop_rounds 3 ?_
          rw [rounds_succ]
          go_wp2_with fail
          go_quiet (fail)
          go_wp2_with fail
          go_quiet (fail)
          go_wp2_with fail
          rw [rounds_succ]
          go_wp2_with fail
          go_quiet (fail)
          go_wp2_with fail
          go_ret
          exact ⟨ret_i r.out, by repeat (first | exact hB2 | apply below_drewN)⟩
        · by_cases h4 : xl < yl
          · have r := Lib.hid (S3.out.2.1 h4)
            clear S3
            refine wp_loop_rounds 3 ?_
            rw [rounds_succ]
            go_wp2_with fail
            go_quiet (fail)
            go_wp2_with fail
            go_quiet (fail)
            go_wp2_with fail
            rw [rounds_succ]
            go_wp2_with fail
            go_quiet (fail)
            go_wp2_with fail
            go_quiet (fail)
            go_wp2_with fail
            go_ret
            exact ⟨ret_i r.out, by repeat (first | exact hB2 | apply below_drewN)⟩
          · obtain rfl : xl = yl := by omega
            have r := Lib.hid (S3.out.2.2 rfl)
            clear S3 h3 h4
            refine wp_loop_rounds 3 ?_
            rw [rounds_succ]
            go_wp2_with fail
            go_quiet (fail)
            go_wp2_with fail
            go_quiet (fail)
            go_wp2_with fail
            rw [rounds_succ]
            go_wp2_with fail
            go_quiet (fail)
            go_wp2_with fail
            go_quiet (fail)
            go_wp2_with fail
            rw [rounds_succ]
            go_wp2_with fail
            go_ret
            exact ⟨ret_i r.out, by repeat (first | exact hB2 | apply below_drewN)⟩
  · have hst1 : (a.sign * b.sign != c.sign * d.sign) = true := by rw [bne_iff_ne]; exact hst
    have S2 := Lib.hid (S.out.1 hst)
    clear S hst
    go_wp2_with fail
    clear hst1
    generalize a.sign * b.sign = s at *
    generalize c.sign * d.sign = t at *
    refine (sign_any _ _).mono ?_
    rintro e w1 ⟨rfl, rfl⟩
    go_wp2_with fail
    go_ret
    exact ⟨ret_i S2.out, Below.refl _ _⟩

/-- What Gcd answers. -/
def gcdOf (a b : Int) : Int := if 9223372036854775807 < ((Int.gcd a b : Nat) : Int) then 1 else (Int.gcd a b : Nat)
theorem gcdOf_big {a b : Int} {g : Nat} (h : g = Int.gcd a b) (k : 9223372036854775807 < (g : Int)) : 1 = gcdOf a b := by subst h; unfold gcdOf; rw [if_pos k]
theorem gcdOf_is {a b : Int} {g : Nat} (h : g = Int.gcd a b) (k : (g : Int) ≤ 9223372036854775807) : (g : Int) = gcdOf a b := by subst h; unfold gcdOf; rw [if_neg (by omega)]

/-- A world that has answered some questions more, and is otherwise as it was. -/
def Drew (w w' : World) : Prop := ∃ m, w' = w.drewN m
theorem Drew.more {w w' : World} (h : Drew w w') (n : Nat) : Drew w (w'.drewN n) := by
  obtain ⟨m, rfl⟩ := h
  exact ⟨m + n, by rw [World.drewN_drewN]⟩

theorem gcdOf_bd (n d : Int) (h : 1 ≤ d ∧ d ≤ 9223372036854775807) : 1 ≤ gcdOf n d ∧ gcdOf n d ≤ 9223372036854775807 ∧ gcdOf n d = Int.gcd n d := by
  have h1 : Int.gcd n d ∣ d.natAbs := Nat.gcd_dvd_right _ _
  have h2 := Nat.le_of_dvd (by omega) h1
  have h3 : 0 < Int.gcd n d := Nat.gcd_pos_of_pos_right _ (by omega)
  unfold gcdOf
  rw [if_neg (by omega)]
  omega

end Go.Proofs.Ytmldgjhecoeldaa
