/- ExactRoots: the walk. -/
import Derived.Test.YtghlhipphmhjhaaSane
import Derived.Deep.DeepCutAuto
import Derived.Deep.CutBlock
namespace Go.Proofs.Ytghlhipphmhjhaa
open Go.RowKit Go.Lib

theorem wrap64_bd (x : Int) : -9223372036854775808 ≤ wrap64 x ∧ wrap64 x ≤ 9223372036854775807 := by unfold wrap64; omega

/-- Six ints, in a block. -/
theorem six {w : World} {b : Nat} {a0 a1 a2 a3 a4 a5 : Int} (h : Cells w b [.int .i64 a0, .int .i64 a1, .int .i64 a2, .int .i64 a3, .int .i64 a4, .int .i64 a5])
    (h0 : -9223372036854775808 ≤ a0 ∧ a0 ≤ 9223372036854775807) (h1 : -9223372036854775808 ≤ a1 ∧ a1 ≤ 9223372036854775807) (h2 : -9223372036854775808 ≤ a2 ∧ a2 ≤ 9223372036854775807) (h3 : -9223372036854775808 ≤ a3 ∧ a3 ≤ 9223372036854775807) (h4 : -9223372036854775808 ≤ a4 ∧ a4 ≤ 9223372036854775807) (h5 : -9223372036854775808 ≤ a5 ∧ a5 ≤ 9223372036854775807)
    (k : Nat) (hk : k < 6) : ∃ z : Int, w.cell? ⟨b, k, none⟩ = some (.int .i64 z) ∧ -9223372036854775808 ≤ z ∧ z ≤ 9223372036854775807 := by
  match k, hk with
  | 0, _ => exact ⟨a0, (h.get 0 rfl).1, h0⟩
  | 1, _ => exact ⟨a1, (h.get 1 rfl).1, h1⟩
  | 2, _ => exact ⟨a2, (h.get 2 rfl).1, h2⟩
  | 3, _ => exact ⟨a3, (h.get 3 rfl).1, h3⟩
  | 4, _ => exact ⟨a4, (h.get 4 rfl).1, h4⟩
  | 5, _ => exact ⟨a5, (h.get 5 rfl).1, h5⟩

/-- What the law asks of a root. -/
theorem root_sq (z : Int) (h0 : 0 ≤ z) (h1 : z < 2305843009213693952) : 0 ≤ rootOf z ∧ rootOf z ≤ 2147483648 ∧ (0 ≤ rootOf z * rootOf z ∧ rootOf z * rootOf z ≤ z) ∧ (z < (rootOf z + 1) * (rootOf z + 1) ∧ (rootOf z + 1) * (rootOf z + 1) ≤ 9223372036854775807) := by
  obtain ⟨n, rfl⟩ := Int.eq_ofNat_of_zero_le h0
  have e : rootOf (n : Int) = (isq n : Nat) := by unfold rootOf; rw [if_neg (by omega), Int.toNat_natCast]
  obtain ⟨k1, k2⟩ := isq_spec n
  rw [e]
  have hb : isq n ≤ 2147483647 := by
    rcases Nat.lt_or_ge 2147483647 (isq n) with h | h
    · have := Nat.mul_le_mul (show 2147483648 ≤ isq n from h) (show 2147483648 ≤ isq n from h); omega
    · exact h
  have hc := Nat.mul_le_mul (show isq n + 1 ≤ 2147483648 by omega) (show isq n + 1 ≤ 2147483648 by omega)
  have m1 : ((isq n : Nat) : Int) * ((isq n : Nat) : Int) = ((isq n * isq n : Nat) : Int) := by simp
  have m2 : (((isq n : Nat) : Int) + 1) * (((isq n : Nat) : Int) + 1) = (((isq n + 1) * (isq n + 1) : Nat) : Int) := by simp
  rw [m1, m2]
  omega

theorem tmod_sm (a m : Int) (hm : 1 ≤ m) (hm' : m ≤ 4611686018427387904) : -9223372036854775808 ≤ a.tmod m ∧ a.tmod m ≤ 9223372036854775807 := by
  have b1 := Int.tmod_lt_of_pos a (show (0 : Int) < m by omega)
  have b2 := Int.tmod_lt_of_pos (-a) (show (0 : Int) < m by omega)
  rw [Int.neg_tmod] at b2
  omega

set_option maxRecDepth 100000 in
set_option maxHeartbeats 1000000 in
theorem roots_walk (n : Int) (w : World) (hn : -9223372036854775808 ≤ n ∧ n ≤ 9223372036854775807) :
    Calls Try.prog 6 #[.int .i64 n] w fun e w' => e = .returned (.bool true) ∧ Below w.heap.size w w' := by
  go_enter Try.func6, Try.ntmps6
  go_wp2_with fail
  refine (sane _).mono ?_
  rintro en w1 ⟨rfl, hb1⟩
  go_wp2_with fail
  have t := six (Cells.made w1 [.int .i64 n, .int .i64 (n.tmod 1000000), .int .i64 (wrap64 (n.tmod 1073741824 * n.tmod 1073741824)), .int .i64 (wrap64 (wrap64 (n.tmod 1073741824 * n.tmod 1073741824) - 1)), .int .i64 (wrap64 (wrap64 (n.tmod 1073741824 * n.tmod 1073741824) + 1)), .int .i64 9223372036854775807] 3)
    hn (tmod_sm _ _ (by omega) (by omega)) (wrap64_bd _) (wrap64_bd _) (wrap64_bd _) (by omega)
  have T := Lib.hid t
  clear t
  have hB := hb1.alloc hb1.size (.cells #[.int .i64 n, .int .i64 (n.tmod 1000000), .int .i64 (wrap64 (n.tmod 1073741824 * n.tmod 1073741824)), .int .i64 (wrap64 (wrap64 (n.tmod 1073741824 * n.tmod 1073741824) - 1)), .int .i64 (wrap64 (wrap64 (n.tmod 1073741824 * n.tmod 1073741824) + 1)), .int .i64 9223372036854775807] 3)
  generalize w1.alloc (.cells #[.int .i64 n, .int .i64 (n.tmod 1000000), .int .i64 (wrap64 (n.tmod 1073741824 * n.tmod 1073741824)), .int .i64 (wrap64 (wrap64 (n.tmod 1073741824 * n.tmod 1073741824) - 1)), .int .i64 (wrap64 (wrap64 (n.tmod 1073741824 * n.tmod 1073741824) + 1)), .int .i64 9223372036854775807] 3) = w2 at *
  go_loop [27] (fun v => ∃ k : Nat, k ≤ 6 ∧ v = .int .i64 (k : Int)) (fun v => 6 - (intOf v).toNat)
  case atStart => exact ⟨0, by omega, rfl⟩
  case round =>
    obtain ⟨k, hk, rfl⟩ := hrel
    by_cases hlt : k < 6
    · obtain ⟨z, hc, hz1, hz2⟩ := T.out k hlt
      clear T
      go_wp2_with fail
      refine (sqrt_any z _ hz2).mono ?_
      rintro en w3 ⟨rfl, rfl⟩
      go_wp2_with fail
      refine (rsqrt_any z _ hz2).mono ?_
      rintro en w3 ⟨rfl, rfl⟩
      by_cases h0 : 0 ≤ z
      · by_cases h1 : z < 2305843009213693952
        · obtain ⟨q1, q2, ⟨q3, q4⟩, q5, q6⟩ := root_sq z h0 h1
          go_upto_region 9 with fail
          generalize rootOf z = s at *
          go_wp2_with fail
          go_round
          case rel => exact ⟨k + 1, by omega, by go_num⟩
          case measure => simp [intOf]; omega
        · go_wp2_with fail
          go_round
          case rel => exact ⟨k + 1, by omega, by go_num⟩
          case measure => simp [intOf]; omega
      · have h2 : decide (0 ≤ z) = false := by simpa using h0
        go_wp2_with fail
        go_round
        case rel => exact ⟨k + 1, by omega, by go_num⟩
        case measure => simp [intOf]; omega
    · clear T
      obtain rfl : k = 6 := by omega
      go_wp2_with fail
      go_ret
      exact ⟨rfl, hB⟩

end Go.Proofs.Ytghlhipphmhjhaa
