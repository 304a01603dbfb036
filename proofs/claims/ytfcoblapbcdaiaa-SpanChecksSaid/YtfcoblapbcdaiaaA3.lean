/- The two square roots: what each returns is the greatest number whose square is not greater. -/
import Derived.Test.YtfcoblapbcdaiaaA1
namespace Go.Proofs.Ytfcoblapbcdaiaa
open Go.RowKit Go.Lib

/-- The root of a natural number, rounded down, by counting. -/
def isq : Nat → Nat
  | 0 => 0
  | n + 1 => if (isq n + 1) * (isq n + 1) ≤ n + 1 then isq n + 1 else isq n

theorem isq_spec (n : Nat) : isq n * isq n ≤ n ∧ n < (isq n + 1) * (isq n + 1) := by
  induction n with
  | zero => simp [isq]
  | succ n ih =>
    unfold isq
    split
    · rename_i h
      refine ⟨h, ?_⟩
      have : (isq n + 1 + 1) * (isq n + 1 + 1) = (isq n + 1) * (isq n + 1) + 2 * (isq n + 1) + 1 := by simp only [Nat.add_mul, Nat.mul_add]; omega
      omega
    · omega

theorem root_unique (n s t : Nat) (h1 : s * s ≤ n) (h2 : n < (s + 1) * (s + 1)) (k1 : t * t ≤ n) (k2 : n < (t + 1) * (t + 1)) : s = t := by
  rcases Nat.lt_trichotomy s t with h | h | h
  · have := Nat.mul_le_mul (show s + 1 ≤ t from h) (show s + 1 ≤ t from h); omega
  · exact h
  · have := Nat.mul_le_mul (show t + 1 ≤ s from h) (show t + 1 ≤ s from h); omega

/-- What Sqrt answers. -/
def rootOf (n : Int) : Int := if n < 0 then 0 else (isq n.toNat : Nat)

theorem rootOf_neg {n : Int} (h : n < 0) : 0 = rootOf n := by unfold rootOf; rw [if_pos h]
theorem rootOf_is {n s : Nat} (h1 : s * s ≤ n) (h2 : n < (s + 1) * (s + 1)) : (s : Int) = rootOf (n : Int) := by
  unfold rootOf
  rw [if_neg (by omega), Int.toNat_natCast]
  have := root_unique n s (isq n) h1 h2 (isq_spec n).1 (isq_spec n).2
  omega

/-- A step of the search, bit by bit: either the bit belongs to the root, or it doesn't. -/
theorem bit_or (r j : Nat) : r * 2 ^ (j + 1) ||| 2 ^ j = r * 2 ^ (j + 1) + 2 ^ j := by
  have h := Nat.two_pow_add_eq_or_of_lt (i := j + 1) (b := 2 ^ j) (Nat.pow_lt_pow_right (by omega) (by omega)) r
  rw [Nat.mul_comm, ← h]

/-- How the search stands after k bits: R is the root's upper bits, b the next bit, B its double. -/
def St (n k R B b : Nat) : Prop := B = 2 ^ (32 - k) ∧ b = B / 2 ∧ (∃ r, R = r * B) ∧ R + B ≤ 4294967296 ∧ R * R ≤ n ∧ n < (R + B) * (R + B)

theorem St.start (n : Nat) (h : (n : Int) ≤ 9223372036854775807) : St n 0 0 4294967296 2147483648 :=
  ⟨rfl, rfl, ⟨0, by omega⟩, by omega, by omega, by omega⟩

theorem St.bit {n k R B b : Nat} (h : St n k R B b) (hk : k < 32) : b = 2 ^ (31 - k) ∧ B = 2 * b ∧ 0 < b ∧ R ||| b = R + b ∧ R + b < 4294967296 := by
  obtain ⟨h1, h2, ⟨r, h3⟩, h4, _, _⟩ := h
  have e : B = 2 * 2 ^ (31 - k) := by rw [h1, ← Nat.pow_succ']; congr 1; omega
  have e2 : b = 2 ^ (31 - k) := by omega
  have p : 0 < 2 ^ (31 - k) := Nat.pow_pos (by omega)
  refine ⟨e2, by omega, by omega, ?_, by omega⟩
  have := bit_or r (31 - k)
  rw [show 31 - k + 1 = 32 - k by omega, ← h1, ← e2, ← h3] at this
  exact this

theorem St.yes {n k R B b : Nat} (h : St n k R B b) (hk : k < 32) (hq : (R + b) * (R + b) ≤ n) : St n (k + 1) (R + b) b (b / 2) := by
  obtain ⟨g1, g2, g3, _, _⟩ := h.bit hk
  obtain ⟨_, _, ⟨r, h3⟩, h4, _, h6⟩ := h
  refine ⟨by rw [g1, show 32 - (k + 1) = 31 - k by omega], rfl, ⟨2 * r + 1, ?_⟩, by omega, hq, ?_⟩
  · rw [h3, g2, Nat.add_mul, Nat.one_mul, Nat.mul_comm 2 r, Nat.mul_assoc]
  · rw [show R + b + b = R + B by omega]; exact h6

theorem St.no {n k R B b : Nat} (h : St n k R B b) (hk : k < 32) (hq : n < (R + b) * (R + b)) : St n (k + 1) R b (b / 2) := by
  obtain ⟨g1, g2, g3, _, _⟩ := h.bit hk
  obtain ⟨_, _, ⟨r, h3⟩, h4, h5, _⟩ := h
  refine ⟨by rw [g1, show 32 - (k + 1) = 31 - k by omega], rfl, ⟨2 * r, ?_⟩, by omega, h5, hq⟩
  rw [h3, g2, Nat.mul_comm 2 r, Nat.mul_assoc]

theorem St.last {n R B b : Nat} (h : St n 32 R B b) : b = 0 ∧ R ≤ 4294967295 ∧ (R : Int) = rootOf n := by
  obtain ⟨h1, h2, _, h4, h5, h6⟩ := h
  simp at h1
  subst h1
  exact ⟨by omega, by omega, rootOf_is h5 h6⟩

theorem sq_bd (x : Nat) (h : x < 4294967296) : (0 : Int) ≤ (x : Int) * (x : Int) ∧ (x : Int) * (x : Int) ≤ 18446744073709551615 := by
  have := Nat.mul_le_mul (show x ≤ 4294967295 by omega) (show x ≤ 4294967295 by omega)
  rw [← Int.natCast_mul]; omega

set_option maxHeartbeats 400000 in
theorem sqrt_nn (n : Nat) (w : World) (hn : (n : Int) ≤ 9223372036854775807) :
    Calls Try.prog 33 #[.int .i64 (n : Int)] w fun e w' => e = .returned (.int .i64 (rootOf n)) ∧ w = w' := by
  have hn0 : (0 : Int) ≤ (n : Int) := by omega
  have hn1 : decide ((n : Int) < 0) = false := by simp
  have S0 := St.start n hn
  go_enter Try.func33, Try.ntmps33
  go_wp2_with fail
  go_loop [3, 4] (fun x y => ∃ k R B b : Nat, k ≤ 32 ∧ St n k R B b ∧ x = .int .u64 (R : Int) ∧ y = .int .u64 (b : Int)) (fun _ y => (intOf y).toNat)
  case atStart => exact ⟨0, 0, 4294967296, 2147483648, by omega, S0, rfl, rfl⟩
  case round =>
    clear S0
    obtain ⟨k, R, B, b, hk, S, rfl, rfl⟩ := hrel
    by_cases hlt : k < 32
    · obtain ⟨-, -, hb0, hor, hlt2⟩ := S.bit hlt
      obtain ⟨nx, hnx⟩ : ∃ nx : Nat, nx = R + b := ⟨_, rfl⟩
      have hb : bits BinOp.or IntKind.u64 (R : Int) (b : Int) = (nx : Int) := by
        rw [hnx, ← hor]; exact bits_or_u64_nat _ _ (by omega) (by omega)
      obtain ⟨hs1, hs2⟩ := sq_bd nx (by omega)
      have HN := Lib.hid hnx
      clear hnx hor
      have hb1 : decide ((0 : Int) < (b : Int)) = true := by simp; omega
      by_cases hq : nx * nx ≤ n
      · have hq1 : (nx : Int) * (nx : Int) ≤ (n : Int) := by rw [← Int.natCast_mul]; omega
        have S2 := S.yes hlt (by rw [← HN.out]; exact hq)
        rw [← HN.out] at S2
        clear S hlt2 HN hq
        go_wp2_with fail
        go_round
        case rel => exact ⟨k + 1, nx, b, b / 2, by omega, S2, rfl, by simp⟩
        case measure => simp [intOf]; omega
      · have hq1 : (n : Int) < (nx : Int) * (nx : Int) := by rw [← Int.natCast_mul]; omega
        have S2 := S.no hlt (by rw [← HN.out]; omega)
        clear S hlt2 HN hq
        go_wp2_with fail
        go_round
        case rel => exact ⟨k + 1, R, b, b / 2, by omega, S2, rfl, by simp⟩
        case measure => simp [intOf]; omega
    · obtain rfl : k = 32 := by omega
      obtain ⟨rfl, hR, hE⟩ := S.last
      have HE := Lib.hid hE
      clear hE S
      go_wp2_with fail
      go_ret
      exact ⟨ret_i HE.out, rfl⟩

set_option maxHeartbeats 400000 in
theorem sqrt_any (n : Int) (w : World) (hn : n ≤ 9223372036854775807) :
    Calls Try.prog 33 #[.int .i64 n] w fun e w' => e = .returned (.int .i64 (rootOf n)) ∧ w = w' := by
  by_cases h : n < 0
  · go_enter Try.func33, Try.ntmps33
    go_wp2_with fail
    go_ret
    exact ⟨ret_i (rootOf_neg h), rfl⟩
  · obtain ⟨m, rfl⟩ := Int.eq_ofNat_of_zero_le (show 0 ≤ n by omega)
    exact sqrt_nn m w hn

end Go.Proofs.Ytfcoblapbcdaiaa
