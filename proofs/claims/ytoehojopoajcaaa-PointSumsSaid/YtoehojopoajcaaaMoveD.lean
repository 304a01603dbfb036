/- What Move answers: the words. -/
import Derived.Test.YtoehojopoajcaaaSpot
namespace Go.Proofs.Ytoehojopoajcaaa
open Go.RowKit Go.Lib

theorem Has.fourth {w0 w : World} {bs : List (Nat × List Value)} {p q r s : Nat × List Value} (h : Has w0 (p :: q :: r :: s :: bs) w) : Has w0 (s :: p :: q :: r :: bs) w :=
  h.perm ((List.Perm.cons _ ((List.Perm.cons _ (.swap _ _ _)).trans (.swap _ _ _))).trans (.swap _ _ _))

/-- What is moved, ahead of its lowest terms. -/
def mX (a0 a2 b0 b2 fn fd : Int) : Int := (fd - fn) * b2 * a0 + fn * a2 * b0
def mD (a2 b2 fd : Int) : Int := fd * a2 * b2
def mG (a0 a1 a2 b0 b1 b2 fn fd : Int) : Int := gcdOf (gcdOf (mX a0 a2 b0 b2 fn fd) (mX a1 a2 b1 b2 fn fd)) (mD a2 b2 fd)
/-- What Move answers. -/
def mvI (a0 a1 a2 b0 b1 b2 fn fd : Int) : Bool := rs a0 a1 a2 && (rs b0 b1 b2 && rf fn fd)
def mv0 (a0 a1 a2 b0 b1 b2 fn fd : Int) : Int := if mvI a0 a1 a2 b0 b1 b2 fn fd = true then (mX a0 a2 b0 b2 fn fd).tdiv (mG a0 a1 a2 b0 b1 b2 fn fd) else 0
def mv1 (a0 a1 a2 b0 b1 b2 fn fd : Int) : Int := if mvI a0 a1 a2 b0 b1 b2 fn fd = true then (mX a1 a2 b1 b2 fn fd).tdiv (mG a0 a1 a2 b0 b1 b2 fn fd) else 0
def mv2 (a0 a1 a2 b0 b1 b2 fn fd : Int) : Int := if mvI a0 a1 a2 b0 b1 b2 fn fd = true then mD a2 b2 fd / mG a0 a1 a2 b0 b1 b2 fn fd else 0

theorem ret_mv {a b c d e f : Int} {s t : Bool} (h : a = d) (k : b = e) (l : c = f) (m : s = t) : Ending.returned (.tuple #[.agg #[.int .i64 a, .int .i64 b, .int .i64 c], .bool s]) = .returned (.tuple #[.agg #[.int .i64 d, .int .i64 e, .int .i64 f], .bool t]) := by rw [h, k, l, m]
theorem mv_no {a0 a1 a2 b0 b1 b2 fn fd : Int} (h : mvI a0 a1 a2 b0 b1 b2 fn fd = false) : Ending.returned (.tuple #[.agg #[.int .i64 0, .int .i64 0, .int .i64 0], .bool false]) = .returned (.tuple #[.agg #[.int .i64 (mv0 a0 a1 a2 b0 b1 b2 fn fd), .int .i64 (mv1 a0 a1 a2 b0 b1 b2 fn fd), .int .i64 (mv2 a0 a1 a2 b0 b1 b2 fn fd)], .bool (mvI a0 a1 a2 b0 b1 b2 fn fd)]) := by
  unfold mv0 mv1 mv2
  rw [h]
  rfl
theorem mvI_0 {a0 a1 a2 b0 b1 b2 fn fd : Int} (h : rs a0 a1 a2 = false) : mvI a0 a1 a2 b0 b1 b2 fn fd = false := by unfold mvI; rw [h]; rfl
theorem mvI_1 {a0 a1 a2 b0 b1 b2 fn fd : Int} (h : rs b0 b1 b2 = false) : mvI a0 a1 a2 b0 b1 b2 fn fd = false := by unfold mvI; rw [h, Bool.false_and, Bool.and_false]
theorem mvI_2 {a0 a1 a2 b0 b1 b2 fn fd : Int} (h : rf fn fd = false) : mvI a0 a1 a2 b0 b1 b2 fn fd = false := by unfold mvI; rw [h, Bool.and_false, Bool.and_false]
theorem mvI_3 {a0 a1 a2 b0 b1 b2 fn fd : Int} (h : rs a0 a1 a2 = true) (k : rs b0 b1 b2 = true) (l : rf fn fd = true) : mvI a0 a1 a2 b0 b1 b2 fn fd = true := by unfold mvI; rw [h, k, l]; rfl

theorem rs_iff {x y z : Int} : rs x y z = true ↔ (1 ≤ z ∧ z ≤ 2048 ∧ -(16384 * z) ≤ x ∧ x ≤ 16384 * z ∧ -(16384 * z) ≤ y ∧ y ≤ 16384 * z) := by unfold rs; rw [Bool.and_eq_true, btw_iff, inl_iff]; omega
theorem rf_iff {n d : Int} : rf n d = true ↔ (1 ≤ d ∧ d ≤ 1048576 ∧ 0 ≤ n ∧ n ≤ d) := by unfold rf; rw [Bool.and_eq_true, btw_iff, btw_iff]; omega
theorem mul_b (a b m n : Int) (ha : -m ≤ a ∧ a ≤ m) (hb : -n ≤ b ∧ b ≤ n) (hm : 0 ≤ m) (hn : 0 ≤ n) : -(m * n) ≤ a * b ∧ a * b ≤ m * n := by
  have h : (a * b).natAbs ≤ m.natAbs * n.natAbs := by
    rw [Int.natAbs_mul]; exact Nat.mul_le_mul (by omega) (by omega)
  have e : ((m.natAbs * n.natAbs : Nat) : Int) = m * n := by rw [Int.natCast_mul]; rw [Int.natAbs_of_nonneg hm, Int.natAbs_of_nonneg hn]
  omega
theorem mul_p (a b m n : Int) (ha : 1 ≤ a ∧ a ≤ m) (hb : 1 ≤ b ∧ b ≤ n) : 1 ≤ a * b ∧ a * b ≤ m * n :=
  ⟨by have := Int.mul_le_mul ha.1 hb.1 (by omega) (by omega); omega, Int.mul_le_mul ha.2 hb.2 (by omega) (by omega)⟩

/-- The bounds of what is moved. -/
structure MB (a0 a1 a2 b0 b1 b2 fn fd : Int) : Prop where
  a : 1 ≤ a2 ∧ a2 ≤ 2048
  b : 1 ≤ b2 ∧ b2 ≤ 2048
  f : 1 ≤ fd ∧ fd ≤ 1048576 ∧ 0 ≤ fn ∧ fn ≤ fd
  x : -33554432 ≤ a0 ∧ a0 ≤ 33554432
  y : -33554432 ≤ a1 ∧ a1 ≤ 33554432
  z : -33554432 ≤ b0 ∧ b0 ≤ 33554432
  u : -33554432 ≤ b1 ∧ b1 ≤ 33554432
theorem mb {a0 a1 a2 b0 b1 b2 fn fd : Int} (h : rs a0 a1 a2 = true) (k : rs b0 b1 b2 = true) (l : rf fn fd = true) : MB a0 a1 a2 b0 b1 b2 fn fd := by
  rw [rs_iff] at h k
  rw [rf_iff] at l
  exact ⟨by omega, by omega, by omega, by omega, by omega, by omega, by omega⟩
theorem mvI_iff {a0 a1 a2 b0 b1 b2 fn fd : Int} : mvI a0 a1 a2 b0 b1 b2 fn fd = true ↔ (rs a0 a1 a2 = true ∧ rs b0 b1 b2 = true ∧ rf fn fd = true) := by unfold mvI; rw [Bool.and_eq_true, Bool.and_eq_true]

end Go.Proofs.Ytoehojopoajcaaa
