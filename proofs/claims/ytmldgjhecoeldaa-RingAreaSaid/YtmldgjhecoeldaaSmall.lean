/- The functions of the laws that make points and spots small, and Turn of point and of its reference. -/
import Derived.Test.YtmldgjhecoeldaaHas
import Derived.IntWalk
namespace Go.Proofs.Ytmldgjhecoeldaa
open Go.RowKit Go.Lib

/-- What small makes of a coordinate. -/
def sm (x : Int) : Int := x % 25 - 12
theorem sm_bd (x : Int) : -12 ≤ sm x ∧ sm x ≤ 12 := by unfold sm; omega

/-- What cut makes of D, and of a coordinate. -/
def cutD (z : Int) : Int := z % 2048 + 1
def cutX (x z : Int) : Int := x.tmod (16384 * cutD z + 1)

theorem tmod_bd (x m : Int) (hm : 1 ≤ m) : -m < x.tmod m ∧ x.tmod m < m := by
  have b1 := Int.tmod_lt_of_pos x (show 0 < m by omega)
  have b2 := Int.tmod_lt_of_pos (-x) (show 0 < m by omega)
  rw [Int.neg_tmod] at b2
  omega
theorem cutD_bd (z : Int) : 1 ≤ cutD z ∧ cutD z ≤ 2048 := by unfold cutD; omega
theorem cutX_bd (x z : Int) : -(16384 * cutD z) ≤ cutX x z ∧ cutX x z ≤ 16384 * cutD z := by
  have h := cutD_bd z
  have := tmod_bd x (16384 * cutD z + 1) (by omega)
  unfold cutX
  omega

theorem and3 (n : Int) : bits .and .i64 n 3 = n % 4 := by
  have h3 : (BitVec.ofInt 64 3).toNat = 2 ^ 2 - 1 := by decide
  have key : (BitVec.ofInt 64 n &&& BitVec.ofInt 64 3).toNat = (n % ((2 ^ 64 : Nat) : Int)).toNat % 2 ^ 2 := by
    rw [BitVec.toNat_and, BitVec.toNat_ofInt, h3, Nat.and_two_pow_sub_one_eq_mod]
  show IntKind.i64.wrap ((BitVec.ofInt 64 n &&& BitVec.ofInt 64 3).toNat : Nat) = n % 4
  rw [key, IntKind.wrap_i64]
  omega

/-- A quarter of a turn, and k of them. -/
def rotN : Nat → Int → Int → Int × Int
  | 0, x, y => (x, y)
  | k + 1, x, y => (wrap64 (-(rotN k x y).2), (rotN k x y).1)

end Go.Proofs.Ytmldgjhecoeldaa
