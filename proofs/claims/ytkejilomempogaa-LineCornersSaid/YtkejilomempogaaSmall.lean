/- The functions of the laws that make points and spots small, and Turn of point and of its reference. -/
import Derived.Test.YtkejilomempogaaHas
import Derived.IntWalk
namespace Go.Proofs.Ytkejilomempogaa
open Go.RowKit Go.Lib

/-- What small makes of a coordinate. -/
def sm (x : Int) : Int := x % 25 - 12
theorem sm_bd (x : Int) : -12 ≤ sm x ∧ sm x ≤ 12 := by unfold sm; omega

/-- What cut makes of D, and of a coordinate. -/
def cutD (z : Int) : Int := z % 2048 + 1
def cutX (x z : Int) : Int := x.tmod (16384 * cutD z + 1)

theorem tmod_bd (x m : Int) (hm : 1 ≤ m) : -m < x.tmod m ∧ x.tmod m < m := by
  have b1 := Int.tmod_lt_of_pos x (show 0 < m by omega)
  have b2 := Int.tmod_lt_of_pos (-x) (show 0 < m by omega)
  rw [Int.neg_tmod] at b2
  omega
theorem cutD_bd (z : Int) : 1 ≤ cutD z ∧ cutD z ≤ 2048 := by unfold cutD; omega
theorem cutX_bd (x z : Int) : -(16384 * cutD z) ≤ cutX x z ∧ cutX x z ≤ 16384 * cutD z := by
  have h := cutD_bd z
  have := tmod_bd x (16384 * cutD z + 1) (by omega)
  unfold cutX
  omega

theorem and3 (n : Int) : bits .and .i64 n 3 = n % 4 := by
  have h3 : (BitVec.ofInt 64 3).toNat = 2 ^ 2 - 1 := by decide
  have key : (BitVec.ofInt 64 n &&& BitVec.ofInt 64 3).toNat = (n % ((2 ^ 64 : Nat) : Int)).toNat % 2 ^ 2 := by
    rw [BitVec.toNat_and, BitVec.toNat_ofInt, h3, Nat.and_two_pow_sub_one_eq_mod]
  show IntKind.i64.wrap ((BitVec.ofInt 64 n &&& BitVec.ofInt 64 3).toNat : Nat) = n % 4
  rw [key, IntKind.wrap_i64]
  omega

/-- A quarter of a turn, and k of them. -/
def rotN : Nat → Int → Int → Int × Int
  | 0, x, y => (x, y)
  | k + 1, x, y => (wrap64 (-(rotN k x y).2), (rotN k x y).1)

set_option maxHeartbeats 1000000 in
theorem turn_any (x y n : Int) (w : World) :
    Calls Try.prog 57 #[.agg #[.int .i64 x, .int .i64 y], .int .i64 n] w fun e w' => e = .returned (.agg #[.int .i64 (rotN (n % 4).toNat x y).1, .int .i64 (rotN (n % 4).toNat x y).2]) ∧ Below w.heap.size w w' := by
  obtain ⟨m, hm⟩ : ∃ m : Nat, n % 4 = m := ⟨(n % 4).toNat, by omega⟩
  have hm3 : m ≤ 3 := by omega
  have C0 := has2 (w := w) [.int .i64 x, .int .i64 y] [.int .i64 0, .int .i64 0] 36 36
  rw [hm, Int.toNat_natCast]
  have HM := Lib.hid hm
  clear hm
  go_enter Try.func57, Try.ntmps57
  go_wp2_with fail
  rw [and3, HM.out]
  change Has w _ ((w.alloc (.cells #[.int .i64 x, .int .i64 y] 36)).alloc (.cells #[.int .i64 0, .int .i64 0] 36)) at C0
  generalize (w.alloc (.cells #[.int .i64 x, .int .i64 y] 36)).alloc (.cells #[.int .i64 0, .int .i64 0] 36) = w1 at *
  go_loopw [7] (fun i wr => ∃ k : Nat, k ≤ m ∧ i = .int .i64 (k : Int) ∧ Has w [(w.heap.size, [.int .i64 (rotN k x y).1, .int .i64 (rotN k x y).2]), (w.heap.size + 1, [.int .i64 0, .int .i64 0])] wr) (fun i _ => m - (intOf i).toNat)
  case atStart => exact ⟨0, by omega, rfl, C0⟩
  case round =>
    clear C0
    obtain ⟨k, hk, rfl, C⟩ := hrel
    by_cases hlt : k < m
    · obtain ⟨c0, c1⟩ := C.pt
      obtain ⟨f0, f1⟩ := C.ptf
      have C1 := C.set2 (.int .i64 (wrap64 (-(rotN k x y).2))) (.int .i64 (rotN k x y).1)
      go_wp2_with fail
      go_round
      case rel => exact ⟨k + 1, by omega, by go_num, C1⟩
      case measure => simp [intOf]; omega
    · obtain rfl : k = m := by omega
      have C1 := C.swap.set2 (.int .i64 (rotN k x y).1) (.int .i64 (rotN k x y).2)
      obtain ⟨c0, c1⟩ := C.pt
      obtain ⟨c2, c3⟩ := C.tail.pt
      obtain ⟨f2, f3⟩ := C.tail.ptf
      go_wp2_with fail
      generalize (World.setCell _ ⟨w.heap.size + 1, 0, none⟩ (.int .i64 (rotN k x y).1)).setCell ⟨w.heap.size + 1, 1, none⟩ (.int .i64 (rotN k x y).2) = w3 at *
      obtain ⟨d0, d1⟩ := C1.pt
      exact bodyPost_ret (v := .agg #[.int .i64 (rotN k x y).1, .int .i64 (rotN k x y).2]) (by simp [results, Try.results57, go_sem, d0, d1]) rfl ⟨rfl, C1.low⟩

end Go.Proofs.Ytkejilomempogaa
