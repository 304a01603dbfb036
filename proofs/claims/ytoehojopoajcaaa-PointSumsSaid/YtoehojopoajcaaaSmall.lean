/- The functions of the laws that make points and spots small, and Turn of point and of its reference. -/
import Derived.Test.YtoehojopoajcaaaHas
import Derived.IntWalk
namespace Go.Proofs.Ytoehojopoajcaaa
open Go.RowKit Go.Lib

/-- What small makes of a coordinate. -/
def sm (x : Int) : Int := x % 25 - 12
theorem sm_bd (x : Int) : -12 ≤ sm x ∧ sm x ≤ 12 := by unfold sm; omega

set_option maxHeartbeats 1000000 in
theorem small_any (x y : Int) (w : World) :
    Calls Try.prog 28 #[.agg #[.int .i64 x, .int .i64 y]] w fun e w' => e = .returned (.agg #[.int .i64 (sm x), .int .i64 (sm y)]) ∧ Below w.heap.size w w' := by
  have C0 := (has2 (w := w) [.int .i64 x, .int .i64 y] [.int .i64 0, .int .i64 0] 28 28).swap
  have e1 : IntKind.i64.wrap (x % 25 - 12) = sm x := IntWalk.i64_in _ (by omega)
  have e2 : IntKind.i64.wrap (y % 25 - 12) = sm y := IntWalk.i64_in _ (by omega)
  go_enter Try.func28, Try.ntmps28
  go_wp2_with fail
  change Has w _ ((w.alloc (.cells #[.int .i64 x, .int .i64 y] 28)).alloc (.cells #[.int .i64 0, .int .i64 0] 28)) at C0
  generalize (w.alloc (.cells #[.int .i64 x, .int .i64 y] 28)).alloc (.cells #[.int .i64 0, .int .i64 0] 28) = w1 at *
  obtain ⟨⟨k0, k1, k2, k3⟩, -⟩ := C0.two
  obtain ⟨f0, f1⟩ := C0.ptf
  go_region_held3 (fun w' => (w'.cell? ⟨w.heap.size, 0, none⟩ = some (.int .i64 x) ∧ w'.cell? ⟨w.heap.size, 1, none⟩ = some (.int .i64 y)) ∧ ∃ a b, Has w [(w.heap.size + 1, [.int .i64 a, .int .i64 b]), (w.heap.size, [.int .i64 x, .int .i64 y])] w')
    (first | exact ⟨C0.drew.tail.pt, _, _, C0.drew⟩ | exact ⟨(Has.tail (by assumption)).pt, _, _, by assumption⟩ | exact ⟨(Has.tail (Has.set2 (by assumption) _ _)).pt, _, _, Has.set2 (by assumption) _ _⟩)
    (first
      | (go_at_call 37; refine (mod_any _ _ _ (by omega) (by omega)).mono ?_; rintro e w' ⟨rfl, rfl⟩)
      | (go_at_call 29; refine (Has.call (by first | assumption | exact C0.drew) (pt_any _ _ _)).mono ?_; rintro e w' ⟨rfl, hC⟩; obtain ⟨g00, g01⟩ := Has.pt hC; obtain ⟨g10, g11⟩ := Has.ptf hC))
  have C3 := Has.set2 hC (.int .i64 (sm x)) (.int .i64 (sm y))
  go_wp2_with fail
  generalize (World.setCell _ ⟨w.heap.size + 1, 0, none⟩ (.int .i64 (sm x))).setCell ⟨w.heap.size + 1, 1, none⟩ (.int .i64 (sm y)) = w3 at *
  obtain ⟨d0, d1⟩ := C3.pt
  exact bodyPost_ret (v := .agg #[.int .i64 (sm x), .int .i64 (sm y)]) (by simp [results, Try.results28, go_sem, d0, d1]) rfl ⟨rfl, C3.low⟩

/-- What cut makes of D, and of a coordinate. -/
def cutD (z : Int) : Int := z % 2048 + 1
def cutX (x z : Int) : Int := x.tmod (16384 * cutD z + 1)

theorem tmod_bd (x m : Int) (hm : 1 ≤ m) : -m < x.tmod m ∧ x.tmod m < m := by
  have b1 := Int.tmod_lt_of_pos x (show 0 < m by omega)
  have b2 := Int.tmod_lt_of_pos (-x) (show 0 < m by omega)
  rw [Int.neg_tmod] at b2
  omega
theorem cutD_bd (z : Int) : 1 ≤ cutD z ∧ cutD z ≤ 2048 := by unfold cutD; omega
theorem cutX_bd (x z : Int) : -(16384 * cutD z) ≤ cutX x z ∧ cutX x z ≤ 16384 * cutD z := by
  have h := cutD_bd z
  have := tmod_bd x (16384 * cutD z + 1) (by omega)
  unfold cutX
  omega

set_option maxHeartbeats 1000000 in
theorem cut_any (x y z : Int) (w : World) :
    Calls Try.prog 36 #[.agg #[.int .i64 x, .int .i64 y, .int .i64 z]] w fun e w' => e = .returned (.agg #[.int .i64 (cutX x z), .int .i64 (cutX y z), .int .i64 (cutD z)]) ∧ Below w.heap.size w w' := by
  have C0 := (has2 (w := w) [.int .i64 x, .int .i64 y, .int .i64 z] [.int .i64 0, .int .i64 0, .int .i64 0] 34 34).swap
  obtain ⟨D, hD⟩ : ∃ D, cutD z = D := ⟨_, rfl⟩
  have hb := cutD_bd z
  unfold cutX
  rw [hD] at hb ⊢
  unfold cutD at hD
  have HD := Lib.hid hD
  clear hD
  have e0 : (16384 * D + 1 == 0) = false := by rw [beq_eq_false_iff_ne]; omega
  have e1 : ¬ 16384 * D + 1 = 0 := by omega
  have e2 : IntKind.i64.wrap (16384 * D) = 16384 * D := IntWalk.i64_in _ (by omega)
  have e3 : IntKind.i64.wrap (16384 * D + 1) = 16384 * D + 1 := IntWalk.i64_in _ (by omega)
  go_enter Try.func36, Try.ntmps36
  go_wp2_with fail
  refine (mod_any _ _ _ (by omega) (by omega)).mono ?_
  rintro e w' ⟨rfl, rfl⟩
  go_wp2_with fail
  rw [HD.out]
  change Has w _ ((w.alloc (.cells #[.int .i64 x, .int .i64 y, .int .i64 z] 34)).alloc (.cells #[.int .i64 0, .int .i64 0, .int .i64 0] 34)) at C0
  generalize (w.alloc (.cells #[.int .i64 x, .int .i64 y, .int .i64 z] 34)).alloc (.cells #[.int .i64 0, .int .i64 0, .int .i64 0] 34) = w1 at *
  have k0 := C0.tail.fact (.head _) (i := 0) rfl
  have k1 := C0.tail.fact (.head _) (i := 1) rfl
  have k2 := C0.tail.fact (.head _) (i := 2) rfl
  have g0 := C0.fact (.head _) (i := 0) rfl
  have g1 := C0.fact (.head _) (i := 1) rfl
  have g2 := C0.fact (.head _) (i := 2) rfl
  have f0 := C0.free (.head _) (i := 0) rfl
  have f1 := C0.free (.head _) (i := 1) rfl
  have f2 := C0.free (.head _) (i := 2) rfl
  have C3 := (C0.set3 (.int .i64 (x.tmod (16384 * D + 1))) (.int .i64 (y.tmod (16384 * D + 1))) (.int .i64 D)).drew
  go_region
  generalize (((World.setCell _ ⟨w.heap.size + 1, 0, none⟩ (.int .i64 (x.tmod (16384 * D + 1)))).setCell ⟨w.heap.size + 1, 1, none⟩ (.int .i64 (y.tmod (16384 * D + 1)))).setCell ⟨w.heap.size + 1, 2, none⟩ (.int .i64 D)).drew = w3 at *
  clear k0 k1 k2 g0 g1 g2
  have d0 := C3.fact (.head _) (i := 0) rfl
  have d1 := C3.fact (.head _) (i := 1) rfl
  have d2 := C3.fact (.head _) (i := 2) rfl
  go_wp2_with fail
  exact bodyPost_ret (v := .agg #[.int .i64 (x.tmod (16384 * D + 1)), .int .i64 (y.tmod (16384 * D + 1)), .int .i64 D]) (by simp [results, Try.results36, go_sem, d0, d1, d2]) rfl ⟨rfl, C3.low⟩

theorem and3 (n : Int) : bits .and .i64 n 3 = n % 4 := by
  have h3 : (BitVec.ofInt 64 3).toNat = 2 ^ 2 - 1 := by decide
  have key : (BitVec.ofInt 64 n &&& BitVec.ofInt 64 3).toNat = (n % ((2 ^ 64 : Nat) : Int)).toNat % 2 ^ 2 := by
    rw [BitVec.toNat_and, BitVec.toNat_ofInt, h3, Nat.and_two_pow_sub_one_eq_mod]
  show IntKind.i64.wrap ((BitVec.ofInt 64 n &&& BitVec.ofInt 64 3).toNat : Nat) = n % 4
  rw [key, IntKind.wrap_i64]
  omega

/-- A quarter of a turn, and k of them. -/
def rotN : Nat → Int → Int → Int × Int
  | 0, x, y => (x, y)
  | k + 1, x, y => (wrap64 (-(rotN k x y).2), (rotN k x y).1)

set_option maxHeartbeats 1000000 in
theorem turn_any (x y n : Int) (w : World) :
    Calls Try.prog 20 #[.agg #[.int .i64 x, .int .i64 y], .int .i64 n] w fun e w' => e = .returned (.agg #[.int .i64 (rotN (n % 4).toNat x y).1, .int .i64 (rotN (n % 4).toNat x y).2]) ∧ Below w.heap.size w w' := by
  obtain ⟨m, hm⟩ : ∃ m : Nat, n % 4 = m := ⟨(n % 4).toNat, by omega⟩
  have hm3 : m ≤ 3 := by omega
  have C0 := has2 (w := w) [.int .i64 x, .int .i64 y] [.int .i64 0, .int .i64 0] 28 28
  rw [hm, Int.toNat_natCast]
  have HM := Lib.hid hm
  clear hm
  go_enter Try.func20, Try.ntmps20
  go_wp2_with fail
  rw [and3, HM.out]
  change Has w _ ((w.alloc (.cells #[.int .i64 x, .int .i64 y] 28)).alloc (.cells #[.int .i64 0, .int .i64 0] 28)) at C0
  generalize (w.alloc (.cells #[.int .i64 x, .int .i64 y] 28)).alloc (.cells #[.int .i64 0, .int .i64 0] 28) = w1 at *
  go_loopw [7] (fun i wr => ∃ k : Nat, k ≤ m ∧ i = .int .i64 (k : Int) ∧ Has w [(w.heap.size, [.int .i64 (rotN k x y).1, .int .i64 (rotN k x y).2]), (w.heap.size + 1, [.int .i64 0, .int .i64 0])] wr) (fun i _ => m - (intOf i).toNat)
  case atStart => exact ⟨0, by omega, rfl, C0⟩
  case round =>
    clear C0
    obtain ⟨k, hk, rfl, C⟩ := hrel
    by_cases hlt : k < m
    · obtain ⟨c0, c1⟩ := C.pt
      obtain ⟨f0, f1⟩ := C.ptf
      have C1 := C.set2 (.int .i64 (wrap64 (-(rotN k x y).2))) (.int .i64 (rotN k x y).1)
      go_wp2_with fail
      go_round
      case rel => exact ⟨k + 1, by omega, by go_num, C1⟩
      case measure => simp [intOf]; omega
    · obtain rfl : k = m := by omega
      have C1 := C.swap.set2 (.int .i64 (rotN k x y).1) (.int .i64 (rotN k x y).2)
      obtain ⟨c0, c1⟩ := C.pt
      obtain ⟨c2, c3⟩ := C.tail.pt
      obtain ⟨f2, f3⟩ := C.tail.ptf
      go_wp2_with fail
      generalize (World.setCell _ ⟨w.heap.size + 1, 0, none⟩ (.int .i64 (rotN k x y).1)).setCell ⟨w.heap.size + 1, 1, none⟩ (.int .i64 (rotN k x y).2) = w3 at *
      obtain ⟨d0, d1⟩ := C1.pt
      exact bodyPost_ret (v := .agg #[.int .i64 (rotN k x y).1, .int .i64 (rotN k x y).2]) (by simp [results, Try.results20, go_sem, d0, d1]) rfl ⟨rfl, C1.low⟩

set_option maxHeartbeats 1000000 in
theorem rturn_any (x y n : Int) (w : World) :
    Calls Try.prog 21 #[.agg #[.int .i64 x, .int .i64 y], .int .i64 n] w fun e w' => e = .returned (.agg #[.int .i64 (rotN (n % 4).toNat x y).1, .int .i64 (rotN (n % 4).toNat x y).2]) ∧ Below w.heap.size w w' := by
  obtain ⟨m, hm⟩ : ∃ m : Nat, n % 4 = m := ⟨(n % 4).toNat, by omega⟩
  have hm3 : m ≤ 3 := by omega
  have C0 := has2 (w := w) [.int .i64 x, .int .i64 y] [.int .i64 0, .int .i64 0] 28 28
  rw [hm, Int.toNat_natCast]
  have HM := Lib.hid hm
  clear hm
  go_enter Try.func21, Try.ntmps21
  go_wp2_with fail
  change Has w _ ((w.alloc (.cells #[.int .i64 x, .int .i64 y] 28)).alloc (.cells #[.int .i64 0, .int .i64 0] 28)) at C0
  generalize (w.alloc (.cells #[.int .i64 x, .int .i64 y] 28)).alloc (.cells #[.int .i64 0, .int .i64 0] 28) = w1 at *
  go_loopw [5] (fun i wr => ∃ k : Nat, k ≤ m ∧ i = .int .i64 (k : Int) ∧ Has w [(w.heap.size, [.int .i64 (rotN k x y).1, .int .i64 (rotN k x y).2]), (w.heap.size + 1, [.int .i64 0, .int .i64 0])] wr) (fun i _ => m - (intOf i).toNat)
  case atStart => exact ⟨0, by omega, rfl, C0⟩
  case round =>
    clear C0
    obtain ⟨k, hk, rfl, C⟩ := hrel
    go_wp2_with fail
    refine (mod_any _ _ _ (by omega) (by omega)).mono ?_
    rintro e w' ⟨rfl, rfl⟩
    rw [HM.out]
    by_cases hlt : k < m
    · obtain ⟨c0, c1⟩ := C.pt
      obtain ⟨f0, f1⟩ := C.ptf
      have C1 := C.set2 (.int .i64 (wrap64 (-(rotN k x y).2))) (.int .i64 (rotN k x y).1)
      go_wp2_with fail
      go_round
      case rel => exact ⟨k + 1, by omega, by go_num, C1⟩
      case measure => simp [intOf]; omega
    · obtain rfl : k = m := by omega
      have C1 := C.swap.set2 (.int .i64 (rotN k x y).1) (.int .i64 (rotN k x y).2)
      obtain ⟨c0, c1⟩ := C.pt
      obtain ⟨c2, c3⟩ := C.tail.pt
      obtain ⟨f2, f3⟩ := C.tail.ptf
      go_wp2_with fail
      generalize (World.setCell _ ⟨w.heap.size + 1, 0, none⟩ (.int .i64 (rotN k x y).1)).setCell ⟨w.heap.size + 1, 1, none⟩ (.int .i64 (rotN k x y).2) = w3 at *
      obtain ⟨d0, d1⟩ := C1.pt
      exact bodyPost_ret (v := .agg #[.int .i64 (rotN k x y).1, .int .i64 (rotN k x y).2]) (by simp [results, Try.results21, go_sem, d0, d1]) rfl ⟨rfl, C1.low⟩

end Go.Proofs.Ytoehojopoajcaaa
