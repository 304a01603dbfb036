/- The small functions of exact and of its reference: what each returns, in plain integers. -/
import Derived.Test.YtfcoblapbcdaiaaRows
import Derived.WalkKit
import Derived.WalkSpells
import Derived.WalkLawsBesides
import Derived.Shelf.Bits.Mul64
import Derived.Handy
import Derived.Lib.Hide
import Derived.Deep.QuietTactic
import Derived.BigQuiet
namespace Go.Proofs.Ytfcoblapbcdaiaa
open Go.RowKit Go.Lib

/-- A block of the call's own that begins with these cells, none of them frozen. -/
def Cells (w : World) (b : Nat) (xs : List Value) : Prop := ∀ i v, xs[i]? = some v → w.cell? ⟨b, i, none⟩ = some v ∧ w.frozen? ⟨b, i, none⟩ = false
theorem Cells.made (w : World) (xs : List Value) (T : TypeId) : Cells (w.alloc (.cells xs.toArray T)) w.heap.size xs := by
  intro i v h
  exact ⟨by rw [World.cell?_alloc_new]; simpa using h, World.frozen?_alloc_new _ _ _ _⟩
theorem Cells.later {w w' : World} {b B : Nat} {xs : List Value} (h : Cells w b xs) (hb : Below B w w') (hB : b < B) : Cells w' b xs := fun i v hv =>
  ⟨(hb.cell (p := ⟨b, i, none⟩) hB).trans (h i v hv).1, (hb.frozen (p := ⟨b, i, none⟩) hB).trans (h i v hv).2⟩
theorem Cells.alloc {w : World} {b : Nat} {xs : List Value} (h : Cells w b xs) (hB : b < w.heap.size) (o : Obj) : Cells (w.alloc o) b xs :=
  h.later ((Below.refl _ w).alloc (Nat.le_refl _) o) hB
theorem Cells.get {w : World} {b : Nat} {xs : List Value} (h : Cells w b xs) (i : Nat) {v : Value} (hv : xs[i]? = some v) : w.cell? ⟨b, i, none⟩ = some v ∧ w.frozen? ⟨b, i, none⟩ = false := h i v hv
theorem Cells.set {w : World} {b : Nat} {xs : List Value} (h : Cells w b xs) (k : Nat) (hk : k < xs.length) (u : Value) : Cells (w.setCell ⟨b, k, none⟩ u) b (xs.set k u) := by
  intro i v hv
  refine ⟨?_, by rw [World.frozen?_setCell]; exact (h i _ (List.getElem?_eq_getElem (by have := List.getElem?_eq_some_iff.1 hv; obtain ⟨q, _⟩ := this; simpa using q))).2⟩
  by_cases e : k = i
  · subst e
    rw [List.getElem?_set_self hk] at hv
    rw [← hv]
    exact World.cell?_setCell_same _ _ _ (h k _ (List.getElem?_eq_getElem hk)).1
  · rw [List.getElem?_set_ne e] at hv
    have hne : (⟨b, k, none⟩ : Addr) ≠ ⟨b, i, none⟩ := by intro q; injection q with _ q2; exact e q2
    rw [World.cell?_setCell_other (h := hne)]
    exact (h i v hv).1
theorem Cells.drew {w : World} {b : Nat} {xs : List Value} (h : Cells w b xs) : Cells w.drew b xs := h.later ((Below.refl (b + 1) w).drew) (by omega)
theorem Cells.drewN {w : World} {b : Nat} {xs : List Value} (h : Cells w b xs) (n : Nat) : Cells (w.drewN n) b xs := h.later (below_drewN (Below.refl (b + 1) w) n) (by omega)
theorem size_alloc (w : World) (o : Obj) : (w.alloc o).heap.size = w.heap.size + 1 := by simp
theorem ret_u {a b : Int} (h : a = b) : Ending.returned (.int .u64 a) = .returned (.int .u64 b) := by rw [h]
theorem ret_i {a b : Int} (h : a = b) : Ending.returned (.int .i64 a) = .returned (.int .i64 b) := by rw [h]

set_option maxHeartbeats 400000 in
theorem order_i (x y : Int) (w : World) :
    Calls Try.prog 43 #[.int .i64 x, .int .i64 y] w fun e w' => e = .returned (.int .i64 (Int.sign (x - y))) ∧ w = w' := by
  by_cases h1 : x < y
  · go_enter Try.func43, Try.ntmps43
    go_wp2
    go_ret
    exact ⟨ret_i (Int.sign_eq_neg_one_of_neg (by omega)).symm, rfl⟩
  · by_cases h2 : y < x
    · go_enter Try.func43, Try.ntmps43
      go_wp2
      go_ret
      exact ⟨ret_i (Int.sign_eq_one_of_pos (by omega)).symm, rfl⟩
    · go_enter Try.func43, Try.ntmps43
      go_wp2
      go_ret
      exact ⟨ret_i (by rw [show x - y = 0 by omega]; rfl), rfl⟩

set_option maxHeartbeats 400000 in
theorem order_u (x y : Int) (w : World) :
    Calls Try.prog 44 #[.int .u64 x, .int .u64 y] w fun e w' => e = .returned (.int .i64 (Int.sign (x - y))) ∧ w = w' := by
  by_cases h1 : x < y
  · go_enter Try.func44, Try.ntmps44
    go_wp2
    go_ret
    exact ⟨ret_i (Int.sign_eq_neg_one_of_neg (by omega)).symm, rfl⟩
  · by_cases h2 : y < x
    · go_enter Try.func44, Try.ntmps44
      go_wp2
      go_ret
      exact ⟨ret_i (Int.sign_eq_one_of_pos (by omega)).symm, rfl⟩
    · go_enter Try.func44, Try.ntmps44
      go_wp2
      go_ret
      exact ⟨ret_i (by rw [show x - y = 0 by omega]; rfl), rfl⟩

set_option maxHeartbeats 400000 in
theorem size_any (x : Int) (w : World) (h1 : -9223372036854775808 ≤ x) (h2 : x ≤ 9223372036854775807) :
    Calls Try.prog 42 #[.int .i64 x] w fun e w' => e = .returned (.int .u64 (x.natAbs : Int)) ∧ w = w' := by
  by_cases h : x < 0
  · go_enter Try.func42, Try.ntmps42
    go_wp2
    go_ret
    exact ⟨ret_u (by simp only [IntKind.wrap_u64]; omega), rfl⟩
  · go_enter Try.func42, Try.ntmps42
    go_wp2
    go_ret
    exact ⟨ret_u (by omega), rfl⟩

set_option maxHeartbeats 400000 in
theorem magnitude_any (x : Int) (w : World) (h1 : -9223372036854775808 ≤ x) (h2 : x ≤ 9223372036854775807) :
    Calls Try.prog 34 #[.int .i64 x] w fun e w' => e = .returned (.int .u64 (x.natAbs : Int)) ∧ w = w' := by
  by_cases h : x < 0
  · go_enter Try.func34, Try.ntmps34
    go_wp2
    go_ret
    exact ⟨ret_u (by simp only [IntKind.wrap_u64]; omega), rfl⟩
  · go_enter Try.func34, Try.ntmps34
    go_wp2
    go_ret
    exact ⟨ret_u (by omega), rfl⟩

set_option maxHeartbeats 400000 in
theorem right_any (n d : Int) (w : World) :
    Calls Try.prog 35 #[.agg #[.int .i64 n, .int .i64 d]] w fun e w' => e = .returned (.bool (decide (1 ≤ d))) ∧ Below w.heap.size w w' := by
  go_enter Try.func35, Try.ntmps35
  go_wp2
  go_ret
  exact ⟨rfl, (Below.refl _ _).alloc (Nat.le_refl _) _⟩


theorem ret_uu {a b c d : Int} (h : a = c) (k : b = d) : Ending.returned (.tuple #[.int .u64 a, .int .u64 b]) = .returned (.tuple #[.int .u64 c, .int .u64 d]) := by rw [h, k]
theorem ret_pair {a b c d : Int} (h : a = c) (k : b = d) : Ending.returned (.agg #[.int .u64 a, .int .u64 b]) = .returned (.agg #[.int .u64 c, .int .u64 d]) := by rw [h, k]

open Mul64 in
theorem school (x y : Nat) (hx : x < 18446744073709551616) (hy : y < 18446744073709551616) :
    IntKind.u64.wrap (IntKind.u64.wrap (IntKind.u64.wrap ((x : Int) / 4294967296 * ((y : Int) / 4294967296)) + IntKind.u64.wrap (IntKind.u64.wrap ((x : Int) / 4294967296 * bits BinOp.and IntKind.u64 (y : Int) 4294967295) + IntKind.u64.wrap (bits BinOp.and IntKind.u64 (x : Int) 4294967295 * bits BinOp.and IntKind.u64 (y : Int) 4294967295) / 4294967296) / 4294967296) + IntKind.u64.wrap (bits BinOp.and IntKind.u64 (IntKind.u64.wrap (IntKind.u64.wrap ((x : Int) / 4294967296 * bits BinOp.and IntKind.u64 (y : Int) 4294967295) + IntKind.u64.wrap (bits BinOp.and IntKind.u64 (x : Int) 4294967295 * bits BinOp.and IntKind.u64 (y : Int) 4294967295) / 4294967296)) 4294967295 + IntKind.u64.wrap (bits BinOp.and IntKind.u64 (x : Int) 4294967295 * ((y : Int) / 4294967296))) / 4294967296) = ((x * y / 18446744073709551616 : Nat) : Int) := by
  obtain ⟨bd, bt, bw, hhi⟩ := Lib.mul64_hi x y hx hy
  have ba := Lib.half_mul_le (a := x / 4294967296) (b := y / 4294967296) (by omega) (by omega)
  have bb := Lib.half_mul_le (a := x / 4294967296) (b := y % 4294967296) (by omega) (by omega)
  have bc := Lib.half_mul_le (a := x % 4294967296) (b := y / 4294967296) (by omega) (by omega)
  rw [← hhi]
  rw [maskN x hx, maskN y hy, divN, divN]
  simp only [mulN]
  rw [wrapN _ bd, wrapN (x / 4294967296 * (y % 4294967296)) (by omega), wrapN (x % 4294967296 * (y / 4294967296)) (by omega), wrapN (x / 4294967296 * (y / 4294967296)) (by omega)]
  generalize x / 4294967296 * (y / 4294967296) = a at *
  generalize x / 4294967296 * (y % 4294967296) = b at *
  generalize x % 4294967296 * (y / 4294967296) = c at *
  generalize x % 4294967296 * (y % 4294967296) = d at *
  rw [divN, addN, wrapN _ bt, maskN _ bt]
  simp only [IntKind.wrap_u64]
  omega

open Mul64 in
theorem school' (x y : Nat) (hx : x < 18446744073709551616) (hy : y < 18446744073709551616) :
    IntKind.u64.wrap (IntKind.u64.wrap (IntKind.u64.wrap ((x : Int) / 4294967296 * ((y : Int) / 4294967296)) + IntKind.u64.wrap (IntKind.u64.wrap ((x : Int) / 4294967296 * bits BinOp.and IntKind.u64 (y : Int) 4294967295) + IntKind.u64.wrap (bits BinOp.and IntKind.u64 (x : Int) 4294967295 * bits BinOp.and IntKind.u64 (y : Int) 4294967295) / 4294967296) / 4294967296) + IntKind.u64.wrap (IntKind.u64.wrap (bits BinOp.and IntKind.u64 (x : Int) 4294967295 * ((y : Int) / 4294967296)) + bits BinOp.and IntKind.u64 (IntKind.u64.wrap (IntKind.u64.wrap ((x : Int) / 4294967296 * bits BinOp.and IntKind.u64 (y : Int) 4294967295) + IntKind.u64.wrap (bits BinOp.and IntKind.u64 (x : Int) 4294967295 * bits BinOp.and IntKind.u64 (y : Int) 4294967295) / 4294967296)) 4294967295) / 4294967296) = ((x * y / 18446744073709551616 : Nat) : Int) := by
  rw [Int.add_comm (IntKind.u64.wrap (bits BinOp.and IntKind.u64 (x : Int) 4294967295 * ((y : Int) / 4294967296)))]
  exact school x y hx hy

theorem low_word (x y : Nat) : IntKind.u64.wrap ((x : Int) * (y : Int)) = ((x * y % 18446744073709551616 : Nat) : Int) := by
  rw [← Int.natCast_mul]; exact Mul64.wrapM _

set_option maxHeartbeats 400000 in
theorem mul64_any (x y : Nat) (hx : x < 18446744073709551616) (hy : y < 18446744073709551616) (w : World) :
    Calls Try.prog 45 #[.int .u64 x, .int .u64 y] w fun e w' => e = .returned (.tuple #[.int .u64 ((x * y / 18446744073709551616 : Nat) : Int), .int .u64 ((x * y % 18446744073709551616 : Nat) : Int)]) ∧ w = w' := by
  go_enter Try.func45, Try.ntmps45
  go_wp2
  go_ret2
  exact ⟨ret_uu (school x y hx hy) (low_word x y), rfl⟩

theorem tmod_emod (n m : Int) : n.tmod m % m = n % m := by
  have h := Int.tmod_add_mul_tdiv n m
  have h2 : n % m = (n.tmod m + m * n.tdiv m) % m := by rw [h]
  rw [h2, Int.add_mul_emod_self_left]

theorem mod_eq (n m : Int) (hm : 1 ≤ m) (hm' : m ≤ 4611686018427387904) : (wrap64 (n.tmod m + m)).tmod m = n % m := by
  have b1 := Int.tmod_lt_of_pos n (show 0 < m by omega)
  have b2 : -m < n.tmod m := by
    have := Int.tmod_lt_of_pos (-n) (show 0 < m by omega)
    rw [Int.neg_tmod] at this; omega
  rw [IntWalk.wrap64_in _ ⟨by omega, by omega⟩, Int.tmod_eq_emod_of_nonneg (by omega), Int.add_emod_right, tmod_emod n m]

set_option maxHeartbeats 400000 in
theorem mod_any (n m : Int) (w : World) (hm : 1 ≤ m) (hm' : m ≤ 4611686018427387904) :
    Calls Try.prog 37 #[.int .i64 n, .int .i64 m] w fun e w' => e = .returned (.int .i64 (n % m)) ∧ w = w' := by
  go_enter Try.func37, Try.ntmps37
  go_wp2
  go_ret
  exact ⟨ret_i (mod_eq n m hm hm'), rfl⟩

theorem mul64_i (X Y : Int) (w : World) (hx : 0 ≤ X ∧ X < 18446744073709551616) (hy : 0 ≤ Y ∧ Y < 18446744073709551616) :
    Calls Try.prog 45 #[.int .u64 X, .int .u64 Y] w fun e w' => e = .returned (.tuple #[.int .u64 (X * Y / 18446744073709551616), .int .u64 (X * Y % 18446744073709551616)]) ∧ w = w' := by
  obtain ⟨x, rfl⟩ := Int.eq_ofNat_of_zero_le hx.1
  obtain ⟨y, rfl⟩ := Int.eq_ofNat_of_zero_le hy.1
  refine (mul64_any x y (by omega) (by omega) w).mono ?_
  rintro e w' ⟨rfl, rfl⟩
  exact ⟨ret_uu (by rw [← Int.natCast_mul]; omega) (by rw [← Int.natCast_mul]; omega), rfl⟩

theorem u64_bd (a : Int) : 0 ≤ IntKind.u64.wrap a ∧ IntKind.u64.wrap a < 18446744073709551616 := by rw [IntKind.wrap_u64]; omega

theorem low_eq (a b : Int) : IntKind.u64.wrap a * IntKind.u64.wrap b % 18446744073709551616 = a * b % 18446744073709551616 := by
  simp only [IntKind.wrap_u64]; rw [← Int.mul_emod]

theorem wrap_neg (a : Int) (h1 : -9223372036854775808 ≤ a) (h : a < 0) : IntKind.u64.wrap a = a + 18446744073709551616 := by rw [IntKind.wrap_u64]; omega
theorem wrap_nn (a : Int) (h2 : a ≤ 9223372036854775807) (h : 0 ≤ a) : IntKind.u64.wrap a = a := by rw [IntKind.wrap_u64]; omega

theorem prod_nn (a b : Int) : (a + 18446744073709551616) * (b + 18446744073709551616) = a * b + 18446744073709551616 * (a + b) + 340282366920938463463374607431768211456 := by
  rw [Int.add_mul, Int.mul_add, Int.mul_add, Int.mul_comm a 18446744073709551616, Int.mul_add]; omega
theorem prod_np (a b : Int) : (a + 18446744073709551616) * b = a * b + 18446744073709551616 * b := Int.add_mul _ _ _
theorem prod_pn (a b : Int) : a * (b + 18446744073709551616) = a * b + 18446744073709551616 * a := by rw [Int.mul_add, Int.mul_comm a 18446744073709551616]

theorem hi_nn (a b : Int) (h1 : -9223372036854775808 ≤ a) (h3 : -9223372036854775808 ≤ b) (ha : a < 0) (hb : b < 0) :
    IntKind.u64.wrap (IntKind.u64.wrap (IntKind.u64.wrap a * IntKind.u64.wrap b / 18446744073709551616 - IntKind.u64.wrap b) - IntKind.u64.wrap a) = a * b / 18446744073709551616 % 18446744073709551616 := by
  rw [wrap_neg a h1 ha, wrap_neg b h3 hb, prod_nn]
  simp only [IntKind.wrap_u64]
  generalize a * b = P
  omega
theorem hi_np (a b : Int) (h1 : -9223372036854775808 ≤ a) (ha : a < 0) :
    IntKind.u64.wrap (IntKind.u64.wrap a * b / 18446744073709551616 - b) = a * b / 18446744073709551616 % 18446744073709551616 := by
  rw [wrap_neg a h1 ha, prod_np]
  simp only [IntKind.wrap_u64]
  generalize a * b = P
  omega
theorem hi_pn (a b : Int) (h3 : -9223372036854775808 ≤ b) (hb : b < 0) :
    IntKind.u64.wrap (a * IntKind.u64.wrap b / 18446744073709551616 - a) = a * b / 18446744073709551616 % 18446744073709551616 := by
  rw [wrap_neg b h3 hb, prod_pn]
  simp only [IntKind.wrap_u64]
  generalize a * b = P
  omega
theorem mul_lt64 (a b : Int) (h1 : 0 ≤ a) (h2 : a ≤ 9223372036854775807) (h3 : 0 ≤ b) (h4 : b ≤ 9223372036854775807) : 0 ≤ a * b ∧ a * b ≤ 85070591730234615847396907784232501249 :=
  ⟨Int.mul_nonneg h1 h3, Int.mul_le_mul h2 h4 h3 (by omega)⟩
theorem hi_pp (a b : Int) (h1 : 0 ≤ a) (h2 : a ≤ 9223372036854775807) (h3 : 0 ≤ b) (h4 : b ≤ 9223372036854775807) :
    a * b / 18446744073709551616 = a * b / 18446744073709551616 % 18446744073709551616 := by
  have := mul_lt64 a b h1 h2 h3 h4
  generalize a * b = P at *
  omega

set_option maxHeartbeats 400000 in
theorem multiply_any (a b : Int) (w : World) (h1 : -9223372036854775808 ≤ a) (h2 : a ≤ 9223372036854775807) (h3 : -9223372036854775808 ≤ b) (h4 : b ≤ 9223372036854775807) :
    Calls Try.prog 41 #[.int .i64 a, .int .i64 b] w fun e w' => e = .returned (.agg #[.int .u64 (a * b / 18446744073709551616 % 18446744073709551616), .int .u64 (a * b % 18446744073709551616)]) ∧ Below w.heap.size w w' := by
  by_cases ha : a < 0
  · by_cases hb : b < 0
    · go_enter Try.func41, Try.ntmps41
      go_wp2_with fail
      refine (mul64_i _ _ _ (u64_bd a) (u64_bd b)).mono ?_
      rintro e w' ⟨rfl, rfl⟩
      go_wp2
      go_returns
      exact ⟨ret_pair (hi_nn a b h1 h3 ha hb) (low_eq a b), by go_grown⟩
    · have hb' : 0 ≤ b := by omega
      have low := low_eq a b
      rw [wrap_nn b h4 hb'] at low
      have Low := Lib.hid low; clear low
      go_enter Try.func41, Try.ntmps41
      go_wp2_with fail
      refine (mul64_i _ _ _ (u64_bd a) (by omega)).mono ?_
      rintro e w' ⟨rfl, rfl⟩
      go_wp2
      go_returns
      exact ⟨ret_pair (hi_np a b h1 ha) Low.out, by go_grown⟩
  · by_cases hb : b < 0
    · have ha' : 0 ≤ a := by omega
      have low := low_eq a b
      rw [wrap_nn a h2 ha'] at low
      have Low := Lib.hid low; clear low
      go_enter Try.func41, Try.ntmps41
      go_wp2_with fail
      refine (mul64_i _ _ _ (by omega) (u64_bd b)).mono ?_
      rintro e w' ⟨rfl, rfl⟩
      go_wp2
      go_returns
      exact ⟨ret_pair (hi_pn a b h3 hb) Low.out, by go_grown⟩
    · have ha' : 0 ≤ a := by omega
      have hb' : 0 ≤ b := by omega
      go_enter Try.func41, Try.ntmps41
      go_wp2_with fail
      refine (mul64_i _ _ _ (by omega) (by omega)).mono ?_
      rintro e w' ⟨rfl, rfl⟩
      go_wp2
      go_returns
      exact ⟨ret_pair (hi_pp a b ha' h2 hb' h4) rfl, by go_grown⟩

/-- Two numbers in words of 64 bits, the upper one of which has a sign. -/
theorem words (P Q : Int) (h1 : -170141183460469231731687303715884105728 ≤ P) (h2 : P < 170141183460469231731687303715884105728) (h3 : -170141183460469231731687303715884105728 ≤ Q) (h4 : Q < 170141183460469231731687303715884105728) (s : Int)
    (hs : (wrap64 (P / 18446744073709551616 % 18446744073709551616) - wrap64 (Q / 18446744073709551616 % 18446744073709551616)).sign = s) :
    (s = 0 → (P % 18446744073709551616 - Q % 18446744073709551616).sign = (P - Q).sign) ∧ (s ≠ 0 → s = (P - Q).sign) := by
  have e1 : wrap64 (P / 18446744073709551616 % 18446744073709551616) = P / 18446744073709551616 := by unfold wrap64; omega
  have e2 : wrap64 (Q / 18446744073709551616 % 18446744073709551616) = Q / 18446744073709551616 := by unfold wrap64; omega
  rw [e1, e2] at hs
  subst hs
  constructor
  · intro h
    have h := Int.sign_eq_zero_iff_zero.1 h
    have e : P % 18446744073709551616 - Q % 18446744073709551616 = P - Q := by omega
    rw [e]
  · intro h
    rcases Int.lt_trichotomy (P / 18446744073709551616 - Q / 18446744073709551616) 0 with k | k | k
    · rw [Int.sign_eq_neg_one_of_neg k, Int.sign_eq_neg_one_of_neg (by omega)]
    · rw [k] at h; exact absurd rfl h
    · rw [Int.sign_eq_one_of_pos k, Int.sign_eq_one_of_pos (by omega)]

set_option maxHeartbeats 400000 in
theorem orderProducts_any (P Q : Int) (w : World) (h1 : -170141183460469231731687303715884105728 ≤ P) (h2 : P < 170141183460469231731687303715884105728) (h3 : -170141183460469231731687303715884105728 ≤ Q) (h4 : Q < 170141183460469231731687303715884105728) :
    Calls Try.prog 40 #[.agg #[.int .u64 (P / 18446744073709551616 % 18446744073709551616), .int .u64 (P % 18446744073709551616)], .agg #[.int .u64 (Q / 18446744073709551616 % 18446744073709551616), .int .u64 (Q % 18446744073709551616)]] w fun e w' => e = .returned (.int .i64 (P - Q).sign) ∧ Below w.heap.size w w' := by
  have W := Lib.hid (words P Q h1 h2 h3 h4)
  clear h1 h2 h3 h4
  generalize P % 18446744073709551616 = p1 at *
  generalize Q % 18446744073709551616 = q1 at *
  generalize P / 18446744073709551616 % 18446744073709551616 = p0 at *
  generalize Q / 18446744073709551616 % 18446744073709551616 = q0 at *
  go_enter Try.func40, Try.ntmps40
  go_wp2_with fail
  refine (order_i _ _ _).mono ?_
  rintro e w' ⟨rfl, rfl⟩
  generalize hs : (wrap64 p0 - wrap64 q0).sign = s
  have W2 := Lib.hid (W.out s hs)
  clear hs W
  by_cases h : s = 0
  · have W3 := Lib.hid (W2.out.1 h)
    subst h
    clear W2
    go_wp2_with fail
    refine (order_u _ _ _).mono ?_
    rintro e w' ⟨rfl, rfl⟩
    go_wp2
    go_ret
    exact ⟨ret_i W3.out, by go_grown⟩
  · have W3 := Lib.hid (W2.out.2 h)
    clear W2
    go_wp2_with fail
    go_ret
    exact ⟨ret_i W3.out, by go_grown⟩

theorem mul_bd (a b : Int) (h1 : -9223372036854775808 ≤ a) (h2 : a ≤ 9223372036854775807) (h3 : -9223372036854775808 ≤ b) (h4 : b ≤ 9223372036854775807) :
    -170141183460469231731687303715884105728 ≤ a * b ∧ a * b < 170141183460469231731687303715884105728 := by
  have h : (a * b).natAbs ≤ 9223372036854775808 * 9223372036854775808 := by
    rw [Int.natAbs_mul]; exact Nat.mul_le_mul (by omega) (by omega)
  omega

set_option maxHeartbeats 400000 in
theorem sign2_any (a b c d : Int) (w : World) (ha : -9223372036854775808 ≤ a ∧ a ≤ 9223372036854775807) (hb : -9223372036854775808 ≤ b ∧ b ≤ 9223372036854775807) (hc : -9223372036854775808 ≤ c ∧ c ≤ 9223372036854775807) (hd : -9223372036854775808 ≤ d ∧ d ≤ 9223372036854775807) :
    Calls Try.prog 36 #[.int .i64 a, .int .i64 b, .int .i64 c, .int .i64 d] w fun e w' => e = .returned (.int .i64 (a * b - c * d).sign) ∧ Below w.heap.size w w' := by
  have b1 := mul_bd a b ha.1 ha.2 hb.1 hb.2
  have b2 := mul_bd c d hc.1 hc.2 hd.1 hd.2
  go_enter Try.func36, Try.ntmps36
  go_wp2_with fail
  refine (multiply_any a b _ ha.1 ha.2 hb.1 hb.2).mono ?_
  rintro e w1 ⟨rfl, hb1⟩
  go_wp2_with fail
  refine (multiply_any c d _ hc.1 hc.2 hd.1 hd.2).mono ?_
  rintro e w2 ⟨rfl, hb2⟩
  go_wp2_with fail
  refine (orderProducts_any _ _ _ b1.1 b1.2 b2.1 b2.2).mono ?_
  rintro e w3 ⟨rfl, hb3⟩
  go_wp2_with fail
  go_ret
  exact ⟨rfl, (hb1.trans (hb2.mono hb1.size)).trans (hb3.mono (Nat.le_trans hb1.size hb2.size))⟩

end Go.Proofs.Ytfcoblapbcdaiaa
