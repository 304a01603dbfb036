/- The small functions of exact and of its reference: what each returns, in plain integers. The functions of exact and of its reference that the laws of point reach: Gcd, and the reference's Sign2 and Gcd. The words of the proofs of point: numbers between two others, what is bounded, and the small functions on numbers and points. Blocks of the call's own, as a list: what they hold, through calls, allocations, draws and stores. The functions of the laws that make points and spots small, and Turn of point and of its reference. point.overlap: how many points two segments of one line have in common. The functions of point and of its reference that do not call others but the smallest. On which side of a line a point lies: point.side at both of its types, Side, SpotSide, and those of the reference. Regions that draw their order: many operations taken first under one check; a condition made stronger in the midst. Whether a point is on a segment: the words. How many points two segments have in common: the words. -/
import Derived.Test.YtoaldbjcpfkcjaaGreatRows
import Derived.WalkKit
import Derived.WalkSpells
import Derived.WalkLawsBesides
import Derived.Shelf.Bits.Mul64
import Derived.Handy
import Derived.Lib.Hide
import Derived.Deep.QuietTactic
import Derived.BigQuiet
import Derived.Deep.RegionHeld3
import Derived.Deep.RegionWith
import Derived.Deep.DeepCutAuto
import Derived.Deep.CutBlock
import Derived.IntWalk
namespace Go.Proofs.YtoaldbjcpfkcjaaGreat
open Go.RowKit Go.Lib
theorem pA {α : Type} {l : List α} {i : Nat} {a : α} : l.toArray.setIfInBounds i a = (l.set i a).toArray := List.setIfInBounds_toArray _ _ _
theorem pB {α : Type} {x a : α} {xs : List α} : (x :: xs).set 0 a = a :: xs := rfl
theorem pC {α : Type} {x : α} {xs : List α} {n : Nat} {a : α} : (x :: xs).set (n + 1) a = x :: xs.set n a := rfl

/-- A block of the call's own that begins with these cells, none of them frozen. -/
def Cells (w : World) (b : Nat) (xs : List Value) : Prop := ∀ i v, xs[i]? = some v → w.cell? ⟨b, i, none⟩ = some v ∧ w.frozen? ⟨b, i, none⟩ = false
theorem Cells.made (w : World) (xs : List Value) (T : TypeId) : Cells (w.alloc (.cells xs.toArray T)) w.heap.size xs := by
 intro i v h
 exact ⟨by rw [World.cell?_alloc_new]; simpa using h, World.frozen?_alloc_new _ _ _ _⟩
theorem Cells.later {w w' : World} {b B : Nat} {xs : List Value} (h : Cells w b xs) (hb : Below B w w') (hB : b < B) : Cells w' b xs := fun i v hv =>
 ⟨(hb.cell (p := ⟨b, i, none⟩) hB).trans (h i v hv).1, (hb.frozen (p := ⟨b, i, none⟩) hB).trans (h i v hv).2⟩
theorem Cells.alloc {w : World} {b : Nat} {xs : List Value} (h : Cells w b xs) (hB : b < w.heap.size) (o : Obj) : Cells (w.alloc o) b xs :=
 h.later ((Below.refl _ w).alloc (Nat.le_refl _) o) hB
theorem Cells.get {w : World} {b : Nat} {xs : List Value} (h : Cells w b xs) (i : Nat) {v : Value} (hv : xs[i]? = some v) : w.cell? ⟨b, i, none⟩ = some v ∧ w.frozen? ⟨b, i, none⟩ = false := h i v hv
theorem Cells.set {w : World} {b : Nat} {xs : List Value} (h : Cells w b xs) (k : Nat) (hk : k < xs.length) (u : Value) : Cells (w.setCell ⟨b, k, none⟩ u) b (xs.set k u) := by
 intro i v hv
 refine ⟨?_, by rw [World.frozen?_setCell]; exact (h i _ (List.getElem?_eq_getElem (by have := List.getElem?_eq_some_iff.1 hv; obtain ⟨q, _⟩ := this; simpa using q))).2⟩
 by_cases e : k = i
 ·subst e
  rw [List.getElem?_set_self hk] at hv
  rw [← hv]
  exact World.cell?_setCell_same _ _ _ (h k _ (List.getElem?_eq_getElem hk)).1
 ·rw [List.getElem?_set_ne e] at hv
  have hne : (⟨b, k, none⟩ : Addr) ≠ ⟨b, i, none⟩ := by intro q; injection q with _ q2; exact e q2
  rw [World.cell?_setCell_other (h := hne)]
  exact (h i v hv).1
theorem Cells.drew {w : World} {b : Nat} {xs : List Value} (h : Cells w b xs) : Cells w.drew b xs := h.later ((Below.refl (b + 1) w).drew) (by omega)
theorem Cells.drewN {w : World} {b : Nat} {xs : List Value} (h : Cells w b xs) (n : Nat) : Cells (w.drewN n) b xs := h.later (below_drewN (Below.refl (b + 1) w) n) (by omega)
theorem size_alloc (w : World) (o : Obj) : (w.alloc o).heap.size = w.heap.size + 1 := by simp
theorem ret_u {a b : Int} (h : a = b) : Ending.returned (.int .u64 a) = .returned (.int .u64 b) := by rw [h]
theorem ret_i {a b : Int} (h : a = b) : Ending.returned (.int .i64 a) = .returned (.int .i64 b) := by rw [h]

set_option maxHeartbeats 400000 in
theorem order_i (x y : Int) (w : World) :
  Calls Tryz.prog 144 #[.int .i64 x, .int .i64 y] w fun e w' => e = .returned (.int .i64 (Int.sign (x - y))) ∧ w = w' := by
 by_cases h1 : x < y
 ·go_enter Tryz.func144, Tryz.ntmps144
  go_wp2
  go_ret
  exact ⟨ret_i (Int.sign_eq_neg_one_of_neg (by omega)).symm, rfl⟩
 ·by_cases h2 : y < x
  ·go_enter Tryz.func144, Tryz.ntmps144
   go_wp2
   go_ret
   exact ⟨ret_i (Int.sign_eq_one_of_pos (by omega)).symm, rfl⟩
  ·go_enter Tryz.func144, Tryz.ntmps144
   go_wp2
   go_ret
   exact ⟨ret_i (by rw [show x - y = 0 by omega]; rfl), rfl⟩

set_option maxHeartbeats 400000 in
theorem order_u (x y : Int) (w : World) :
  Calls Tryz.prog 145 #[.int .u64 x, .int .u64 y] w fun e w' => e = .returned (.int .i64 (Int.sign (x - y))) ∧ w = w' := by
 by_cases h1 : x < y
 ·go_enter Tryz.func145, Tryz.ntmps145
  go_wp2
  go_ret
  exact ⟨ret_i (Int.sign_eq_neg_one_of_neg (by omega)).symm, rfl⟩
 ·by_cases h2 : y < x
  ·go_enter Tryz.func145, Tryz.ntmps145
   go_wp2
   go_ret
   exact ⟨ret_i (Int.sign_eq_one_of_pos (by omega)).symm, rfl⟩
  ·go_enter Tryz.func145, Tryz.ntmps145
   go_wp2
   go_ret
   exact ⟨ret_i (by rw [show x - y = 0 by omega]; rfl), rfl⟩

set_option maxHeartbeats 400000 in
theorem sign_any (x : Int) (w : World) :
  Calls Tryz.prog 134 #[.int .i64 x] w fun e w' => e = .returned (.int .i64 (Int.sign x)) ∧ w = w' := by
 by_cases h1 : x < 0
 ·go_enter Tryz.func134, Tryz.ntmps134
  go_wp2
  go_ret
  exact ⟨ret_i (Int.sign_eq_neg_one_of_neg (by omega)).symm, rfl⟩
 ·by_cases h2 : 0 < x
  ·go_enter Tryz.func134, Tryz.ntmps134
   go_wp2
   go_ret
   exact ⟨ret_i (Int.sign_eq_one_of_pos (by omega)).symm, rfl⟩
  ·go_enter Tryz.func134, Tryz.ntmps134
   go_wp2
   go_ret
   exact ⟨ret_i (by rw [show x = 0 by omega]; rfl), rfl⟩

set_option maxHeartbeats 400000 in
theorem size_any (x : Int) (w : World) (h1 : -9223372036854775808 ≤ x) (h2 : x ≤ 9223372036854775807) :
  Calls Tryz.prog 136 #[.int .i64 x] w fun e w' => e = .returned (.int .u64 (x.natAbs : Int)) ∧ w = w' := by
 by_cases h : x < 0
 ·go_enter Tryz.func136, Tryz.ntmps136
  go_wp2
  go_ret
  exact ⟨ret_u (by simp only [IntKind.wrap_u64]; omega), rfl⟩
 ·go_enter Tryz.func136, Tryz.ntmps136
  go_wp2
  go_ret
  exact ⟨ret_u (by omega), rfl⟩

theorem ret_uu {a b c d : Int} (h : a = c) (k : b = d) : Ending.returned (.tuple #[.int .u64 a, .int .u64 b]) = .returned (.tuple #[.int .u64 c, .int .u64 d]) := by rw [h, k]
theorem ret_pair {a b c d : Int} (h : a = c) (k : b = d) : Ending.returned (.agg #[.int .u64 a, .int .u64 b]) = .returned (.agg #[.int .u64 c, .int .u64 d]) := by rw [h, k]

open Mul64 in
theorem school (x y : Nat) (hx : x < 18446744073709551616) (hy : y < 18446744073709551616) :
  IntKind.u64.wrap (IntKind.u64.wrap (IntKind.u64.wrap ((x : Int) / 4294967296 * ((y : Int) / 4294967296)) + IntKind.u64.wrap (IntKind.u64.wrap ((x : Int) / 4294967296 * bits BinOp.and IntKind.u64 (y : Int) 4294967295) + IntKind.u64.wrap (bits BinOp.and IntKind.u64 (x : Int) 4294967295 * bits BinOp.and IntKind.u64 (y : Int) 4294967295) / 4294967296) / 4294967296) + IntKind.u64.wrap (bits BinOp.and IntKind.u64 (IntKind.u64.wrap (IntKind.u64.wrap ((x : Int) / 4294967296 * bits BinOp.and IntKind.u64 (y : Int) 4294967295) + IntKind.u64.wrap (bits BinOp.and IntKind.u64 (x : Int) 4294967295 * bits BinOp.and IntKind.u64 (y : Int) 4294967295) / 4294967296)) 4294967295 + IntKind.u64.wrap (bits BinOp.and IntKind.u64 (x : Int) 4294967295 * ((y : Int) / 4294967296))) / 4294967296) = ((x * y / 18446744073709551616 : Nat) : Int) := by
 obtain ⟨bd, bt, bw, hhi⟩ := Lib.mul64_hi x y hx hy
 have ba := Lib.half_mul_le (a := x / 4294967296) (b := y / 4294967296) (by omega) (by omega)
 have bb := Lib.half_mul_le (a := x / 4294967296) (b := y % 4294967296) (by omega) (by omega)
 have bc := Lib.half_mul_le (a := x % 4294967296) (b := y / 4294967296) (by omega) (by omega)
 rw [← hhi]
 rw [maskN x hx, maskN y hy, divN, divN]
 simp only [mulN]
 rw [wrapN _ bd, wrapN (x / 4294967296 * (y % 4294967296)) (by omega), wrapN (x % 4294967296 * (y / 4294967296)) (by omega), wrapN (x / 4294967296 * (y / 4294967296)) (by omega)]
 generalize x / 4294967296 * (y / 4294967296) = a at *
 generalize x / 4294967296 * (y % 4294967296) = b at *
 generalize x % 4294967296 * (y / 4294967296) = c at *
 generalize x % 4294967296 * (y % 4294967296) = d at *
 rw [divN, addN, wrapN _ bt, maskN _ bt]
 simp only [IntKind.wrap_u64]
 omega

open Mul64 in
theorem school' (x y : Nat) (hx : x < 18446744073709551616) (hy : y < 18446744073709551616) :
  IntKind.u64.wrap (IntKind.u64.wrap (IntKind.u64.wrap ((x : Int) / 4294967296 * ((y : Int) / 4294967296)) + IntKind.u64.wrap (IntKind.u64.wrap ((x : Int) / 4294967296 * bits BinOp.and IntKind.u64 (y : Int) 4294967295) + IntKind.u64.wrap (bits BinOp.and IntKind.u64 (x : Int) 4294967295 * bits BinOp.and IntKind.u64 (y : Int) 4294967295) / 4294967296) / 4294967296) + IntKind.u64.wrap (IntKind.u64.wrap (bits BinOp.and IntKind.u64 (x : Int) 4294967295 * ((y : Int) / 4294967296)) + bits BinOp.and IntKind.u64 (IntKind.u64.wrap (IntKind.u64.wrap ((x : Int) / 4294967296 * bits BinOp.and IntKind.u64 (y : Int) 4294967295) + IntKind.u64.wrap (bits BinOp.and IntKind.u64 (x : Int) 4294967295 * bits BinOp.and IntKind.u64 (y : Int) 4294967295) / 4294967296)) 4294967295) / 4294967296) = ((x * y / 18446744073709551616 : Nat) : Int) := by
 rw [Int.add_comm (IntKind.u64.wrap (bits BinOp.and IntKind.u64 (x : Int) 4294967295 * ((y : Int) / 4294967296)))]
 exact school x y hx hy

theorem low_word (x y : Nat) : IntKind.u64.wrap ((x : Int) * (y : Int)) = ((x * y % 18446744073709551616 : Nat) : Int) := by
 rw [← Int.natCast_mul]; exact Mul64.wrapM _

set_option maxHeartbeats 400000 in
theorem mul64_any (x y : Nat) (hx : x < 18446744073709551616) (hy : y < 18446744073709551616) (w : World) :
  Calls Tryz.prog 146 #[.int .u64 x, .int .u64 y] w fun e w' => e = .returned (.tuple #[.int .u64 ((x * y / 18446744073709551616 : Nat) : Int), .int .u64 ((x * y % 18446744073709551616 : Nat) : Int)]) ∧ w = w' := by
 go_enter Tryz.func146, Tryz.ntmps146
 go_wp2
 go_ret2
 exact ⟨ret_uu (school x y hx hy) (low_word x y), rfl⟩

set_option maxHeartbeats 400000 in
theorem product_any (x y : Nat) (hx : x < 18446744073709551616) (hy : y < 18446744073709551616) (w : World) :
  Calls Tryz.prog 135 #[.int .u64 x, .int .u64 y] w fun e w' => e = .returned (.agg #[.int .u64 ((x * y / 18446744073709551616 : Nat) : Int), .int .u64 ((x * y % 18446744073709551616 : Nat) : Int)]) ∧ Below w.heap.size w w' := by
 go_enter Tryz.func135, Tryz.ntmps135
 go_wp2
 go_returns
 exact ⟨ret_pair (school' x y hx hy) (low_word x y), by go_grown⟩

theorem tmod_emod (n m : Int) : n.tmod m % m = n % m := by
 have h := Int.tmod_add_mul_tdiv n m
 have h2 : n % m = (n.tmod m + m * n.tdiv m) % m := by rw [h]
 rw [h2, Int.add_mul_emod_self_left]

theorem mod_eq (n m : Int) (hm : 1 ≤ m) (hm' : m ≤ 4611686018427387904) : (wrap64 (n.tmod m + m)).tmod m = n % m := by
 have b1 := Int.tmod_lt_of_pos n (show 0 < m by omega)
 have b2 : -m < n.tmod m := by
  have := Int.tmod_lt_of_pos (-n) (show 0 < m by omega)
  rw [Int.neg_tmod] at this; omega
 rw [IntWalk.wrap64_in _ ⟨by omega, by omega⟩, Int.tmod_eq_emod_of_nonneg (by omega), Int.add_emod_right, tmod_emod n m]

set_option maxHeartbeats 400000 in
theorem mod_any (n m : Int) (w : World) (hm : 1 ≤ m) (hm' : m ≤ 4611686018427387904) :
  Calls Tryz.prog 55 #[.int .i64 n, .int .i64 m] w fun e w' => e = .returned (.int .i64 (n % m)) ∧ w = w' := by
 go_enter Tryz.func55, Tryz.ntmps55
 go_wp2
 go_ret
 exact ⟨ret_i (mod_eq n m hm hm'), rfl⟩

theorem mul64_i (X Y : Int) (w : World) (hx : 0 ≤ X ∧ X < 18446744073709551616) (hy : 0 ≤ Y ∧ Y < 18446744073709551616) :
  Calls Tryz.prog 146 #[.int .u64 X, .int .u64 Y] w fun e w' => e = .returned (.tuple #[.int .u64 (X * Y / 18446744073709551616), .int .u64 (X * Y % 18446744073709551616)]) ∧ w = w' := by
 obtain ⟨x, rfl⟩ := Int.eq_ofNat_of_zero_le hx.1
 obtain ⟨y, rfl⟩ := Int.eq_ofNat_of_zero_le hy.1
 refine (mul64_any x y (by omega) (by omega) w).mono ?_
 rintro e w' ⟨rfl, rfl⟩
 exact ⟨ret_uu (by rw [← Int.natCast_mul]; omega) (by rw [← Int.natCast_mul]; omega), rfl⟩

theorem u64_bd (a : Int) : 0 ≤ IntKind.u64.wrap a ∧ IntKind.u64.wrap a < 18446744073709551616 := by rw [IntKind.wrap_u64]; omega

theorem low_eq (a b : Int) : IntKind.u64.wrap a * IntKind.u64.wrap b % 18446744073709551616 = a * b % 18446744073709551616 := by
 simp only [IntKind.wrap_u64]; rw [← Int.mul_emod]

theorem wrap_neg (a : Int) (h1 : -9223372036854775808 ≤ a) (h : a < 0) : IntKind.u64.wrap a = a + 18446744073709551616 := by rw [IntKind.wrap_u64]; omega
theorem wrap_nn (a : Int) (h2 : a ≤ 9223372036854775807) (h : 0 ≤ a) : IntKind.u64.wrap a = a := by rw [IntKind.wrap_u64]; omega

theorem prod_nn (a b : Int) : (a + 18446744073709551616) * (b + 18446744073709551616) = a * b + 18446744073709551616 * (a + b) + 340282366920938463463374607431768211456 := by
 rw [Int.add_mul, Int.mul_add, Int.mul_add, Int.mul_comm a 18446744073709551616, Int.mul_add]; omega
theorem prod_np (a b : Int) : (a + 18446744073709551616) * b = a * b + 18446744073709551616 * b := Int.add_mul _ _ _
theorem prod_pn (a b : Int) : a * (b + 18446744073709551616) = a * b + 18446744073709551616 * a := by rw [Int.mul_add, Int.mul_comm a 18446744073709551616]

theorem hi_nn (a b : Int) (h1 : -9223372036854775808 ≤ a) (h3 : -9223372036854775808 ≤ b) (ha : a < 0) (hb : b < 0) :
  IntKind.u64.wrap (IntKind.u64.wrap (IntKind.u64.wrap a * IntKind.u64.wrap b / 18446744073709551616 - IntKind.u64.wrap b) - IntKind.u64.wrap a) = a * b / 18446744073709551616 % 18446744073709551616 := by
 rw [wrap_neg a h1 ha, wrap_neg b h3 hb, prod_nn]
 simp only [IntKind.wrap_u64]
 generalize a * b = P
 omega
theorem hi_np (a b : Int) (h1 : -9223372036854775808 ≤ a) (ha : a < 0) :
  IntKind.u64.wrap (IntKind.u64.wrap a * b / 18446744073709551616 - b) = a * b / 18446744073709551616 % 18446744073709551616 := by
 rw [wrap_neg a h1 ha, prod_np]
 simp only [IntKind.wrap_u64]
 generalize a * b = P
 omega
theorem hi_pn (a b : Int) (h3 : -9223372036854775808 ≤ b) (hb : b < 0) :
  IntKind.u64.wrap (a * IntKind.u64.wrap b / 18446744073709551616 - a) = a * b / 18446744073709551616 % 18446744073709551616 := by
 rw [wrap_neg b h3 hb, prod_pn]
 simp only [IntKind.wrap_u64]
 generalize a * b = P
 omega
theorem mul_lt64 (a b : Int) (h1 : 0 ≤ a) (h2 : a ≤ 9223372036854775807) (h3 : 0 ≤ b) (h4 : b ≤ 9223372036854775807) : 0 ≤ a * b ∧ a * b ≤ 85070591730234615847396907784232501249 :=
 ⟨Int.mul_nonneg h1 h3, Int.mul_le_mul h2 h4 h3 (by omega)⟩
theorem hi_pp (a b : Int) (h1 : 0 ≤ a) (h2 : a ≤ 9223372036854775807) (h3 : 0 ≤ b) (h4 : b ≤ 9223372036854775807) :
  a * b / 18446744073709551616 = a * b / 18446744073709551616 % 18446744073709551616 := by
 have := mul_lt64 a b h1 h2 h3 h4
 generalize a * b = P at *
 omega

set_option maxHeartbeats 400000 in
theorem multiply_any (a b : Int) (w : World) (h1 : -9223372036854775808 ≤ a) (h2 : a ≤ 9223372036854775807) (h3 : -9223372036854775808 ≤ b) (h4 : b ≤ 9223372036854775807) :
  Calls Tryz.prog 138 #[.int .i64 a, .int .i64 b] w fun e w' => e = .returned (.agg #[.int .u64 (a * b / 18446744073709551616 % 18446744073709551616), .int .u64 (a * b % 18446744073709551616)]) ∧ Below w.heap.size w w' := by
 by_cases ha : a < 0
 ·by_cases hb : b < 0
  ·go_enter Tryz.func138, Tryz.ntmps138
   go_wp2_with fail
   refine (mul64_i _ _ _ (u64_bd a) (u64_bd b)).mono ?_
   rintro e w' ⟨rfl, rfl⟩
   go_wp2
   go_returns
   exact ⟨ret_pair (hi_nn a b h1 h3 ha hb) (low_eq a b), by go_grown⟩
  ·have hb' : 0 ≤ b := by omega
   have low := low_eq a b
   rw [wrap_nn b h4 hb'] at low
   have Low := Lib.hid low; clear low
   go_enter Tryz.func138, Tryz.ntmps138
   go_wp2_with fail
   refine (mul64_i _ _ _ (u64_bd a) (by omega)).mono ?_
   rintro e w' ⟨rfl, rfl⟩
   go_wp2
   go_returns
   exact ⟨ret_pair (hi_np a b h1 ha) Low.out, by go_grown⟩
 ·by_cases hb : b < 0
  ·have ha' : 0 ≤ a := by omega
   have low := low_eq a b
   rw [wrap_nn a h2 ha'] at low
   have Low := Lib.hid low; clear low
   go_enter Tryz.func138, Tryz.ntmps138
   go_wp2_with fail
   refine (mul64_i _ _ _ (by omega) (u64_bd b)).mono ?_
   rintro e w' ⟨rfl, rfl⟩
   go_wp2
   go_returns
   exact ⟨ret_pair (hi_pn a b h3 hb) Low.out, by go_grown⟩
  ·have ha' : 0 ≤ a := by omega
   have hb' : 0 ≤ b := by omega
   go_enter Tryz.func138, Tryz.ntmps138
   go_wp2_with fail
   refine (mul64_i _ _ _ (by omega) (by omega)).mono ?_
   rintro e w' ⟨rfl, rfl⟩
   go_wp2
   go_returns
   exact ⟨ret_pair (hi_pp a b ha' h2 hb' h4) rfl, by go_grown⟩

/-- Two numbers in words of 64 bits, the upper one of which has a sign. -/
theorem words (P Q : Int) (h1 : -170141183460469231731687303715884105728 ≤ P) (h2 : P < 170141183460469231731687303715884105728) (h3 : -170141183460469231731687303715884105728 ≤ Q) (h4 : Q < 170141183460469231731687303715884105728) (s : Int)
  (hs : (wrap64 (P / 18446744073709551616 % 18446744073709551616) - wrap64 (Q / 18446744073709551616 % 18446744073709551616)).sign = s) :
  (s = 0 → (P % 18446744073709551616 - Q % 18446744073709551616).sign = (P - Q).sign) ∧ (s ≠ 0 → s = (P - Q).sign) := by
 have e1 : wrap64 (P / 18446744073709551616 % 18446744073709551616) = P / 18446744073709551616 := by unfold wrap64; omega
 have e2 : wrap64 (Q / 18446744073709551616 % 18446744073709551616) = Q / 18446744073709551616 := by unfold wrap64; omega
 rw [e1, e2] at hs
 subst hs
 constructor
 ·intro h
  have h := Int.sign_eq_zero_iff_zero.1 h
  have e : P % 18446744073709551616 - Q % 18446744073709551616 = P - Q := by omega
  rw [e]
 ·intro h
  rcases Int.lt_trichotomy (P / 18446744073709551616 - Q / 18446744073709551616) 0 with k | k | k
  ·rw [Int.sign_eq_neg_one_of_neg k, Int.sign_eq_neg_one_of_neg (by omega)]
  ·rw [k] at h; exact absurd rfl h
  ·rw [Int.sign_eq_one_of_pos k, Int.sign_eq_one_of_pos (by omega)]

set_option maxHeartbeats 400000 in
theorem orderProducts_any (P Q : Int) (w : World) (h1 : -170141183460469231731687303715884105728 ≤ P) (h2 : P < 170141183460469231731687303715884105728) (h3 : -170141183460469231731687303715884105728 ≤ Q) (h4 : Q < 170141183460469231731687303715884105728) :
  Calls Tryz.prog 137 #[.agg #[.int .u64 (P / 18446744073709551616 % 18446744073709551616), .int .u64 (P % 18446744073709551616)], .agg #[.int .u64 (Q / 18446744073709551616 % 18446744073709551616), .int .u64 (Q % 18446744073709551616)]] w fun e w' => e = .returned (.int .i64 (P - Q).sign) ∧ Below w.heap.size w w' := by
 have W := Lib.hid (words P Q h1 h2 h3 h4)
 clear h1 h2 h3 h4
 generalize P % 18446744073709551616 = p1 at *
 generalize Q % 18446744073709551616 = q1 at *
 generalize P / 18446744073709551616 % 18446744073709551616 = p0 at *
 generalize Q / 18446744073709551616 % 18446744073709551616 = q0 at *
 go_enter Tryz.func137, Tryz.ntmps137
 go_wp2_with fail
 refine (order_i _ _ _).mono ?_
 rintro e w' ⟨rfl, rfl⟩
 generalize hs : (wrap64 p0 - wrap64 q0).sign = s
 have W2 := Lib.hid (W.out s hs)
 clear hs W
 by_cases h : s = 0
 ·have W3 := Lib.hid (W2.out.1 h)
  subst h
  clear W2
  go_wp2_with fail
  refine (order_u _ _ _).mono ?_
  rintro e w' ⟨rfl, rfl⟩
  go_wp2
  go_ret
  exact ⟨ret_i W3.out, by go_grown⟩
 ·have W3 := Lib.hid (W2.out.2 h)
  clear W2
  go_wp2_with fail
  go_ret
  exact ⟨ret_i W3.out, by go_grown⟩

theorem mul_bd (a b : Int) (h1 : -9223372036854775808 ≤ a) (h2 : a ≤ 9223372036854775807) (h3 : -9223372036854775808 ≤ b) (h4 : b ≤ 9223372036854775807) :
  -170141183460469231731687303715884105728 ≤ a * b ∧ a * b < 170141183460469231731687303715884105728 := by
 have h : (a * b).natAbs ≤ 9223372036854775808 * 9223372036854775808 := by
  rw [Int.natAbs_mul]; exact Nat.mul_le_mul (by omega) (by omega)
 omega

set_option maxHeartbeats 400000 in
theorem sign2_any (a b c d : Int) (w : World) (ha : -9223372036854775808 ≤ a ∧ a ≤ 9223372036854775807) (hb : -9223372036854775808 ≤ b ∧ b ≤ 9223372036854775807) (hc : -9223372036854775808 ≤ c ∧ c ≤ 9223372036854775807) (hd : -9223372036854775808 ≤ d ∧ d ≤ 9223372036854775807) :
  Calls Tryz.prog 117 #[.int .i64 a, .int .i64 b, .int .i64 c, .int .i64 d] w fun e w' => e = .returned (.int .i64 (a * b - c * d).sign) ∧ Below w.heap.size w w' := by
 have b1 := mul_bd a b ha.1 ha.2 hb.1 hb.2
 have b2 := mul_bd c d hc.1 hc.2 hd.1 hd.2
 go_enter Tryz.func117, Tryz.ntmps117
 go_wp2_with fail
 refine (multiply_any a b _ ha.1 ha.2 hb.1 hb.2).mono ?_
 rintro e w1 ⟨rfl, hb1⟩
 go_wp2_with fail
 refine (multiply_any c d _ hc.1 hc.2 hd.1 hd.2).mono ?_
 rintro e w2 ⟨rfl, hb2⟩
 go_wp2_with fail
 refine (orderProducts_any _ _ _ b1.1 b1.2 b2.1 b2.2).mono ?_
 rintro e w3 ⟨rfl, hb3⟩
 go_wp2_with fail
 go_ret
 exact ⟨rfl, (hb1.trans (hb2.mono hb1.size)).trans (hb3.mono (Nat.le_trans hb1.size hb2.size))⟩

end Go.Proofs.YtoaldbjcpfkcjaaGreat

namespace Go.Proofs.YtoaldbjcpfkcjaaGreat
open Go.RowKit Go.Lib

theorem sign_is (x : Int) : (x < 0 ∧ x.sign = -1) ∨ (x = 0 ∧ x.sign = 0) ∨ (0 < x ∧ x.sign = 1) := by
 rcases Int.lt_trichotomy x 0 with h | h | h
 ·exact Or.inl ⟨h, Int.sign_eq_neg_one_of_neg h⟩
 ·exact Or.inr (Or.inl ⟨h, by rw [h]; rfl⟩)
 ·exact Or.inr (Or.inr ⟨h, Int.sign_eq_one_of_pos h⟩)

/-- The signs of two numbers and their sizes say the sign of the difference. -/
theorem signs (P Q : Int) :
  (P.sign ≠ Q.sign → (P.sign - Q.sign).sign = (P - Q).sign) ∧
  (P.sign = Q.sign → (Q.natAbs < P.natAbs → P.sign = (P - Q).sign) ∧ (P.natAbs < Q.natAbs → -P.sign = (P - Q).sign) ∧ (P.natAbs = Q.natAbs → 0 = (P - Q).sign)) := by
 have h1 := sign_is P
 have h2 := sign_is Q
 have h3 := sign_is (P - Q)
 have h4 := sign_is (P.sign - Q.sign)
 refine ⟨fun _ => ?_, fun _ => ⟨fun _ => ?_, fun _ => ?_, fun _ => ?_⟩⟩ <;> omega

theorem sign_bd (a : Int) : -1 ≤ a.sign ∧ a.sign ≤ 1 := by have := sign_is a; omega

/-- Two products without signs, in words of 64 bits. -/
theorem hilo (X Y : Nat) (s ans : Int) (H : (Y < X → s = ans) ∧ (X < Y → -s = ans) ∧ (X = Y → 0 = ans)) :
  (((Y / 18446744073709551616 : Nat) : Int) < ((X / 18446744073709551616 : Nat) : Int) → s = ans) ∧ (((X / 18446744073709551616 : Nat) : Int) < ((Y / 18446744073709551616 : Nat) : Int) → -s = ans) ∧
  (((X / 18446744073709551616 : Nat) : Int) = ((Y / 18446744073709551616 : Nat) : Int) → (((Y % 18446744073709551616 : Nat) : Int) < ((X % 18446744073709551616 : Nat) : Int) → s = ans) ∧ (((X % 18446744073709551616 : Nat) : Int) < ((Y % 18446744073709551616 : Nat) : Int) → -s = ans) ∧ (((X % 18446744073709551616 : Nat) : Int) = ((Y % 18446744073709551616 : Nat) : Int) → 0 = ans)) := by
 refine ⟨fun h => H.1 ?_, fun h => H.2.1 ?_, fun h => ⟨fun k => H.1 ?_, fun k => H.2.1 ?_, fun k => H.2.2 ?_⟩⟩ <;> omega

set_option maxHeartbeats 1000000 in
theorem rsign2_any (a b c d : Int) (w : World) (ha : -9223372036854775808 ≤ a ∧ a ≤ 9223372036854775807) (hb : -9223372036854775808 ≤ b ∧ b ≤ 9223372036854775807) (hc : -9223372036854775808 ≤ c ∧ c ≤ 9223372036854775807) (hd : -9223372036854775808 ≤ d ∧ d ≤ 9223372036854775807) :
  Calls Tryz.prog 116 #[.int .i64 a, .int .i64 b, .int .i64 c, .int .i64 d] w fun e w' => e = .returned (.int .i64 (a * b - c * d).sign) ∧ Below w.heap.size w w' := by
 have S0 := signs (a * b) (c * d)
 rw [Int.natAbs_mul, Int.natAbs_mul] at S0
 have bs := sign_bd (a * b)
 have bt := sign_bd (c * d)
 rw [Int.sign_mul] at bs bt
 rw [Int.sign_mul a b, Int.sign_mul c d] at S0
 generalize (a * b - c * d).sign = ans at *
 have S := Lib.hid S0
 clear S0
 go_enter Tryz.func116, Tryz.ntmps116
 go_wp2_with fail
 refine (sign_any a _).mono ?_
 rintro e w1 ⟨rfl, rfl⟩
 go_wp2_with fail
 refine (sign_any b _).mono ?_
 rintro e w1 ⟨rfl, rfl⟩
 go_wp2_with fail
 refine (sign_any c _).mono ?_
 rintro e w1 ⟨rfl, rfl⟩
 go_wp2_with fail
 refine (sign_any d _).mono ?_
 rintro e w1 ⟨rfl, rfl⟩
 by_cases hst : a.sign * b.sign = c.sign * d.sign
 ·have hst1 : (a.sign * b.sign != c.sign * d.sign) = false := by rw [bne_eq_false_iff_eq]; exact hst
  have S2 := Lib.hid (hilo _ _ _ _ (S.out.2 hst))
  clear S hst
  go_wp2_with fail
  clear hst1
  generalize a.sign * b.sign = s at *
  generalize c.sign * d.sign = t at *
  refine (size_any a _ ha.1 ha.2).mono ?_
  rintro e w1 ⟨rfl, rfl⟩
  go_wp2_with fail
  refine (size_any b _ hb.1 hb.2).mono ?_
  rintro e w1 ⟨rfl, rfl⟩
  go_wp2_with fail
  refine (product_any _ _ (by omega) (by omega) _).mono ?_
  rintro e w1 ⟨rfl, hb1⟩
  generalize ((a.natAbs * b.natAbs / 18446744073709551616 : Nat) : Int) = xh at *
  generalize ((a.natAbs * b.natAbs % 18446744073709551616 : Nat) : Int) = xl at *
  go_wp2_with fail
  refine (size_any c _ hc.1 hc.2).mono ?_
  rintro e w2 ⟨rfl, rfl⟩
  go_wp2_with fail
  refine (size_any d _ hd.1 hd.2).mono ?_
  rintro e w2 ⟨rfl, rfl⟩
  go_wp2_with fail
  refine (product_any _ _ (by omega) (by omega) _).mono ?_
  rintro e w2 ⟨rfl, hb2⟩
  generalize ((c.natAbs * d.natAbs / 18446744073709551616 : Nat) : Int) = yh at *
  generalize ((c.natAbs * d.natAbs % 18446744073709551616 : Nat) : Int) = yl at *
  have t1 := (Cells.made w1 [.int .u64 xh, .int .u64 xl] 156).later hb2 (by simp)
  have s1 : w1.heap.size + 1 ≤ w2.heap.size := by have := hb2.size; simp at this; omega
  have hB : Below w.heap.size w w2 := (hb1.alloc hb1.size _).trans (hb2.mono (by have := hb1.size; simp; omega))
  have t2 := Cells.made w2 [.int .u64 yh, .int .u64 yl] 156
  have t3 := t1.alloc (by omega) (.cells #[.int .u64 yh, .int .u64 yl] 156)
  go_wp2_with fail
  have hB2 := hB.alloc hB.size (.cells #[.int .u64 yh, .int .u64 yl] 156)
  generalize w2.alloc (.cells #[.int .u64 yh, .int .u64 yl] 156) = w3 at *
  have c1 := (t2.get 0 rfl).1
  have c2 := (t2.get 1 rfl).1
  have c3 := (t3.get 0 rfl).1
  have c4 := (t3.get 1 rfl).1
  clear t1 hB hb1 hb2
  by_cases h1 : yh < xh
  ·have r := Lib.hid (S2.out.1 h1)
   clear S2
   refine wp_loop_rounds 3 ?_
   rw [rounds_succ]
   go_wp2_with fail
   go_quiet (fail)
   go_wp2_with fail
   go_ret
   exact ⟨ret_i r.out, by repeat (first | exact hB2 | apply below_drewN)⟩
  ·by_cases h2 : xh < yh
   ·have r := Lib.hid (S2.out.2.1 h2)
    clear S2
    refine wp_loop_rounds 3 ?_
    rw [rounds_succ]
    go_wp2_with fail
    go_quiet (fail)
    go_wp2_with fail
    go_quiet (fail)
    go_wp2_with fail
    go_ret
    exact ⟨ret_i r.out, by repeat (first | exact hB2 | apply below_drewN)⟩
   ·obtain rfl : xh = yh := by omega
    have S3 := Lib.hid (S2.out.2.2 rfl)
    clear S2 h1 h2
    by_cases h3 : yl < xl
    ·have r := Lib.hid (S3.out.1 h3)
     clear S3
     refine wp_loop_rounds 3 ?_
     rw [rounds_succ]
     go_wp2_with fail
     go_quiet (fail)
     go_wp2_with fail
     go_quiet (fail)
     go_wp2_with fail
     rw [rounds_succ]
     go_wp2_with fail
     go_quiet (fail)
     go_wp2_with fail
     go_ret
     exact ⟨ret_i r.out, by repeat (first | exact hB2 | apply below_drewN)⟩
    ·by_cases h4 : xl < yl
     ·have r := Lib.hid (S3.out.2.1 h4)
      clear S3
      refine wp_loop_rounds 3 ?_
      rw [rounds_succ]
      go_wp2_with fail
      go_quiet (fail)
      go_wp2_with fail
      go_quiet (fail)
      go_wp2_with fail
      rw [rounds_succ]
      go_wp2_with fail
      go_quiet (fail)
      go_wp2_with fail
      go_quiet (fail)
      go_wp2_with fail
      go_ret
      exact ⟨ret_i r.out, by repeat (first | exact hB2 | apply below_drewN)⟩
     ·obtain rfl : xl = yl := by omega
      have r := Lib.hid (S3.out.2.2 rfl)
      clear S3 h3 h4
      refine wp_loop_rounds 3 ?_
      rw [rounds_succ]
      go_wp2_with fail
      go_quiet (fail)
      go_wp2_with fail
      go_quiet (fail)
      go_wp2_with fail
      rw [rounds_succ]
      go_wp2_with fail
      go_quiet (fail)
      go_wp2_with fail
      go_quiet (fail)
      go_wp2_with fail
      rw [rounds_succ]
      go_wp2_with fail
      go_ret
      exact ⟨ret_i r.out, by repeat (first | exact hB2 | apply below_drewN)⟩
 ·have hst1 : (a.sign * b.sign != c.sign * d.sign) = true := by rw [bne_iff_ne]; exact hst
  have S2 := Lib.hid (S.out.1 hst)
  clear S hst
  go_wp2_with fail
  clear hst1
  generalize a.sign * b.sign = s at *
  generalize c.sign * d.sign = t at *
  refine (sign_any _ _).mono ?_
  rintro e w1 ⟨rfl, rfl⟩
  go_wp2_with fail
  go_ret
  exact ⟨ret_i S2.out, Below.refl _ _⟩

/-- A world that has answered some questions more, and is otherwise as it was. -/
def Drew (w w' : World) : Prop := ∃ m, w' = w.drewN m
theorem Drew.more {w w' : World} (h : Drew w w') (n : Nat) : Drew w (w'.drewN n) := by
 obtain ⟨m, rfl⟩ := h
 exact ⟨m + n, by rw [World.drewN_drewN]⟩

end Go.Proofs.YtoaldbjcpfkcjaaGreat

namespace Go.Proofs.YtoaldbjcpfkcjaaGreat
open Go.RowKit Go.Lib

theorem ret_b {a b : Bool} (h : a = b) : Ending.returned (.bool a) = .returned (.bool b) := by rw [h]
/-- Whether a number lies between two others. -/
def btw (lo n hi : Int) : Bool := decide (lo ≤ n ∧ n ≤ hi)
theorem btw_yes {lo n hi : Int} (h : lo ≤ n) (k : n ≤ hi) : btw lo n hi = true := by unfold btw; simp [h, k]
theorem btw_no1 {lo n hi : Int} (h : ¬ lo ≤ n) : btw lo n hi = false := by unfold btw; simp [h]
theorem btw_no2 {lo n hi : Int} (h : ¬ n ≤ hi) : btw lo n hi = false := by unfold btw; simp [h]
theorem btw_iff {lo n hi : Int} : btw lo n hi = true ↔ (lo ≤ n ∧ n ≤ hi) := by unfold btw; simp

set_option maxHeartbeats 400000 in
theorem within_any (n l : Int) (w : World) (hl : 0 ≤ l ∧ l ≤ 4611686018427387904) :
  Calls Tryz.prog 80 #[.int .i64 n, .int .i64 l] w fun e w' => e = .returned (.bool (btw (-l) n l)) ∧ w = w' := by
 by_cases h1 : -l ≤ n
 ·by_cases h2 : n ≤ l
  ·go_enter Tryz.func80, Tryz.ntmps80
   go_wp2
   go_ret
   exact ⟨ret_b (btw_yes h1 h2).symm, rfl⟩
  ·go_enter Tryz.func80, Tryz.ntmps80
   go_wp2
   go_ret
   exact ⟨ret_b (btw_no2 (by omega)).symm, rfl⟩
 ·go_enter Tryz.func80, Tryz.ntmps80
  go_wp2
  go_ret
  exact ⟨ret_b (btw_no1 (by omega)).symm, rfl⟩

set_option maxHeartbeats 400000 in
theorem between_any (n lo hi : Int) (w : World) :
  Calls Tryz.prog 114 #[.int .i64 n, .int .i64 lo, .int .i64 hi] w fun e w' => e = .returned (.bool (btw lo n hi)) ∧ w = w' := by
 by_cases h1 : lo ≤ n
 ·by_cases h2 : n ≤ hi
  ·go_enter Tryz.func114, Tryz.ntmps114
   go_wp2
   go_ret
   exact ⟨ret_b (btw_yes h1 h2).symm, rfl⟩
  ·go_enter Tryz.func114, Tryz.ntmps114
   go_wp2
   go_ret
   exact ⟨ret_b (btw_no2 (by omega)).symm, rfl⟩
 ·go_enter Tryz.func114, Tryz.ntmps114
  go_wp2
  go_ret
  exact ⟨ret_b (btw_no1 (by omega)).symm, rfl⟩

theorem within_is (n l : Int) (r : Bool) (h : btw (-l) n l = r) (w : World) (hl : 0 ≤ l ∧ l ≤ 4611686018427387904) :
  Calls Tryz.prog 80 #[.int .i64 n, .int .i64 l] w fun e w' => e = .returned (.bool r) ∧ w = w' := h ▸ within_any n l w hl
theorem between_is (n lo hi : Int) (r : Bool) (h : btw lo n hi = r) (w : World) :
  Calls Tryz.prog 114 #[.int .i64 n, .int .i64 lo, .int .i64 hi] w fun e w' => e = .returned (.bool r) ∧ w = w' := h ▸ between_any n lo hi w

/-- Whether both coordinates lie within a limit. -/
def inl (m x y : Int) : Bool := btw (-m) x m && btw (-m) y m
theorem inl_no1 {m x y : Int} (h : btw (-m) x m = false) : inl m x y = false := by unfold inl; rw [h]; rfl
theorem inl_is {m x y : Int} {r : Bool} (h : btw (-m) x m = true) (k : btw (-m) y m = r) : inl m x y = r := by unfold inl; rw [h, k]; rfl
theorem inl_iff {m x y : Int} : inl m x y = true ↔ (-m ≤ x ∧ x ≤ m ∧ -m ≤ y ∧ y ≤ m) := by unfold inl; rw [Bool.and_eq_true, btw_iff, btw_iff]; omega

set_option maxHeartbeats 400000 in
theorem bounded_any (x y : Int) (w : World) :
  Calls Tryz.prog 50 #[.agg #[.int .i64 x, .int .i64 y]] w fun e w' => e = .returned (.bool (inl 1152921504606846976 x y)) ∧ Below w.heap.size w w' := by
 cases hx : btw (-1152921504606846976) x 1152921504606846976
 ·have H := Lib.hid (inl_no1 (y := y) hx)
  have HX := Lib.hid hx
  clear hx
  go_enter Tryz.func50, Tryz.ntmps50
  go_wp2_with fail
  refine (within_is _ _ _ HX.out _ (by omega)).mono ?_
  rintro e w1 ⟨rfl, rfl⟩
  go_wp2
  go_ret
  exact ⟨ret_b H.out.symm, by go_grown⟩
 ·obtain ⟨r, hr⟩ : ∃ r, btw (-1152921504606846976) y 1152921504606846976 = r := ⟨_, rfl⟩
  have H := Lib.hid (inl_is hx hr)
  have HX := Lib.hid hx
  have HR := Lib.hid hr
  clear hx hr
  go_enter Tryz.func50, Tryz.ntmps50
  go_wp2_with fail
  refine (within_is _ _ _ HX.out _ (by omega)).mono ?_
  rintro e w1 ⟨rfl, rfl⟩
  go_wp2_with fail
  refine (within_is _ _ _ HR.out _ (by omega)).mono ?_
  rintro e w1 ⟨rfl, rfl⟩
  go_wp2
  go_ret
  exact ⟨ret_b H.out.symm, by go_grown⟩

end Go.Proofs.YtoaldbjcpfkcjaaGreat

namespace Go.Proofs.YtoaldbjcpfkcjaaGreat
open Go.RowKit Go.Lib

/-- Each of these blocks is one of the call's own, no two are the same, and each begins with its cells; below the first heap's size nothing has turned. -/
structure Has (w0 : World) (bs : List (Nat × List Value)) (w : World) : Prop where
 c : ∀ p, p ∈ bs → Cells w p.1 p.2
 lt : ∀ p, p ∈ bs → p.1 < w.heap.size
 ge : ∀ p, p ∈ bs → w0.heap.size ≤ p.1
 nd : bs.Pairwise fun p q => p.1 ≠ q.1
 low : Below w0.heap.size w0 w

section
variable {w0 w w' : World} {bs : List (Nat × List Value)}
theorem Has.nil (h : Below w0.heap.size w0 w) : Has w0 [] w := ⟨fun _ h => (by cases h), fun _ h => (by cases h), fun _ h => (by cases h), .nil, h⟩
theorem Has.later (h : Has w0 bs w) (hb : Below w.heap.size w w') : Has w0 bs w' :=
 ⟨fun p hp => (h.c p hp).later hb (h.lt p hp), fun p hp => Nat.lt_of_lt_of_le (h.lt p hp) hb.size, h.ge, h.nd, h.low.trans (hb.mono h.low.size)⟩
theorem Has.alloc (h : Has w0 bs w) (o : Obj) : Has w0 bs (w.alloc o) := h.later ((Below.refl _ w).alloc (Nat.le_refl _) o)
theorem Has.drew (h : Has w0 bs w) : Has w0 bs w.drew := h.later ((Below.refl _ w).drew)
theorem Has.drewN (h : Has w0 bs w) (n : Nat) : Has w0 bs (w.drewN n) := h.later (below_drewN (Below.refl _ w) n)
theorem Has.push (h : Has w0 bs w) (xs : List Value) (T : TypeId) : Has w0 ((w.heap.size, xs) :: bs) (w.alloc (.cells xs.toArray T)) := by
 refine ⟨fun p hp => ?_, fun p hp => ?_, fun p hp => ?_, ?_, (h.alloc _).low⟩
 ·rcases List.mem_cons.1 hp with rfl | hp
  ·exact Cells.made w xs T
  ·exact (h.alloc _).c p hp
 ·rcases List.mem_cons.1 hp with rfl | hp
  ·simp
  ·exact (h.alloc _).lt p hp
 ·rcases List.mem_cons.1 hp with rfl | hp
  ·exact h.low.size
  ·exact h.ge p hp
 ·exact List.pairwise_cons.2 ⟨fun p hp e => by have := h.lt p hp; simp only at e; omega, h.nd⟩
theorem Has.fact (h : Has w0 bs w) {p : Nat × List Value} (hp : p ∈ bs) {i : Nat} {v : Value} (hv : p.2[i]? = some v) : w.cell? ⟨p.1, i, none⟩ = some v := ((h.c p hp).get i hv).1
theorem Has.free (h : Has w0 bs w) {p : Nat × List Value} (hp : p ∈ bs) {i : Nat} {v : Value} (hv : p.2[i]? = some v) : w.frozen? ⟨p.1, i, none⟩ = false := ((h.c p hp).get i hv).2
theorem Has.tail {p : Nat × List Value} (h : Has w0 (p :: bs) w) : Has w0 bs w :=
 ⟨fun q hq => h.c q (.tail _ hq), fun q hq => h.lt q (.tail _ hq), fun q hq => h.ge q (.tail _ hq), (List.pairwise_cons.1 h.nd).2, h.low⟩
theorem Has.perm {cs : List (Nat × List Value)} (h : Has w0 bs w) (hp : bs.Perm cs) : Has w0 cs w :=
 ⟨fun q hq => h.c q (hp.mem_iff.2 hq), fun q hq => h.lt q (hp.mem_iff.2 hq), fun q hq => h.ge q (hp.mem_iff.2 hq), (hp.pairwise_iff fun {_ _} h => Ne.symm h).1 h.nd, h.low⟩
theorem Has.swap {p q : Nat × List Value} (h : Has w0 (p :: q :: bs) w) : Has w0 (q :: p :: bs) w := h.perm (.swap _ _ _)
/-- The third is the first. -/
theorem Has.third {p q r : Nat × List Value} (h : Has w0 (p :: q :: r :: bs) w) : Has w0 (r :: p :: q :: bs) w := h.perm ((List.Perm.cons _ (.swap _ _ _)).trans (.swap _ _ _))
theorem Has.set {b : Nat} {xs : List Value} (h : Has w0 ((b, xs) :: bs) w) (k : Nat) (hk : k < xs.length) (u : Value) : Has w0 ((b, xs.set k u) :: bs) (w.setCell ⟨b, k, none⟩ u) := by
 have hge := h.ge (b, xs) (.head _)
 have hnd := List.pairwise_cons.1 h.nd
 refine ⟨fun p hp => ?_, fun p hp => ?_, fun p hp => ?_, List.pairwise_cons.2 ⟨fun p hp => hnd.1 p hp, hnd.2⟩, h.low.setCell (p := ⟨b, k, none⟩) hge u⟩
 ·rcases List.mem_cons.1 hp with rfl | hp
  ·exact (h.c (b, xs) (.head _)).set k hk u
  ·have hn := hnd.1 p hp
   intro i v hv
   obtain ⟨g1, g2⟩ := h.c p (.tail _ hp) i v hv
   refine ⟨?_, by rw [World.frozen?_setCell]; exact g2⟩
   rw [World.cell?_setCell_other (h := by intro e; injection e with e1 _; exact hn e1)]
   exact g1
 ·rw [World.size_setCell]
  rcases List.mem_cons.1 hp with rfl | hp
  ·exact h.lt (b, xs) (.head _)
  ·exact h.lt p (.tail _ hp)
 ·rcases List.mem_cons.1 hp with rfl | hp
  ·exact hge
  ·exact h.ge p (.tail _ hp)
theorem Has.set2 {b : Nat} {u v : Value} (h : Has w0 ((b, [u, v]) :: bs) w) (x y : Value) : Has w0 ((b, [x, y]) :: bs) ((w.setCell ⟨b, 0, none⟩ x).setCell ⟨b, 1, none⟩ y) :=
 (h.set 0 (by simp) x).set 1 (by simp) y
theorem Has.call {k : FuncId} {args : Array Value} {E : Ending} {P : Program} (h : Has w0 bs w) (hc : Calls P k args w fun e w' => e = E ∧ Below w.heap.size w w') : Calls P k args w fun e w' => e = E ∧ Has w0 bs w' :=
 hc.mono fun _ _ ⟨he, hb⟩ => ⟨he, h.later hb⟩
/-- One point. -/
theorem Has.pt {A : Nat} {a b : Value} (h : Has w0 ((A, [a, b]) :: bs) w) : w.cell? ⟨A, 0, none⟩ = some a ∧ w.cell? ⟨A, 1, none⟩ = some b := ⟨h.fact (.head _) (i := 0) rfl, h.fact (.head _) (i := 1) rfl⟩
theorem Has.ptf {A : Nat} {a b : Value} (h : Has w0 ((A, [a, b]) :: bs) w) : w.frozen? ⟨A, 0, none⟩ = false ∧ w.frozen? ⟨A, 1, none⟩ = false := ⟨h.free (.head _) (i := 0) rfl, h.free (.head _) (i := 1) rfl⟩
/-- Two points. -/
theorem Has.two {A B : Nat} {a b c d : Value} (h : Has w0 ((A, [a, b]) :: (B, [c, d]) :: bs) w) :
  (w.cell? ⟨A, 0, none⟩ = some a ∧ w.cell? ⟨A, 1, none⟩ = some b ∧ w.cell? ⟨B, 0, none⟩ = some c ∧ w.cell? ⟨B, 1, none⟩ = some d) ∧ Has w0 ((A, [a, b]) :: (B, [c, d]) :: bs) w :=
 ⟨⟨h.pt.1, h.pt.2, h.tail.pt.1, h.tail.pt.2⟩, h⟩
/-- A block of the call's own, and two points. -/
theorem Has.fst {A B C : Nat} {xs : List Value} {a b c d : Value} (h : Has w0 ((C, xs) :: (A, [a, b]) :: (B, [c, d]) :: bs) w) :
  (w.cell? ⟨A, 0, none⟩ = some a ∧ w.cell? ⟨A, 1, none⟩ = some b ∧ w.cell? ⟨B, 0, none⟩ = some c ∧ w.cell? ⟨B, 1, none⟩ = some d) ∧ Has w0 ((C, xs) :: (A, [a, b]) :: (B, [c, d]) :: bs) w :=
 ⟨h.tail.two.1, h⟩
/-- Three points. -/
theorem Has.three {A B C : Nat} {a b c d e f : Value} (h : Has w0 ((A, [a, b]) :: (B, [c, d]) :: (C, [e, f]) :: bs) w) :
  (w.cell? ⟨A, 0, none⟩ = some a ∧ w.cell? ⟨A, 1, none⟩ = some b ∧ w.cell? ⟨B, 0, none⟩ = some c ∧ w.cell? ⟨B, 1, none⟩ = some d ∧ w.cell? ⟨C, 0, none⟩ = some e ∧ w.cell? ⟨C, 1, none⟩ = some f) ∧ Has w0 ((A, [a, b]) :: (B, [c, d]) :: (C, [e, f]) :: bs) w :=
 ⟨⟨h.pt.1, h.pt.2, h.tail.pt.1, h.tail.pt.2, h.tail.tail.pt.1, h.tail.tail.pt.2⟩, h⟩
/-- Four points. -/
theorem Has.four {A B C D : Nat} {a b c d e f g k : Value} (h : Has w0 ((A, [a, b]) :: (B, [c, d]) :: (C, [e, f]) :: (D, [g, k]) :: bs) w) :
  (w.cell? ⟨A, 0, none⟩ = some a ∧ w.cell? ⟨A, 1, none⟩ = some b ∧ w.cell? ⟨B, 0, none⟩ = some c ∧ w.cell? ⟨B, 1, none⟩ = some d ∧ w.cell? ⟨C, 0, none⟩ = some e ∧ w.cell? ⟨C, 1, none⟩ = some f ∧ w.cell? ⟨D, 0, none⟩ = some g ∧ w.cell? ⟨D, 1, none⟩ = some k) ∧ Has w0 ((A, [a, b]) :: (B, [c, d]) :: (C, [e, f]) :: (D, [g, k]) :: bs) w :=
 ⟨⟨h.pt.1, h.pt.2, h.tail.pt.1, h.tail.pt.2, h.tail.tail.pt.1, h.tail.tail.pt.2, h.tail.tail.tail.pt.1, h.tail.tail.tail.pt.2⟩, h⟩
/-- Blocks, from where they are boxed: two, three, four. -/
theorem has1 (xs : List Value) (T : TypeId) : Has w [(w.heap.size, xs)] (w.alloc (.cells xs.toArray T)) := (Has.nil (Below.refl _ w)).push xs T
theorem has2 (xs ys : List Value) (T U : TypeId) : Has w [(w.heap.size, xs), (w.heap.size + 1, ys)] ((w.alloc (.cells xs.toArray T)).alloc (.cells ys.toArray U)) := by
 have h := (has1 (w := w) xs T).push ys U
 rw [size_alloc] at h
 exact h.swap
theorem has3 (xs ys zs : List Value) (T U V : TypeId) : Has w [(w.heap.size, xs), (w.heap.size + 1, ys), (w.heap.size + 2, zs)] (((w.alloc (.cells xs.toArray T)).alloc (.cells ys.toArray U)).alloc (.cells zs.toArray V)) := by
 have h := (has2 (w := w) xs ys T U).push zs V
 rw [size_alloc, size_alloc] at h
 exact h.perm ((List.Perm.swap _ _ _).trans (.cons _ (.swap _ _ _)))
theorem has4 (xs ys zs us : List Value) (T U V X : TypeId) : Has w [(w.heap.size, xs), (w.heap.size + 1, ys), (w.heap.size + 2, zs), (w.heap.size + 3, us)] ((((w.alloc (.cells xs.toArray T)).alloc (.cells ys.toArray U)).alloc (.cells zs.toArray V)).alloc (.cells us.toArray X)) := by
 have h := (has3 (w := w) xs ys zs T U V).push us X
 rw [size_alloc, size_alloc, size_alloc] at h
 exact h.perm ((List.Perm.swap _ _ _).trans (.cons _ ((List.Perm.swap _ _ _).trans (.cons _ (.swap _ _ _)))))
end

/-- Points in the order of their X, then of their Y. -/
def lexlt (a b c d : Int) : Bool := decide (a < c ∨ a = c ∧ b < d)
theorem lexlt_iff {a b c d : Int} : lexlt a b c d = true ↔ (a < c ∨ a = c ∧ b < d) := by unfold lexlt; simp
theorem lexlt_no {a b c d : Int} : lexlt a b c d = false ↔ ¬ (a < c ∨ a = c ∧ b < d) := by unfold lexlt; simp
def lexmin (a b c d : Int) : Int × Int := if lexlt a b c d then (a, b) else (c, d)
def lexmax (a b c d : Int) : Int × Int := if lexlt a b c d then (c, d) else (a, b)

set_option maxHeartbeats 400000 in
theorem earlier_any (a b c d : Int) (w : World) :
  Calls Tryz.prog 84 #[.agg #[.int .i64 a, .int .i64 b], .agg #[.int .i64 c, .int .i64 d]] w fun e w' => e = .returned (.agg #[.int .i64 (lexmin a b c d).1, .int .i64 (lexmin a b c d).2]) ∧ Below w.heap.size w w' := by
 rcases Int.lt_trichotomy a c with h | h | h
 ·rw [show lexmin a b c d = (a, b) by unfold lexmin; rw [if_pos (lexlt_iff.2 (Or.inl h))]]
  go_enter Tryz.func84, Tryz.ntmps84
  go_wp2
  go_returns
  exact ⟨rfl, by go_grown⟩
 ·subst h
  by_cases k : b < d
  ·rw [show lexmin a b a d = (a, b) by unfold lexmin; rw [if_pos (lexlt_iff.2 (Or.inr ⟨rfl, k⟩))]]
   go_enter Tryz.func84, Tryz.ntmps84
   go_wp2
   go_returns
   exact ⟨rfl, by go_grown⟩
  ·rw [show lexmin a b a d = (a, d) by unfold lexmin; rw [if_neg (by rw [lexlt_iff]; omega)]]
   go_enter Tryz.func84, Tryz.ntmps84
   go_wp2
   go_returns
   exact ⟨rfl, by go_grown⟩
 ·rw [show lexmin a b c d = (c, d) by unfold lexmin; rw [if_neg (by rw [lexlt_iff]; omega)]]
  have h1 : (a == c) = false := by rw [beq_eq_false_iff_ne]; omega
  go_enter Tryz.func84, Tryz.ntmps84
  go_wp2
  go_returns
  exact ⟨rfl, by go_grown⟩

theorem earlier_is (a b c d p q : Int) (h : lexmin a b c d = (p, q)) (w : World) :
  Calls Tryz.prog 84 #[.agg #[.int .i64 a, .int .i64 b], .agg #[.int .i64 c, .int .i64 d]] w fun e w' => e = .returned (.agg #[.int .i64 p, .int .i64 q]) ∧ Below w.heap.size w w' := by
 have := earlier_any a b c d w
 rw [h] at this
 exact this

set_option maxHeartbeats 400000 in
theorem less_any (a b c d : Int) (w : World) :
  Calls Tryz.prog 79 #[.agg #[.int .i64 a, .int .i64 b], .agg #[.int .i64 c, .int .i64 d]] w fun e w' => e = .returned (.bool (lexlt a b c d)) ∧ Below w.heap.size w w' := by
 rcases Int.lt_trichotomy a c with h | h | h
 ·rw [lexlt_iff.2 (Or.inl h)]
  go_enter Tryz.func79, Tryz.ntmps79
  go_wp2
  go_ret
  exact ⟨rfl, by go_grown⟩
 ·subst h
  by_cases k : b < d
  ·rw [lexlt_iff.2 (Or.inr ⟨rfl, k⟩)]
   go_enter Tryz.func79, Tryz.ntmps79
   go_wp2
   go_ret
   exact ⟨rfl, by go_grown⟩
  ·rw [lexlt_no.2 (by omega)]
   go_enter Tryz.func79, Tryz.ntmps79
   go_wp2
   go_ret
   exact ⟨rfl, by go_grown⟩
 ·rw [lexlt_no.2 (by omega)]
  have h1 : (a == c) = false := by rw [beq_eq_false_iff_ne]; omega
  have h2 : decide (a < c) = false := by simp; omega
  go_enter Tryz.func79, Tryz.ntmps79
  go_wp2
  go_ret
  exact ⟨rfl, by go_grown⟩

theorem less_is (a b c d : Int) (r : Bool) (h : lexlt a b c d = r) (w : World) :
  Calls Tryz.prog 79 #[.agg #[.int .i64 a, .int .i64 b], .agg #[.int .i64 c, .int .i64 d]] w fun e w' => e = .returned (.bool r) ∧ Below w.heap.size w w' := h ▸ less_any a b c d w

/-- What the smaller of two points is, and the greater. -/
theorem lex_lt {a b c d : Int} (h : lexlt a b c d = true) : lexmin a b c d = (a, b) ∧ lexmax a b c d = (c, d) := by unfold lexmin lexmax; rw [if_pos h, if_pos h]; exact ⟨rfl, rfl⟩
theorem lex_ge {a b c d : Int} (h : lexlt a b c d = false) : lexmin a b c d = (c, d) ∧ lexmax a b c d = (a, b) := by unfold lexmin lexmax; rw [h]; exact ⟨rfl, rfl⟩

theorem lexmax_by {a b c d p q : Int} (h : lexmin a b c d = (p, q)) : (p = a → q = b → lexmax a b c d = (c, d)) ∧ (¬ p = a → lexmax a b c d = (a, b)) ∧ (¬ q = b → lexmax a b c d = (a, b)) := by
 unfold lexmin at h
 unfold lexmax
 cases hl : lexlt a b c d <;> rw [hl] at h <;> simp only [Bool.false_eq_true, if_false, if_true, Prod.mk.injEq] at h ⊢ <;> obtain ⟨rfl, rfl⟩ := h
 ·refine ⟨fun e f => ⟨e.symm, f.symm⟩, fun _ => trivial, fun _ => trivial⟩
 ·refine ⟨fun _ _ => trivial, fun e => absurd rfl e, fun e => absurd rfl e⟩

set_option maxHeartbeats 1000000 in
theorem later_any (a b c d : Int) (w : World) :
  Calls Tryz.prog 83 #[.agg #[.int .i64 a, .int .i64 b], .agg #[.int .i64 c, .int .i64 d]] w fun e w' => e = .returned (.agg #[.int .i64 (lexmax a b c d).1, .int .i64 (lexmax a b c d).2]) ∧ Below w.heap.size w w' := by
 obtain ⟨p, q, hpq⟩ : ∃ p q, lexmin a b c d = (p, q) := ⟨_, _, rfl⟩
 obtain ⟨g1, g2, g3⟩ := lexmax_by hpq
 have HP := Lib.hid hpq
 clear hpq
 by_cases k1 : p = a
 ·by_cases k2 : q = b
  ·rw [g1 k1 k2]
   have e1 : (p == a) = true := by rw [k1]; simp
   have e2 : (q == b) = true := by rw [k2]; simp
   clear g1 g2 g3 k1 k2
   have C0 := has2 (w := w) [.int .i64 a, .int .i64 b] [.int .i64 c, .int .i64 d] 37 37
   have C1 := C0.push [.int .i64 0, .int .i64 0] 37
   rw [size_alloc, size_alloc] at C1
   clear C0
   go_enter Tryz.func83, Tryz.ntmps83
   go_wp2_with fail
   change Has w _ (((w.alloc (.cells #[.int .i64 a, .int .i64 b] 37)).alloc (.cells #[.int .i64 c, .int .i64 d] 37)).alloc (.cells #[.int .i64 0, .int .i64 0] 37)) at C1
   generalize ((w.alloc (.cells #[.int .i64 a, .int .i64 b] 37)).alloc (.cells #[.int .i64 c, .int .i64 d] 37)).alloc (.cells #[.int .i64 0, .int .i64 0] 37) = w1 at *
   have c0 := C1.fact (.tail _ (.head _)) (i := 0) rfl
   have c1 := C1.fact (.tail _ (.head _)) (i := 1) rfl
   have c2 := C1.fact (.tail _ (.tail _ (.head _))) (i := 0) rfl
   have c3 := C1.fact (.tail _ (.tail _ (.head _))) (i := 1) rfl
   go_region_held3 (fun w' => (w'.cell? ⟨w.heap.size, 0, none⟩ = some (.int .i64 a) ∧ w'.cell? ⟨w.heap.size, 1, none⟩ = some (.int .i64 b) ∧ w'.cell? ⟨w.heap.size + 1, 0, none⟩ = some (.int .i64 c) ∧ w'.cell? ⟨w.heap.size + 1, 1, none⟩ = some (.int .i64 d)) ∧ Has w [(w.heap.size + 2, [.int .i64 0, .int .i64 0]), (w.heap.size, [.int .i64 a, .int .i64 b]), (w.heap.size + 1, [.int .i64 c, .int .i64 d])] w')
    (first | exact C1.drew.fst | exact Has.fst (by assumption))
    (first | (go_at_call 84; refine (Has.call (by first | assumption | exact And.right (by assumption)) (earlier_is _ _ _ _ _ _ HP.out _)).mono ?_; rintro e w' ⟨rfl, hC⟩))
   have C2 : Has w [(w.heap.size + 2, [.int .i64 0, .int .i64 0]), (w.heap.size, [.int .i64 a, .int .i64 b]), (w.heap.size + 1, [.int .i64 c, .int .i64 d])] _ := hC
   clear c0 c1 c2 c3 C1
   obtain ⟨⟨c0, c1, c2, c3⟩, -⟩ := C2.fst
   have c4 := C2.fact (.head _) (i := 0) rfl
   have c5 := C2.fact (.head _) (i := 1) rfl
   have f4 := C2.free (.head _) (i := 0) rfl
   have f5 := C2.free (.head _) (i := 1) rfl
   go_wp2_with fail
   have C3 := C2.set2 (.int .i64 c) (.int .i64 d)
   generalize (World.setCell _ ⟨w.heap.size + 2, 0, none⟩ (.int .i64 c)).setCell ⟨w.heap.size + 2, 1, none⟩ (.int .i64 d) = w3 at *
   have d0 := C3.fact (.head _) (i := 0) rfl
   have d1 := C3.fact (.head _) (i := 1) rfl
   exact bodyPost_ret (v := .agg #[.int .i64 c, .int .i64 d]) (by simp [results, Tryz.results83, go_sem, d0, d1]) rfl ⟨rfl, C3.low⟩
  ·rw [g3 k2]
   have e1 : (p == a) = true := by rw [k1]; simp
   have e2 : (q == b) = false := by rw [beq_eq_false_iff_ne]; exact k2
   clear g1 g2 g3 k1 k2
   have C0 := has2 (w := w) [.int .i64 a, .int .i64 b] [.int .i64 c, .int .i64 d] 37 37
   have C1 := C0.push [.int .i64 0, .int .i64 0] 37
   rw [size_alloc, size_alloc] at C1
   clear C0
   go_enter Tryz.func83, Tryz.ntmps83
   go_wp2_with fail
   change Has w _ (((w.alloc (.cells #[.int .i64 a, .int .i64 b] 37)).alloc (.cells #[.int .i64 c, .int .i64 d] 37)).alloc (.cells #[.int .i64 0, .int .i64 0] 37)) at C1
   generalize ((w.alloc (.cells #[.int .i64 a, .int .i64 b] 37)).alloc (.cells #[.int .i64 c, .int .i64 d] 37)).alloc (.cells #[.int .i64 0, .int .i64 0] 37) = w1 at *
   have c0 := C1.fact (.tail _ (.head _)) (i := 0) rfl
   have c1 := C1.fact (.tail _ (.head _)) (i := 1) rfl
   have c2 := C1.fact (.tail _ (.tail _ (.head _))) (i := 0) rfl
   have c3 := C1.fact (.tail _ (.tail _ (.head _))) (i := 1) rfl
   go_region_held3 (fun w' => (w'.cell? ⟨w.heap.size, 0, none⟩ = some (.int .i64 a) ∧ w'.cell? ⟨w.heap.size, 1, none⟩ = some (.int .i64 b) ∧ w'.cell? ⟨w.heap.size + 1, 0, none⟩ = some (.int .i64 c) ∧ w'.cell? ⟨w.heap.size + 1, 1, none⟩ = some (.int .i64 d)) ∧ Has w [(w.heap.size + 2, [.int .i64 0, .int .i64 0]), (w.heap.size, [.int .i64 a, .int .i64 b]), (w.heap.size + 1, [.int .i64 c, .int .i64 d])] w')
    (first | exact C1.drew.fst | exact Has.fst (by assumption))
    (first | (go_at_call 84; refine (Has.call (by first | assumption | exact And.right (by assumption)) (earlier_is _ _ _ _ _ _ HP.out _)).mono ?_; rintro e w' ⟨rfl, hC⟩))
   have C2 : Has w [(w.heap.size + 2, [.int .i64 0, .int .i64 0]), (w.heap.size, [.int .i64 a, .int .i64 b]), (w.heap.size + 1, [.int .i64 c, .int .i64 d])] _ := hC
   clear c0 c1 c2 c3 C1
   obtain ⟨⟨c0, c1, c2, c3⟩, -⟩ := C2.fst
   have c4 := C2.fact (.head _) (i := 0) rfl
   have c5 := C2.fact (.head _) (i := 1) rfl
   have f4 := C2.free (.head _) (i := 0) rfl
   have f5 := C2.free (.head _) (i := 1) rfl
   go_wp2_with fail
   have C3 := C2.set2 (.int .i64 a) (.int .i64 b)
   generalize (World.setCell _ ⟨w.heap.size + 2, 0, none⟩ (.int .i64 a)).setCell ⟨w.heap.size + 2, 1, none⟩ (.int .i64 b) = w3 at *
   have d0 := C3.fact (.head _) (i := 0) rfl
   have d1 := C3.fact (.head _) (i := 1) rfl
   exact bodyPost_ret (v := .agg #[.int .i64 a, .int .i64 b]) (by simp [results, Tryz.results83, go_sem, d0, d1]) rfl ⟨rfl, C3.low⟩
 ·rw [g2 k1]
  have e1 : (p == a) = false := by rw [beq_eq_false_iff_ne]; exact k1
  clear g1 g2 g3 k1
  have C0 := has2 (w := w) [.int .i64 a, .int .i64 b] [.int .i64 c, .int .i64 d] 37 37
  have C1 := C0.push [.int .i64 0, .int .i64 0] 37
  rw [size_alloc, size_alloc] at C1
  clear C0
  go_enter Tryz.func83, Tryz.ntmps83
  go_wp2_with fail
  change Has w _ (((w.alloc (.cells #[.int .i64 a, .int .i64 b] 37)).alloc (.cells #[.int .i64 c, .int .i64 d] 37)).alloc (.cells #[.int .i64 0, .int .i64 0] 37)) at C1
  generalize ((w.alloc (.cells #[.int .i64 a, .int .i64 b] 37)).alloc (.cells #[.int .i64 c, .int .i64 d] 37)).alloc (.cells #[.int .i64 0, .int .i64 0] 37) = w1 at *
  have c0 := C1.fact (.tail _ (.head _)) (i := 0) rfl
  have c1 := C1.fact (.tail _ (.head _)) (i := 1) rfl
  have c2 := C1.fact (.tail _ (.tail _ (.head _))) (i := 0) rfl
  have c3 := C1.fact (.tail _ (.tail _ (.head _))) (i := 1) rfl
  go_region_held3 (fun w' => (w'.cell? ⟨w.heap.size, 0, none⟩ = some (.int .i64 a) ∧ w'.cell? ⟨w.heap.size, 1, none⟩ = some (.int .i64 b) ∧ w'.cell? ⟨w.heap.size + 1, 0, none⟩ = some (.int .i64 c) ∧ w'.cell? ⟨w.heap.size + 1, 1, none⟩ = some (.int .i64 d)) ∧ Has w [(w.heap.size + 2, [.int .i64 0, .int .i64 0]), (w.heap.size, [.int .i64 a, .int .i64 b]), (w.heap.size + 1, [.int .i64 c, .int .i64 d])] w')
   (first | exact C1.drew.fst | exact Has.fst (by assumption))
   (first | (go_at_call 84; refine (Has.call (by first | assumption | exact And.right (by assumption)) (earlier_is _ _ _ _ _ _ HP.out _)).mono ?_; rintro e w' ⟨rfl, hC⟩))
  have C2 : Has w [(w.heap.size + 2, [.int .i64 0, .int .i64 0]), (w.heap.size, [.int .i64 a, .int .i64 b]), (w.heap.size + 1, [.int .i64 c, .int .i64 d])] _ := hC
  clear c0 c1 c2 c3 C1
  obtain ⟨⟨c0, c1, c2, c3⟩, -⟩ := C2.fst
  have c4 := C2.fact (.head _) (i := 0) rfl
  have c5 := C2.fact (.head _) (i := 1) rfl
  have f4 := C2.free (.head _) (i := 0) rfl
  have f5 := C2.free (.head _) (i := 1) rfl
  go_wp2_with fail
  have C3 := C2.set2 (.int .i64 a) (.int .i64 b)
  generalize (World.setCell _ ⟨w.heap.size + 2, 0, none⟩ (.int .i64 a)).setCell ⟨w.heap.size + 2, 1, none⟩ (.int .i64 b) = w3 at *
  have d0 := C3.fact (.head _) (i := 0) rfl
  have d1 := C3.fact (.head _) (i := 1) rfl
  exact bodyPost_ret (v := .agg #[.int .i64 a, .int .i64 b]) (by simp [results, Tryz.results83, go_sem, d0, d1]) rfl ⟨rfl, C3.low⟩

end Go.Proofs.YtoaldbjcpfkcjaaGreat

namespace Go.Proofs.YtoaldbjcpfkcjaaGreat
open Go.RowKit Go.Lib

/-- What small makes of a coordinate. -/
def sm (x : Int) : Int := x % 25 - 12
end Go.Proofs.YtoaldbjcpfkcjaaGreat

namespace Go.Proofs.YtoaldbjcpfkcjaaGreat
open Go.RowKit Go.Lib

theorem Has.four1 {w0 w : World} {bs : List (Nat × List Value)} {A B C D E : Nat} {xs : List Value} {a b c d e f g k : Value} (h : Has w0 ((E, xs) :: (A, [a, b]) :: (B, [c, d]) :: (C, [e, f]) :: (D, [g, k]) :: bs) w) :
  (w.cell? ⟨A, 0, none⟩ = some a ∧ w.cell? ⟨A, 1, none⟩ = some b ∧ w.cell? ⟨B, 0, none⟩ = some c ∧ w.cell? ⟨B, 1, none⟩ = some d ∧ w.cell? ⟨C, 0, none⟩ = some e ∧ w.cell? ⟨C, 1, none⟩ = some f ∧ w.cell? ⟨D, 0, none⟩ = some g ∧ w.cell? ⟨D, 1, none⟩ = some k) ∧ Has w0 ((E, xs) :: (A, [a, b]) :: (B, [c, d]) :: (C, [e, f]) :: (D, [g, k]) :: bs) w := ⟨h.tail.four.1, h⟩

/-- What overlap answers of two points in order. -/
def ovl2 (l h : Int × Int) : Int := if l = h then 1 else if lexlt l.1 l.2 h.1 h.2 then 2 else 0
def lowP (a0 a1 b0 b1 c0 c1 d0 d1 : Int) : Int × Int := lexmax (lexmin a0 a1 b0 b1).1 (lexmin a0 a1 b0 b1).2 (lexmin c0 c1 d0 d1).1 (lexmin c0 c1 d0 d1).2
def highP (a0 a1 b0 b1 c0 c1 d0 d1 : Int) : Int × Int := lexmin (lexmax a0 a1 b0 b1).1 (lexmax a0 a1 b0 b1).2 (lexmax c0 c1 d0 d1).1 (lexmax c0 c1 d0 d1).2
def ovl (a0 a1 b0 b1 c0 c1 d0 d1 : Int) : Int := ovl2 (lowP a0 a1 b0 b1 c0 c1 d0 d1) (highP a0 a1 b0 b1 c0 c1 d0 d1)

set_option maxHeartbeats 8000000 in
theorem overlap_any (a0 a1 b0 b1 c0 c1 d0 d1 : Int) (w : World) :
  Calls Tryz.prog 52 #[.agg #[.int .i64 a0, .int .i64 a1], .agg #[.int .i64 b0, .int .i64 b1], .agg #[.int .i64 c0, .int .i64 c1], .agg #[.int .i64 d0, .int .i64 d1]] w fun e w' => e = .returned (.int .i64 (ovl a0 a1 b0 b1 c0 c1 d0 d1)) ∧ Below w.heap.size w w' := by
 obtain ⟨L, hL⟩ : ∃ L, lowP a0 a1 b0 b1 c0 c1 d0 d1 = L := ⟨_, rfl⟩
 obtain ⟨H, hH⟩ : ∃ H, highP a0 a1 b0 b1 c0 c1 d0 d1 = H := ⟨_, rfl⟩
 have hO : ovl a0 a1 b0 b1 c0 c1 d0 d1 = ovl2 L H := by unfold ovl; rw [hL, hH]
 rw [hO]
 unfold lowP at hL
 unfold highP at hH
 have HL := Lib.hid hL
 have HH := Lib.hid hH
 clear hL hH hO
 have C0 := has4 (w := w) [.int .i64 a0, .int .i64 a1] [.int .i64 b0, .int .i64 b1] [.int .i64 c0, .int .i64 c1] [.int .i64 d0, .int .i64 d1] 37 37 37 37
 go_enter Tryz.func52, Tryz.ntmps52
 go_wp2_with fail
 change Has w _ ((((w.alloc (.cells #[.int .i64 a0, .int .i64 a1] 37)).alloc (.cells #[.int .i64 b0, .int .i64 b1] 37)).alloc (.cells #[.int .i64 c0, .int .i64 c1] 37)).alloc (.cells #[.int .i64 d0, .int .i64 d1] 37)) at C0
 generalize (((w.alloc (.cells #[.int .i64 a0, .int .i64 a1] 37)).alloc (.cells #[.int .i64 b0, .int .i64 b1] 37)).alloc (.cells #[.int .i64 c0, .int .i64 c1] 37)).alloc (.cells #[.int .i64 d0, .int .i64 d1] 37) = w1 at *
 go_cut [9] (fun v wx => ∃ bb, v = .pointer (some ⟨bb, 0, none⟩) ∧ Has w ((bb, [.int .i64 L.1, .int .i64 L.2]) :: [(w.heap.size, [.int .i64 a0, .int .i64 a1]), (w.heap.size + 1, [.int .i64 b0, .int .i64 b1]), (w.heap.size + 2, [.int .i64 c0, .int .i64 c1]), (w.heap.size + 3, [.int .i64 d0, .int .i64 d1])]) wx)
 case first =>
  obtain ⟨⟨k0, k1, k2, k3, k4, k5, k6, k7⟩, -⟩ := C0.four
  go_region_held3 (fun w' => (w'.cell? ⟨w.heap.size, 0, none⟩ = some (.int .i64 a0) ∧ w'.cell? ⟨w.heap.size, 1, none⟩ = some (.int .i64 a1) ∧ w'.cell? ⟨w.heap.size + 1, 0, none⟩ = some (.int .i64 b0) ∧ w'.cell? ⟨w.heap.size + 1, 1, none⟩ = some (.int .i64 b1) ∧ w'.cell? ⟨w.heap.size + 2, 0, none⟩ = some (.int .i64 c0) ∧ w'.cell? ⟨w.heap.size + 2, 1, none⟩ = some (.int .i64 c1) ∧ w'.cell? ⟨w.heap.size + 3, 0, none⟩ = some (.int .i64 d0) ∧ w'.cell? ⟨w.heap.size + 3, 1, none⟩ = some (.int .i64 d1)) ∧ Has w ([(w.heap.size, [.int .i64 a0, .int .i64 a1]), (w.heap.size + 1, [.int .i64 b0, .int .i64 b1]), (w.heap.size + 2, [.int .i64 c0, .int .i64 c1]), (w.heap.size + 3, [.int .i64 d0, .int .i64 d1])]) w')
   (first | exact C0.drew.four | exact Has.four (by assumption) | exact Has.four (Has.tail (by assumption)) | exact Has.four (Has.alloc (by assumption) _) | exact Has.four (Has.alloc (And.right (by assumption)) _) | exact Has.four (Has.tail (Has.set2 (by assumption) _ _)))
   (first
    | (go_at_call 84; refine (Has.call (by first | exact (C0.push [.int .i64 0, .int .i64 0] 37).drew | exact Has.push (by assumption) [.int .i64 0, .int .i64 0] 37 | exact Has.push (And.right (by assumption)) [.int .i64 0, .int .i64 0] 37 | assumption | exact And.right (by assumption)) (earlier_any _ _ _ _ _)).mono ?_; rintro e w' ⟨rfl, hC⟩; obtain ⟨g00, g01⟩ := Has.pt hC; obtain ⟨g10, g11⟩ := Has.ptf hC)
    | (go_at_call 83; refine (Has.call (by first | exact (C0.push [.int .i64 0, .int .i64 0] 37).drew | exact Has.push (by assumption) [.int .i64 0, .int .i64 0] 37 | exact Has.push (And.right (by assumption)) [.int .i64 0, .int .i64 0] 37 | assumption | exact And.right (by assumption)) (later_any _ _ _ _ _)).mono ?_; rintro e w' ⟨rfl, hC⟩; obtain ⟨g00, g01⟩ := Has.pt hC; obtain ⟨g10, g11⟩ := Has.ptf hC))
  all_goals
   go_wp2_with fail
   go_meet
   exact ⟨_, rfl, by rw [← HL.out]; first | exact Has.set2 (by assumption) _ _ | exact Has.set2 (Has.push (by assumption) [.int .i64 0, .int .i64 0] 37) _ _ | exact Has.push (by assumption) [_, _] 37⟩
 case rest =>
  obtain ⟨b, rfl, C1⟩ := hcut
  clear C0
  go_wp2_with fail
  go_cut [10] (fun v wx => ∃ bb, v = .pointer (some ⟨bb, 0, none⟩) ∧ Has w ((bb, [.int .i64 H.1, .int .i64 H.2]) :: (b, [.int .i64 L.1, .int .i64 L.2]) :: [(w.heap.size, [.int .i64 a0, .int .i64 a1]), (w.heap.size + 1, [.int .i64 b0, .int .i64 b1]), (w.heap.size + 2, [.int .i64 c0, .int .i64 c1]), (w.heap.size + 3, [.int .i64 d0, .int .i64 d1])]) wx)
  case first =>
   obtain ⟨⟨k0, k1, k2, k3, k4, k5, k6, k7⟩, -⟩ := C1.four1
   go_region_held3 (fun w' => (w'.cell? ⟨w.heap.size, 0, none⟩ = some (.int .i64 a0) ∧ w'.cell? ⟨w.heap.size, 1, none⟩ = some (.int .i64 a1) ∧ w'.cell? ⟨w.heap.size + 1, 0, none⟩ = some (.int .i64 b0) ∧ w'.cell? ⟨w.heap.size + 1, 1, none⟩ = some (.int .i64 b1) ∧ w'.cell? ⟨w.heap.size + 2, 0, none⟩ = some (.int .i64 c0) ∧ w'.cell? ⟨w.heap.size + 2, 1, none⟩ = some (.int .i64 c1) ∧ w'.cell? ⟨w.heap.size + 3, 0, none⟩ = some (.int .i64 d0) ∧ w'.cell? ⟨w.heap.size + 3, 1, none⟩ = some (.int .i64 d1)) ∧ Has w ((b, [.int .i64 L.1, .int .i64 L.2]) :: [(w.heap.size, [.int .i64 a0, .int .i64 a1]), (w.heap.size + 1, [.int .i64 b0, .int .i64 b1]), (w.heap.size + 2, [.int .i64 c0, .int .i64 c1]), (w.heap.size + 3, [.int .i64 d0, .int .i64 d1])]) w')
    (first | exact C1.drew.four1 | exact Has.four1 (by assumption) | exact Has.four1 (Has.tail (by assumption)) | exact Has.four1 (Has.alloc (by assumption) _) | exact Has.four1 (Has.alloc (And.right (by assumption)) _) | exact Has.four1 (Has.tail (Has.set2 (by assumption) _ _)))
    (first
     | (go_at_call 84; refine (Has.call (by first | exact (C1.push [.int .i64 0, .int .i64 0] 37).drew | exact Has.push (by assumption) [.int .i64 0, .int .i64 0] 37 | exact Has.push (And.right (by assumption)) [.int .i64 0, .int .i64 0] 37 | assumption | exact And.right (by assumption)) (earlier_any _ _ _ _ _)).mono ?_; rintro e w' ⟨rfl, hC⟩; obtain ⟨g00, g01⟩ := Has.pt hC; obtain ⟨g10, g11⟩ := Has.ptf hC)
     | (go_at_call 83; refine (Has.call (by first | exact (C1.push [.int .i64 0, .int .i64 0] 37).drew | exact Has.push (by assumption) [.int .i64 0, .int .i64 0] 37 | exact Has.push (And.right (by assumption)) [.int .i64 0, .int .i64 0] 37 | assumption | exact And.right (by assumption)) (later_any _ _ _ _ _)).mono ?_; rintro e w' ⟨rfl, hC⟩; obtain ⟨g00, g01⟩ := Has.pt hC; obtain ⟨g10, g11⟩ := Has.ptf hC))
   all_goals
    go_wp2_with fail
    go_meet
    exact ⟨_, rfl, by rw [← HH.out]; first | exact Has.set2 (by assumption) _ _ | exact Has.set2 (Has.push (by assumption) [.int .i64 0, .int .i64 0] 37) _ _ | exact Has.push (by assumption) [_, _] 37⟩
  case rest =>
   obtain ⟨c, rfl, C2⟩ := hcut
   clear C1 HL HH
   obtain ⟨l0, l1⟩ := L
   obtain ⟨h0, h1⟩ := H
   obtain ⟨k0, k1, k2, k3⟩ := C2.two.1
   by_cases e1 : l0 = h0
   ·by_cases e2 : l1 = h1
    ·subst e1 e2
     have HV := Lib.hid (show 1 = ovl2 (l0, l1) (l0, l1) by unfold ovl2; rw [if_pos rfl])
     go_wp2_with fail
     go_ret
     exact ⟨ret_i HV.out, C2.low⟩
    ·subst e1
     have e3 : (l1 == h1) = false := by rw [beq_eq_false_iff_ne]; exact e2
     by_cases e4 : l1 < h1
     ·have HV := Lib.hid (show 2 = ovl2 (l0, l1) (l0, h1) by unfold ovl2; rw [if_neg (by intro e; injection e with _ e; exact e2 e), if_pos (lexlt_iff.2 (Or.inr ⟨rfl, e4⟩))])
      have HM := Lib.hid (show lexmin l0 l1 l0 h1 = (l0, l1) from (lex_lt (lexlt_iff.2 (Or.inr ⟨rfl, e4⟩))).1)
      clear e2
      go_wp2_with fail
      go_region_held3 (fun w' => (w'.cell? ⟨c, 0, none⟩ = some (.int .i64 l0) ∧ w'.cell? ⟨c, 1, none⟩ = some (.int .i64 h1) ∧ w'.cell? ⟨b, 0, none⟩ = some (.int .i64 l0) ∧ w'.cell? ⟨b, 1, none⟩ = some (.int .i64 l1)) ∧ Has w ((c, [.int .i64 l0, .int .i64 h1]) :: (b, [.int .i64 l0, .int .i64 l1]) :: [(w.heap.size, [.int .i64 a0, .int .i64 a1]), (w.heap.size + 1, [.int .i64 b0, .int .i64 b1]), (w.heap.size + 2, [.int .i64 c0, .int .i64 c1]), (w.heap.size + 3, [.int .i64 d0, .int .i64 d1])]) w')
       (first | exact C2.drew.two | exact Has.two (by assumption))
       (first | (go_at_call 84; refine (Has.call (by first | assumption | exact And.right (by assumption)) (earlier_is _ _ _ _ _ _ HM.out _)).mono ?_; rintro e w' ⟨rfl, hC⟩))
      go_wp2_with fail
      go_ret
      exact ⟨ret_i HV.out, Has.low (by assumption)⟩
     ·have HV := Lib.hid (show 0 = ovl2 (l0, l1) (l0, h1) by unfold ovl2; rw [if_neg (by intro e; injection e with _ e; exact e2 e), if_neg (by rw [lexlt_iff]; omega)])
      have HM := Lib.hid (show lexmin l0 l1 l0 h1 = (l0, h1) from (lex_ge (lexlt_no.2 (by omega))).1)
      have e5 : (h1 == l1) = false := by rw [beq_eq_false_iff_ne]; exact fun e => e2 e.symm
      clear e2
      go_wp2_with fail
      go_region_held3 (fun w' => (w'.cell? ⟨c, 0, none⟩ = some (.int .i64 l0) ∧ w'.cell? ⟨c, 1, none⟩ = some (.int .i64 h1) ∧ w'.cell? ⟨b, 0, none⟩ = some (.int .i64 l0) ∧ w'.cell? ⟨b, 1, none⟩ = some (.int .i64 l1)) ∧ Has w ((c, [.int .i64 l0, .int .i64 h1]) :: (b, [.int .i64 l0, .int .i64 l1]) :: [(w.heap.size, [.int .i64 a0, .int .i64 a1]), (w.heap.size + 1, [.int .i64 b0, .int .i64 b1]), (w.heap.size + 2, [.int .i64 c0, .int .i64 c1]), (w.heap.size + 3, [.int .i64 d0, .int .i64 d1])]) w')
       (first | exact C2.drew.two | exact Has.two (by assumption))
       (first | (go_at_call 84; refine (Has.call (by first | assumption | exact And.right (by assumption)) (earlier_is _ _ _ _ _ _ HM.out _)).mono ?_; rintro e w' ⟨rfl, hC⟩))
      go_wp2_with fail
      go_ret
      exact ⟨ret_i HV.out, Has.low (by assumption)⟩
   ·have e3 : (l0 == h0) = false := by rw [beq_eq_false_iff_ne]; exact e1
    by_cases e4 : l0 < h0
    ·have HV := Lib.hid (show 2 = ovl2 (l0, l1) (h0, h1) by unfold ovl2; rw [if_neg (by intro e; injection e with e _; exact e1 e), if_pos (lexlt_iff.2 (Or.inl e4))])
     have HM := Lib.hid (show lexmin l0 l1 h0 h1 = (l0, l1) from (lex_lt (lexlt_iff.2 (Or.inl e4))).1)
     clear e1
     go_wp2_with fail
     go_region_held3 (fun w' => (w'.cell? ⟨c, 0, none⟩ = some (.int .i64 h0) ∧ w'.cell? ⟨c, 1, none⟩ = some (.int .i64 h1) ∧ w'.cell? ⟨b, 0, none⟩ = some (.int .i64 l0) ∧ w'.cell? ⟨b, 1, none⟩ = some (.int .i64 l1)) ∧ Has w ((c, [.int .i64 h0, .int .i64 h1]) :: (b, [.int .i64 l0, .int .i64 l1]) :: [(w.heap.size, [.int .i64 a0, .int .i64 a1]), (w.heap.size + 1, [.int .i64 b0, .int .i64 b1]), (w.heap.size + 2, [.int .i64 c0, .int .i64 c1]), (w.heap.size + 3, [.int .i64 d0, .int .i64 d1])]) w')
      (first | exact C2.drew.two | exact Has.two (by assumption))
      (first | (go_at_call 84; refine (Has.call (by first | assumption | exact And.right (by assumption)) (earlier_is _ _ _ _ _ _ HM.out _)).mono ?_; rintro e w' ⟨rfl, hC⟩))
     go_wp2_with fail
     go_ret
     exact ⟨ret_i HV.out, Has.low (by assumption)⟩
    ·have HV := Lib.hid (show 0 = ovl2 (l0, l1) (h0, h1) by unfold ovl2; rw [if_neg (by intro e; injection e with e _; exact e1 e), if_neg (by rw [lexlt_iff]; omega)])
     have HM := Lib.hid (show lexmin l0 l1 h0 h1 = (h0, h1) from (lex_ge (lexlt_no.2 (by omega))).1)
     have e5 : (h0 == l0) = false := by rw [beq_eq_false_iff_ne]; exact fun e => e1 e.symm
     clear e1
     go_wp2_with fail
     go_region_held3 (fun w' => (w'.cell? ⟨c, 0, none⟩ = some (.int .i64 h0) ∧ w'.cell? ⟨c, 1, none⟩ = some (.int .i64 h1) ∧ w'.cell? ⟨b, 0, none⟩ = some (.int .i64 l0) ∧ w'.cell? ⟨b, 1, none⟩ = some (.int .i64 l1)) ∧ Has w ((c, [.int .i64 h0, .int .i64 h1]) :: (b, [.int .i64 l0, .int .i64 l1]) :: [(w.heap.size, [.int .i64 a0, .int .i64 a1]), (w.heap.size + 1, [.int .i64 b0, .int .i64 b1]), (w.heap.size + 2, [.int .i64 c0, .int .i64 c1]), (w.heap.size + 3, [.int .i64 d0, .int .i64 d1])]) w')
      (first | exact C2.drew.two | exact Has.two (by assumption))
      (first | (go_at_call 84; refine (Has.call (by first | assumption | exact And.right (by assumption)) (earlier_is _ _ _ _ _ _ HM.out _)).mono ?_; rintro e w' ⟨rfl, hC⟩))
     go_wp2_with fail
     go_ret
     exact ⟨ret_i HV.out, Has.low (by assumption)⟩

end Go.Proofs.YtoaldbjcpfkcjaaGreat

namespace Go.Proofs.YtoaldbjcpfkcjaaGreat
open Go.RowKit Go.Lib

set_option maxHeartbeats 400000 in
theorem rbounded_any (x y : Int) (w : World) :
  Calls Tryz.prog 75 #[.agg #[.int .i64 x, .int .i64 y]] w fun e w' => e = .returned (.bool (inl 1152921504606846976 x y)) ∧ Below w.heap.size w w' := by
 cases hx : btw (-1152921504606846976) x 1152921504606846976
 ·have H := Lib.hid (inl_no1 (y := y) hx)
  have HX := Lib.hid hx
  clear hx
  go_enter Tryz.func75, Tryz.ntmps75
  go_wp2_with fail
  refine (between_is _ _ _ _ HX.out _).mono ?_
  rintro e w1 ⟨rfl, rfl⟩
  go_wp2
  go_ret
  exact ⟨ret_b H.out.symm, by go_grown⟩
 ·obtain ⟨r, hr⟩ : ∃ r, btw (-1152921504606846976) y 1152921504606846976 = r := ⟨_, rfl⟩
  have H := Lib.hid (inl_is hx hr)
  have HX := Lib.hid hx
  have HR := Lib.hid hr
  clear hx hr
  go_enter Tryz.func75, Tryz.ntmps75
  go_wp2_with fail
  refine (between_is _ _ _ _ HX.out _).mono ?_
  rintro e w1 ⟨rfl, rfl⟩
  go_wp2_with fail
  refine (between_is _ _ _ _ HR.out _).mono ?_
  rintro e w1 ⟨rfl, rfl⟩
  go_wp2
  go_ret
  exact ⟨ret_b H.out.symm, by go_grown⟩

set_option maxHeartbeats 400000 in
theorem right_any (x y : Int) (w : World) :
  Calls Tryz.prog 118 #[.agg #[.int .i64 x, .int .i64 y]] w fun e w' => e = .returned (.bool (inl 16384 x y)) ∧ Below w.heap.size w w' := by
 cases hx : btw (-16384) x 16384
 ·have H := Lib.hid (inl_no1 (y := y) hx)
  have HX := Lib.hid hx
  clear hx
  go_enter Tryz.func118, Tryz.ntmps118
  go_wp2_with fail
  refine (within_is _ _ _ HX.out _ (by omega)).mono ?_
  rintro e w1 ⟨rfl, rfl⟩
  go_wp2
  go_ret
  exact ⟨ret_b H.out.symm, by go_grown⟩
 ·obtain ⟨r, hr⟩ : ∃ r, btw (-16384) y 16384 = r := ⟨_, rfl⟩
  have H := Lib.hid (inl_is hx hr)
  have HX := Lib.hid hx
  have HR := Lib.hid hr
  clear hx hr
  go_enter Tryz.func118, Tryz.ntmps118
  go_wp2_with fail
  refine (within_is _ _ _ HX.out _ (by omega)).mono ?_
  rintro e w1 ⟨rfl, rfl⟩
  go_wp2_with fail
  refine (within_is _ _ _ HR.out _ (by omega)).mono ?_
  rintro e w1 ⟨rfl, rfl⟩
  go_wp2
  go_ret
  exact ⟨ret_b H.out.symm, by go_grown⟩

set_option maxHeartbeats 400000 in
theorem rright_any (x y : Int) (w : World) :
  Calls Tryz.prog 92 #[.agg #[.int .i64 x, .int .i64 y]] w fun e w' => e = .returned (.bool (inl 16384 x y)) ∧ Below w.heap.size w w' := by
 cases hx : btw (-16384) x 16384
 ·have H := Lib.hid (inl_no1 (y := y) hx)
  have HX := Lib.hid hx
  clear hx
  go_enter Tryz.func92, Tryz.ntmps92
  go_wp2_with fail
  refine (between_is _ _ _ _ HX.out _).mono ?_
  rintro e w1 ⟨rfl, rfl⟩
  go_wp2
  go_ret
  exact ⟨ret_b H.out.symm, by go_grown⟩
 ·obtain ⟨r, hr⟩ : ∃ r, btw (-16384) y 16384 = r := ⟨_, rfl⟩
  have H := Lib.hid (inl_is hx hr)
  have HX := Lib.hid hx
  have HR := Lib.hid hr
  clear hx hr
  go_enter Tryz.func92, Tryz.ntmps92
  go_wp2_with fail
  refine (between_is _ _ _ _ HX.out _).mono ?_
  rintro e w1 ⟨rfl, rfl⟩
  go_wp2_with fail
  refine (between_is _ _ _ _ HR.out _).mono ?_
  rintro e w1 ⟨rfl, rfl⟩
  go_wp2
  go_ret
  exact ⟨ret_b H.out.symm, by go_grown⟩

set_option maxHeartbeats 400000 in
theorem sub_any (a b c d : Int) (w : World) :
  Calls Tryz.prog 82 #[.agg #[.int .i64 a, .int .i64 b], .agg #[.int .i64 c, .int .i64 d]] w fun e w' => e = .returned (.agg #[.int .i64 (wrap64 (a - c)), .int .i64 (wrap64 (b - d))]) ∧ Below w.heap.size w w' := by
 go_enter Tryz.func82, Tryz.ntmps82
 go_wp2
 go_returns
 exact ⟨rfl, by go_grown⟩

set_option maxHeartbeats 400000 in
theorem rsub_any (a b c d : Int) (w : World) :
  Calls Tryz.prog 115 #[.agg #[.int .i64 a, .int .i64 b], .agg #[.int .i64 c, .int .i64 d]] w fun e w' => e = .returned (.agg #[.int .i64 (wrap64 (a - c)), .int .i64 (wrap64 (b - d))]) ∧ Below w.heap.size w w' := by
 go_enter Tryz.func115, Tryz.ntmps115
 go_wp2
 go_returns
 exact ⟨rfl, by go_grown⟩

/-- Whether two rectangles are near. -/
def nearOf (a0 a1 a2 a3 b0 b1 b2 b3 : Int) : Bool := decide (a0 ≤ b2 ∧ b0 ≤ a2 ∧ a1 ≤ b3 ∧ b1 ≤ a3)
theorem near_yes {a0 a1 a2 a3 b0 b1 b2 b3 : Int} (h1 : a0 ≤ b2) (h2 : b0 ≤ a2) (h3 : a1 ≤ b3) (h4 : b1 ≤ a3) : nearOf a0 a1 a2 a3 b0 b1 b2 b3 = true := by unfold nearOf; simp [h1, h2, h3, h4]
theorem near_no {a0 a1 a2 a3 b0 b1 b2 b3 : Int} (h : ¬ (a0 ≤ b2 ∧ b0 ≤ a2 ∧ a1 ≤ b3 ∧ b1 ≤ a3)) : nearOf a0 a1 a2 a3 b0 b1 b2 b3 = false := by unfold nearOf; simp only [h, decide_false]

set_option maxHeartbeats 400000 in
theorem near_any (a0 a1 a2 a3 b0 b1 b2 b3 : Int) (w : World) :
  Calls Tryz.prog 47 #[.agg #[.int .i64 a0, .int .i64 a1, .int .i64 a2, .int .i64 a3], .agg #[.int .i64 b0, .int .i64 b1, .int .i64 b2, .int .i64 b3]] w fun e w' => e = .returned (.bool (nearOf a0 a1 a2 a3 b0 b1 b2 b3)) ∧ Below w.heap.size w w' := by
 by_cases h1 : a0 ≤ b2
 ·skip
  by_cases h2 : b0 ≤ a2
  ·skip
   by_cases h3 : a1 ≤ b3
   ·skip
    by_cases h4 : b1 ≤ a3
    ·skip
     go_enter Tryz.func47, Tryz.ntmps47
     go_wp2
     go_ret
     exact ⟨ret_b (near_yes h1 h2 h3 h4).symm, by go_grown⟩
    ·have d4 : decide (b1 ≤ a3) = false := by simp; omega
     go_enter Tryz.func47, Tryz.ntmps47
     go_wp2
     go_ret
     exact ⟨ret_b (near_no (by omega)).symm, by go_grown⟩
   ·have d3 : decide (a1 ≤ b3) = false := by simp; omega
    go_enter Tryz.func47, Tryz.ntmps47
    go_wp2
    go_ret
    exact ⟨ret_b (near_no (by omega)).symm, by go_grown⟩
  ·have d2 : decide (b0 ≤ a2) = false := by simp; omega
   go_enter Tryz.func47, Tryz.ntmps47
   go_wp2
   go_ret
   exact ⟨ret_b (near_no (by omega)).symm, by go_grown⟩
 ·have d1 : decide (a0 ≤ b2) = false := by simp; omega
  go_enter Tryz.func47, Tryz.ntmps47
  go_wp2
  go_ret
  exact ⟨ret_b (near_no (by omega)).symm, by go_grown⟩

end Go.Proofs.YtoaldbjcpfkcjaaGreat

namespace Go.Proofs.YtoaldbjcpfkcjaaGreat
open Go.RowKit Go.Lib

section
variable {w0 w : World} {bs : List (Nat × List Value)}
end

theorem Has.lt0 {w0 w : World} {bs : List (Nat × List Value)} {A : Nat} {l : List Value} (h : Has w0 ((A, l) :: bs) w) : A < w.heap.size := h.lt (A, l) (.head _)

def Bd (m x y : Int) : Prop := -m ≤ x ∧ x ≤ m ∧ -m ≤ y ∧ y ≤ m
theorem inl_bd {m x y : Int} (h : inl m x y = true) : Bd m x y := inl_iff.1 h

/-- On which side of the line from a to b the point p lies. -/
def crs (a0 a1 b0 b1 p0 p1 : Int) : Int := (b0 - a0) * (p1 - a1) - (b1 - a1) * (p0 - a0)
def sideOf (a0 a1 b0 b1 p0 p1 : Int) : Int := if inl 1152921504606846976 a0 a1 = true ∧ inl 1152921504606846976 b0 b1 = true ∧ inl 1152921504606846976 p0 p1 = true then (crs a0 a1 b0 b1 p0 p1).sign else 0
theorem sideOf_no0 (a0 a1 b0 b1 p0 p1 : Int) (h : inl 1152921504606846976 a0 a1 = false) : 0 = sideOf a0 a1 b0 b1 p0 p1 := by unfold sideOf; rw [if_neg (by rw [h]; simp)]
theorem sideOf_no1 (a0 a1 b0 b1 p0 p1 : Int) (h : inl 1152921504606846976 b0 b1 = false) : 0 = sideOf a0 a1 b0 b1 p0 p1 := by unfold sideOf; rw [if_neg (by rw [h]; simp)]
theorem sideOf_no2 (a0 a1 b0 b1 p0 p1 : Int) (h : inl 1152921504606846976 p0 p1 = false) : 0 = sideOf a0 a1 b0 b1 p0 p1 := by unfold sideOf; rw [if_neg (by rw [h]; simp)]
theorem sideOf_yes (a0 a1 b0 b1 p0 p1 : Int) (h : inl 1152921504606846976 a0 a1 = true) (k : inl 1152921504606846976 b0 b1 = true) (l : inl 1152921504606846976 p0 p1 = true) : ((b0 - a0) * (p1 - a1) - (b1 - a1) * (p0 - a0)).sign = sideOf a0 a1 b0 b1 p0 p1 := by
 unfold sideOf crs; rw [if_pos ⟨h, k, l⟩]
def I64 (x : Int) : Prop := -9223372036854775808 ≤ x ∧ x ≤ 9223372036854775807
theorem inl_all {a0 a1 b0 b1 p0 p1 : Int} (h : inl 1152921504606846976 a0 a1 = true) (k : inl 1152921504606846976 b0 b1 = true) (l : inl 1152921504606846976 p0 p1 = true) :
  Bd 1152921504606846976 b0 b1 ∧ Bd 1152921504606846976 a0 a1 ∧ Bd 1152921504606846976 p0 p1 ∧ I64 (b0 - a0) ∧ I64 (p1 - a1) ∧ I64 (b1 - a1) ∧ I64 (p0 - a0) := by
 have h := inl_bd h
 have k := inl_bd k
 have l := inl_bd l
 refine ⟨k, h, l, ?_, ?_, ?_, ?_⟩ <;> unfold Bd at h k l <;> unfold I64 <;> omega

theorem bounded_is (x y : Int) (r : Bool) (h : inl 1152921504606846976 x y = r) (w : World) :
  Calls Tryz.prog 50 #[.agg #[.int .i64 x, .int .i64 y]] w fun e w' => e = .returned (.bool r) ∧ Below w.heap.size w w' := h ▸ bounded_any x y w
theorem rbounded_is (x y : Int) (r : Bool) (h : inl 1152921504606846976 x y = r) (w : World) :
  Calls Tryz.prog 75 #[.agg #[.int .i64 x, .int .i64 y]] w fun e w' => e = .returned (.bool r) ∧ Below w.heap.size w w' := h ▸ rbounded_any x y w
theorem sub_bd (b0 b1 a0 a1 : Int) (w : World) (hb : Bd 1152921504606846976 b0 b1) (ha : Bd 1152921504606846976 a0 a1) :
  Calls Tryz.prog 82 #[.agg #[.int .i64 b0, .int .i64 b1], .agg #[.int .i64 a0, .int .i64 a1]] w fun e w' => e = .returned (.agg #[.int .i64 (b0 - a0), .int .i64 (b1 - a1)]) ∧ Below w.heap.size w w' := by
 have h := sub_any b0 b1 a0 a1 w
 unfold Bd at ha hb
 rw [IntWalk.wrap64_in _ ⟨by omega, by omega⟩, IntWalk.wrap64_in _ ⟨by omega, by omega⟩] at h
 exact h
theorem rsub_bd (b0 b1 a0 a1 : Int) (w : World) (hb : Bd 1152921504606846976 b0 b1) (ha : Bd 1152921504606846976 a0 a1) :
  Calls Tryz.prog 115 #[.agg #[.int .i64 b0, .int .i64 b1], .agg #[.int .i64 a0, .int .i64 a1]] w fun e w' => e = .returned (.agg #[.int .i64 (b0 - a0), .int .i64 (b1 - a1)]) ∧ Below w.heap.size w w' := by
 have h := rsub_any b0 b1 a0 a1 w
 unfold Bd at ha hb
 rw [IntWalk.wrap64_in _ ⟨by omega, by omega⟩, IntWalk.wrap64_in _ ⟨by omega, by omega⟩] at h
 exact h

end Go.Proofs.YtoaldbjcpfkcjaaGreat

namespace Go.Proofs.YtoaldbjcpfkcjaaGreat

section
variable {P : Program} {md : Region.Mode} {ops : Array Oper} {Q : Exit → Act → World → Prop} {S T : World → Prop}

/-- A region's condition may be made stronger in its midst. -/
theorem wpAnyH_more (hT : ∀ w, T w → S w) :
  ∀ (fuel : Nat) (listed : Array Bool) (a : Act) (w : World), wpAnyH P md ops Q T fuel listed a w → wpAnyH P md ops Q S fuel listed a w
 | 0, _, _, _, h => h
 | fuel + 1, _, _, _, h => ⟨h.1, fun i hi => wpOp_mono (fun a' w' h' => ⟨hT _ h'.1, wpAnyH_more hT fuel _ a' w' h'.2⟩) (h.2 i hi)⟩

/-- What has come up, written anew. -/
theorem wpAnyH_listed {fuel : Nat} {listed : Array Bool} {a : Act} {w : World} (listed' : Array Bool) (h : listed = listed') (k : wpAnyH P md ops Q S fuel listed' a w) : wpAnyH P md ops Q S fuel listed a w := by
 rw [h]; exact k

/-- These may be taken first, one behind the other. -/
def takesOk (md : Region.Mode) (ops : Array Oper) : Array Bool → List Nat → Bool
 | _, [] => true
 | listed, i :: is => Region.free md ops listed i && ((Region.ready md ops listed).contains i && takesOk md ops (listed.setIfInBounds i true) is)

/-- The walk while they are taken. -/
def wpAnyT (P : Program) (md : Region.Mode) (ops : Array Oper) (Q : Exit → Act → World → Prop) (S : World → Prop) (is : List Nat) (fuel : Nat) (listed : Array Bool) (a : Act) (w : World) : Prop :=
 takesOk md ops listed is = true → Region.noSelect ops = true → wpAnyH P md ops Q S fuel listed a w

theorem wpAnyT_begin {fuel : Nat} {listed : Array Bool} {a : Act} {w : World} (is : List Nat) (ht : takesOk md ops listed is = true) (hn : Region.noSelect ops = true) (h : wpAnyT P md ops Q S is fuel listed a w) : wpAnyH P md ops Q S fuel listed a w := h ht hn
theorem wpAnyT_end {fuel : Nat} {listed : Array Bool} {a : Act} {w : World} (h : wpAnyH P md ops Q S fuel listed a w) : wpAnyT P md ops Q S [] fuel listed a w := fun _ _ => h
theorem wpAnyT_take {i : Nat} {is : List Nat} {oi : Oper} {v : Value} {fuel : Nat} {listed : Array Bool} {a : Act} {w : World} (hi : ops[i]? = some oi)
  (hQ : ∀ c a w, Q (.panic c) (a.put oi.dst v) w → Q (.panic c) a w) (hw : Region.wanted oi (yielded ops a.tmps) = true) (hS : S w) (hy : ∀ w, S w → (execOp a.eval oi).run P w = .ok (.value v) w)
  (h : wpAnyT P md ops Q S is fuel (listed.setIfInBounds i true) (a.put oi.dst v) w) : wpAnyT P md ops Q S (i :: is) (fuel + 1) listed a w := by
 intro ht hn
 simp only [takesOk, Bool.and_eq_true] at ht
 exact wpAnyH_take hi hn ht.1 ht.2.1 hQ (Or.inl ⟨hw, hy⟩) hS (h ht.2.2 hn)
theorem wpAnyT_skip {i : Nat} {is : List Nat} {oi : Oper} {fuel : Nat} {listed : Array Bool} {a : Act} {w : World} (hi : ops[i]? = some oi)
  (hQ : ∀ c a w, Q (.panic c) (a.put oi.dst undef) w → Q (.panic c) a w) (hw : Region.wanted oi (yielded ops a.tmps) = false) (hS : S w)
  (h : wpAnyT P md ops Q S is fuel (listed.setIfInBounds i true) (a.put oi.dst undef) w) : wpAnyT P md ops Q S (i :: is) (fuel + 1) listed a w := by
 intro ht hn
 simp only [takesOk, Bool.and_eq_true] at ht
 exact wpAnyH_take hi hn ht.1 ht.2.1 hQ (Or.inr ⟨hw, rfl⟩) hS (h ht.2.2 hn)
theorem tkA {i : Nat} {is : List Nat} {oi : Oper} {fuel : Nat} {listed : Array Bool} {a : Act} {w : World} (v : Value) (h : wpAnyT P md ops Q S is fuel (listed.setIfInBounds i true) (a.put oi.dst v) w) (hi : ops[i]? = some oi := by exact rfl)
  (hQ : ∀ c a w, Q (.panic c) (a.put oi.dst v) w → Q (.panic c) a w := by exact fun _ _ _ h => h) (hw : Region.wanted oi (yielded ops a.tmps) = true := by rfl) (hS : S w := by assumption) (hy : ∀ w, S w → (execOp a.eval oi).run P w = .ok (.value v) w := by intro wS hSw; (try dsimp only at hSw); go_simp) : wpAnyT P md ops Q S (i :: is) (fuel + 1) listed a w :=
 wpAnyT_take hi hQ hw hS hy h
theorem tbA {fuel : Nat} {listed : Array Bool} {a : Act} {w : World} (is : List Nat) (h : wpAnyT P md ops Q S is fuel listed a w) (ht : takesOk md ops listed is = true := by kernel_rfl) (hn : Region.noSelect ops = true := by kernel_rfl) : wpAnyH P md ops Q S fuel listed a w := h ht hn
theorem trA {fuel : Nat} {listed : Array Bool} {a : Act} {w : World} (rs : List Nat) (h : AllReadyH P md ops Q S fuel listed a w rs) (hr : Region.ready md ops listed = rs := by kernel_rfl) (hne : rs ≠ [] := by simp) : wpAnyH P md ops Q S (fuel + 1) listed a w := wpAnyH_ready hr hne h
theorem teA {fuel : Nat} {listed : Array Bool} {a : Act} {w : World} (h : wpAnyH P md ops Q S fuel listed a w) : wpAnyT P md ops Q S [] fuel listed a w := wpAnyT_end h
theorem tlA {fuel : Nat} {listed : Array Bool} {a : Act} {w : World} (l : Array Bool) (k : wpAnyH P md ops Q S fuel l a w) (h : listed = l := by kernel_rfl) : wpAnyH P md ops Q S fuel listed a w := wpAnyH_listed l h k
end

end Go.Proofs.YtoaldbjcpfkcjaaGreat

namespace Go.Proofs.YtoaldbjcpfkcjaaGreat
open Go.RowKit Go.Lib

theorem overlap_is (a0 a1 b0 b1 c0 c1 d0 d1 s : Int) (h : ovl a0 a1 b0 b1 c0 c1 d0 d1 = s) (w : World) :
  Calls Tryz.prog 52 #[.agg #[.int .i64 a0, .int .i64 a1], .agg #[.int .i64 b0, .int .i64 b1], .agg #[.int .i64 c0, .int .i64 c1], .agg #[.int .i64 d0, .int .i64 d1]] w fun e w' => e = .returned (.int .i64 s) ∧ Below w.heap.size w w' := h ▸ overlap_any a0 a1 b0 b1 c0 c1 d0 d1 w

/-- Whether p is a point of the segment, as point.On says it, and as the reference does. -/
def onOf (a0 a1 b0 b1 p0 p1 : Int) : Bool := inl 1152921504606846976 a0 a1 && (inl 1152921504606846976 b0 b1 && (inl 1152921504606846976 p0 p1 && (decide (sideOf a0 a1 b0 b1 p0 p1 = 0) && decide (ovl a0 a1 b0 b1 p0 p1 p0 p1 = 1))))
def ronOf (a0 a1 b0 b1 p0 p1 : Int) : Bool := inl 1152921504606846976 a0 a1 && (inl 1152921504606846976 b0 b1 && (inl 1152921504606846976 p0 p1 && (btw (min a0 b0) p0 (max a0 b0) && (btw (min a1 b1) p1 (max a1 b1) && decide (sideOf a0 a1 b0 b1 p0 p1 = 0)))))


end Go.Proofs.YtoaldbjcpfkcjaaGreat

namespace Go.Proofs.YtoaldbjcpfkcjaaGreat
open Go.RowKit Go.Lib

/-- How many points two segments have in common, by the sides of their ends. -/
def meetS (sA sB sC sD o : Int) : Int := if sA = 0 ∧ sB = 0 ∧ sC = 0 ∧ sD = 0 then o else if sA * sB ≤ 0 ∧ sC * sD ≤ 0 then 1 else 0
def meetOf (a0 a1 b0 b1 c0 c1 d0 d1 : Int) : Int :=
 if inl 1152921504606846976 a0 a1 = true ∧ inl 1152921504606846976 b0 b1 = true ∧ inl 1152921504606846976 c0 c1 = true ∧ inl 1152921504606846976 d0 d1 = true then
  meetS (sideOf c0 c1 d0 d1 a0 a1) (sideOf c0 c1 d0 d1 b0 b1) (sideOf a0 a1 b0 b1 c0 c1) (sideOf a0 a1 b0 b1 d0 d1) (ovl a0 a1 b0 b1 c0 c1 d0 d1) else 0
section
variable {a0 a1 b0 b1 c0 c1 d0 d1 : Int}
theorem meet_no0 (h : inl 1152921504606846976 a0 a1 = false) : 0 = meetOf a0 a1 b0 b1 c0 c1 d0 d1 := by unfold meetOf; rw [if_neg (by rw [h]; simp)]
theorem meet_no1 (h : inl 1152921504606846976 b0 b1 = false) : 0 = meetOf a0 a1 b0 b1 c0 c1 d0 d1 := by unfold meetOf; rw [if_neg (by rw [h]; simp)]
theorem meet_no2 (h : inl 1152921504606846976 c0 c1 = false) : 0 = meetOf a0 a1 b0 b1 c0 c1 d0 d1 := by unfold meetOf; rw [if_neg (by rw [h]; simp)]
theorem meet_no3 (h : inl 1152921504606846976 d0 d1 = false) : 0 = meetOf a0 a1 b0 b1 c0 c1 d0 d1 := by unfold meetOf; rw [if_neg (by rw [h]; simp)]
theorem meet_yes (h : inl 1152921504606846976 a0 a1 = true) (k : inl 1152921504606846976 b0 b1 = true) (l : inl 1152921504606846976 c0 c1 = true) (m : inl 1152921504606846976 d0 d1 = true) {sA sB sC sD o : Int} (eA : sideOf c0 c1 d0 d1 a0 a1 = sA) (eB : sideOf c0 c1 d0 d1 b0 b1 = sB) (eC : sideOf a0 a1 b0 b1 c0 c1 = sC) (eD : sideOf a0 a1 b0 b1 d0 d1 = sD) (eo : ovl a0 a1 b0 b1 c0 c1 d0 d1 = o) : meetOf a0 a1 b0 b1 c0 c1 d0 d1 = meetS sA sB sC sD o := by
 unfold meetOf; rw [if_pos ⟨h, k, l, m⟩, eA, eB, eC, eD, eo]
end
theorem sideOf_bd (a0 a1 b0 b1 p0 p1 : Int) : -1 ≤ sideOf a0 a1 b0 b1 p0 p1 ∧ sideOf a0 a1 b0 b1 p0 p1 ≤ 1 := by
 unfold sideOf
 split
 ·exact sign_bd _
 ·omega
theorem sideOf_same (a0 a1 p0 p1 : Int) : sideOf a0 a1 a0 a1 p0 p1 = 0 := by
 unfold sideOf crs
 split
 ·rw [Int.sub_self, Int.sub_self, Int.zero_mul, Int.zero_mul]; rfl
 ·rfl
theorem prod_bd {s t : Int} (hs : -1 ≤ s ∧ s ≤ 1) (ht : -1 ≤ t ∧ t ≤ 1) : -1 ≤ s * t ∧ s * t ≤ 1 := by
 have h1 : s = -1 ∨ s = 0 ∨ s = 1 := by omega
 have h2 : t = -1 ∨ t = 0 ∨ t = 1 := by omega
 rcases h1 with rfl | rfl | rfl <;> rcases h2 with rfl | rfl | rfl <;> decide
theorem self_pos {s : Int} (hs : -1 ≤ s ∧ s ≤ 1) (h : s ≠ 0) : s * s = 1 := by
 have h1 : s = -1 ∨ s = 0 ∨ s = 1 := by omega
 rcases h1 with rfl | rfl | rfl
 ·rfl
 ·exact absurd rfl h
 ·rfl
theorem ord_t {a b c d : Int} (h : lexlt c d a b = true) : lexmin a b c d = (c, d) ∧ lexmax a b c d = (a, b) := lex_ge (lexlt_no.2 (by rw [lexlt_iff] at h; omega))
theorem ord_f {a b c d : Int} (h : lexlt c d a b = false) : lexmin a b c d = (a, b) ∧ lexmax a b c d = (c, d) := by
 cases k : lexlt a b c d
 ·rw [lexlt_no] at h k
  obtain rfl : a = c := by omega
  obtain rfl : b = d := by omega
  exact ⟨(lex_ge (lexlt_no.2 (by omega))).1, (lex_ge (lexlt_no.2 (by omega))).2⟩
 ·exact lex_lt k
theorem lexmin_comm (a b c d : Int) : lexmin a b c d = lexmin c d a b := by
 cases h : lexlt c d a b
 ·rw [(ord_f h).1, (lex_ge h).1]
 ·rw [(ord_t h).1, (lex_lt h).1]

end Go.Proofs.YtoaldbjcpfkcjaaGreat
