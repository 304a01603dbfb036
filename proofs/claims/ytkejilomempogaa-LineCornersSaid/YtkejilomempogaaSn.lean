/- The examples at the head of every law, as numbers. The examples at the head of every law. -/
import Derived.Test.YtkejilomempogaaMv
import Derived.Test.YtkejilomempogaaTo
import Derived.Test.YtkejilomempogaaCr
import Derived.Test.YtkejilomempogaaRCh
import Derived.Test.YtkejilomempogaaRCr
namespace Go.Proofs.Ytkejilomempogaa
open Go.RowKit Go.Lib
def l1 : List (Int × Int) := [(0, 0), (10, 0), (10, 10)]
def l2 : List (Int × Int) := [(0, 0), (10, 0), (10, 10), (0, 0)]
theorem sc1 : chkP l1 (simpleP l1) = 0 := by decide +kernel
theorem sc2 : chkP l2 (simpleP l2) = 0 := by decide +kernel
theorem sc3 : chkP [(0, 0), (10, 0), (10, 10), (5, 0)] (simpleP [(0, 0), (10, 0), (10, 10), (5, 0)]) = 11 := by decide +kernel
theorem sc4 : chkP [(0, 0), (10, 0), (5, 0)] (simpleP [(0, 0), (10, 0), (5, 0)]) = 11 := by decide +kernel
theorem sc5 : chkP [(0, 0), (0, 0)] (simpleP [(0, 0), (0, 0)]) = 11 := by decide +kernel
theorem sc6 : chkP [(0, 0)] (simpleP [(0, 0)]) = 2 := by decide +kernel
theorem sl1 : lengthP [(0, 0), (3, 4), (4, 5)] = 6 := by decide +kernel
theorem sw1 : withinP [(0, 0), (10, 0)] (5, 3) 36 = true := by decide +kernel
theorem sw2 : withinP [(0, 0), (10, 0)] (5, 3) 35 = false := by decide +kernel
theorem sd1 : closedP l2 = true := by decide +kernel
theorem sd2 : closedP l1 = false := by decide +kernel
theorem si1 : inP (0, 0) (10, 0) (0, 10) (5, 5) = true := by decide +kernel
theorem si2 : inP (0, 0) (10, 0) (0, 10) (6, 5) = false := by decide +kernel
theorem st1 : touchP (0, 0) (5, 5) (10, 0) (0, 0) (-5, 0) = false := by decide +kernel
theorem st2 : touchP (0, 0) (5, 5) (10, 0) (0, 0) (10, 0) = true := by decide +kernel
theorem st3 : touchP (0, 0) (5, 5) (10, 0) (5, 9) (5, 5) = true := by decide +kernel
theorem sx1 : crossP [(0, 0), (10, 0)] [(10, 0), (10, 9)] = false := by decide +kernel
theorem sx2 : crossP [(0, 0), (10, 0)] [(5, 0), (5, 9)] = true := by decide +kernel
theorem sx3 : crossP [(0, 0), (10, 0)] [(0, 0), (10, 0)] = true := by decide +kernel
theorem sr1 : sameP l1.reverse [(10, 10), (10, 0), (0, 0)] = true := by decide +kernel
end Go.Proofs.Ytkejilomempogaa

namespace Go.Proofs.Ytkejilomempogaa
open Go.RowKit Go.Lib

theorem v12 (v : Value) (ps : List (Int × Int)) (w : World) (hv : RowP w v ps) (r : Int) (h : chkP ps (simpleP ps) = r) : Calls Try.prog 12 #[v] w fun e w' => e = .returned (.int .i64 r) ∧ Below w.heap.size w w' := h ▸ lcheck_any v ps w hv
theorem v16 (v : Value) (ps : List (Int × Int)) (w : World) (hv : RowP w v ps) (r : Int) (h : lengthP ps = r) : Calls Try.prog 16 #[v] w fun e w' => e = .returned (.int .i64 r) ∧ Below w.heap.size w w' := h ▸ llength_any v ps w hv
theorem v23 (v : Value) (ps : List (Int × Int)) (p0 p1 n : Int) (w : World) (hv : RowP w v ps) (hn : I64 n) (r : Bool) (h : withinP ps (p0, p1) n = r) : Calls Try.prog 23 #[v, .agg #[.int .i64 p0, .int .i64 p1], .int .i64 n] w fun e w' => e = .returned (.bool r) ∧ Below w.heap.size w w' := h ▸ lwithin_any v ps p0 p1 n w hv hn
theorem v14 (v : Value) (ps : List (Int × Int)) (w : World) (hv : RowP w v ps) (r : Bool) (h : closedP ps = r) : Calls Try.prog 14 #[v] w fun e w' => e = .returned (.bool r) ∧ Below w.heap.size w w' := h ▸ closed_any v ps w hv
theorem v29 (a0 a1 b0 b1 c0 c1 p0 p1 : Int) (w : World) (r : Bool) (h : inP (a0, a1) (b0, b1) (c0, c1) (p0, p1) = r) : Calls Try.prog 29 #[.agg #[.int .i64 a0, .int .i64 a1], .agg #[.int .i64 b0, .int .i64 b1], .agg #[.int .i64 c0, .int .i64 c1], .agg #[.int .i64 p0, .int .i64 p1]] w fun e w' => e = .returned (.bool r) ∧ Below w.heap.size w w' := h ▸ lin_any a0 a1 b0 b1 c0 c1 p0 p1 w
theorem v30 (a0 a1 b0 b1 c0 c1 d0 d1 e0 e1 : Int) (w : World) (r : Bool) (h : touchP (a0, a1) (b0, b1) (c0, c1) (d0, d1) (e0, e1) = r) : Calls Try.prog 30 #[.agg #[.int .i64 a0, .int .i64 a1], .agg #[.int .i64 b0, .int .i64 b1], .agg #[.int .i64 c0, .int .i64 c1], .agg #[.int .i64 d0, .int .i64 d1], .agg #[.int .i64 e0, .int .i64 e1]] w fun e w' => e = .returned (.bool r) ∧ Below w.heap.size w w' := h ▸ touches_any a0 a1 b0 b1 c0 c1 d0 d1 e0 e1 w
theorem v26 (u v : Value) (l m : List (Int × Int)) (w : World) (hu : RowP w u l) (hv : RowP w v m) (r : Bool) (h : crossP l m = r) : Calls Try.prog 26 #[u, v] w fun e w' => e = .returned (.bool r) ∧ Below w.heap.size w w' := h ▸ lcross_any u v l m w hu hv
theorem v21 (u v : Value) (l m : List (Int × Int)) (w : World) (hu : RowP w u l) (hv : RowP w v m) (r : Bool) (h : sameP l m = r) : Calls Try.prog 21 #[u, v] w fun e w' => e = .returned (.bool r) ∧ Below w.heap.size w w' := h ▸ lsame_any u v l m w hu hv

attribute [local go_sem] Oper.semAt_some
set_option linter.unusedSimpArgs false in
set_option linter.unusedVariables false in
set_option maxRecDepth 100000 in
set_option maxHeartbeats 16000000 in
theorem sane_any (w : World) : Calls Try.prog 9 #[] w fun e w' => e = .returned (.bool true) ∧ Below w.heap.size w w' := by
  have C0 : Has w [] w := Has.nil (Below.refl _ _)
  go_enter Try.func9, Try.ntmps9
  go_wp2_with fail
  refine (calls_two C0 (at_any 0 0 _)).mono ?_
  rintro e w1 ⟨rfl, C1, g1⟩
  clear C0
  clear g1
  go_wp2_with fail
  refine (calls_two C1 (at_any 10 0 _)).mono ?_
  rintro e w2 ⟨rfl, C2, g2⟩
  clear C1
  clear g2
  go_wp2_with fail
  refine (calls_two C2 (at_any 10 10 _)).mono ?_
  rintro e w3 ⟨rfl, C3, g3⟩
  clear C2
  clear g3
  obtain ⟨C4a, R4⟩ := one_row C3 rfl [(0, 0), (10, 0), (10, 10)] (by simp)
  have C4 := C4a.tail
  clear C4a
  have ga4 := (Below.refl w3.heap.size w3).alloc (Nat.le_refl _) (.cells (flat [(0, 0), (10, 0), (10, 10)]).toArray 36)
  clear ga4
  go_wp2_with fail
  change RowP (w3.alloc (.cells #[.int .i64 0, .int .i64 0, .int .i64 10, .int .i64 0, .int .i64 10, .int .i64 10] 36)) (.slice (some ⟨w3.heap.size, 0, none⟩) 3 3) _ at R4
  change Has w _ (w3.alloc (.cells #[.int .i64 0, .int .i64 0, .int .i64 10, .int .i64 0, .int .i64 10, .int .i64 10] 36)) at C4
  clear C3
  generalize w3.alloc (.cells #[.int .i64 0, .int .i64 0, .int .i64 10, .int .i64 0, .int .i64 10, .int .i64 10] 36) = w4 at *
  generalize w3.heap.size = B4 at *
  refine (calls_two C4 (at_any 0 0 _)).mono ?_
  rintro e w5 ⟨rfl, C5, g5⟩
  replace R4 := R4.later g5
  clear C4
  clear g5
  go_wp2_with fail
  refine (calls_two C5 (at_any 10 0 _)).mono ?_
  rintro e w6 ⟨rfl, C6, g6⟩
  replace R4 := R4.later g6
  clear C5
  clear g6
  go_wp2_with fail
  refine (calls_two C6 (at_any 10 10 _)).mono ?_
  rintro e w7 ⟨rfl, C7, g7⟩
  replace R4 := R4.later g7
  clear C6
  clear g7
  go_wp2_with fail
  refine (calls_two C7 (at_any 0 0 _)).mono ?_
  rintro e w8 ⟨rfl, C8, g8⟩
  replace R4 := R4.later g8
  clear C7
  clear g8
  obtain ⟨C9a, R9⟩ := one_row C8 rfl [(0, 0), (10, 0), (10, 10), (0, 0)] (by simp)
  have C9 := C9a.tail
  clear C9a
  have ga9 := (Below.refl w8.heap.size w8).alloc (Nat.le_refl _) (.cells (flat [(0, 0), (10, 0), (10, 10), (0, 0)]).toArray 36)
  replace R4 := R4.later ga9
  clear ga9
  go_wp2_with fail
  change RowP (w8.alloc (.cells #[.int .i64 0, .int .i64 0, .int .i64 10, .int .i64 0, .int .i64 10, .int .i64 10, .int .i64 0, .int .i64 0] 36)) _ _ at R4
  change RowP (w8.alloc (.cells #[.int .i64 0, .int .i64 0, .int .i64 10, .int .i64 0, .int .i64 10, .int .i64 10, .int .i64 0, .int .i64 0] 36)) (.slice (some ⟨w8.heap.size, 0, none⟩) 4 4) _ at R9
  change Has w _ (w8.alloc (.cells #[.int .i64 0, .int .i64 0, .int .i64 10, .int .i64 0, .int .i64 10, .int .i64 10, .int .i64 0, .int .i64 0] 36)) at C9
  clear C8
  generalize w8.alloc (.cells #[.int .i64 0, .int .i64 0, .int .i64 10, .int .i64 0, .int .i64 10, .int .i64 10, .int .i64 0, .int .i64 0] 36) = w9 at *
  generalize w8.heap.size = B9 at *
  refine (calls_two C9 (v12 _ _ _ R4 0 (by decide +kernel))).mono ?_
  rintro e w10 ⟨rfl, C10, g10⟩
  replace R4 := R4.later g10
  replace R9 := R9.later g10
  clear C9
  clear g10
  go_wp2_with fail
  refine (calls_two C10 (v12 _ _ _ R9 0 (by decide +kernel))).mono ?_
  rintro e w11 ⟨rfl, C11, g11⟩
  replace R4 := R4.later g11
  replace R9 := R9.later g11
  clear C10
  clear g11
  go_wp2_with fail
  refine (calls_two C11 (at_any 0 0 _)).mono ?_
  rintro e w12 ⟨rfl, C12, g12⟩
  replace R4 := R4.later g12
  replace R9 := R9.later g12
  clear C11
  clear g12
  go_wp2_with fail
  refine (calls_two C12 (at_any 10 0 _)).mono ?_
  rintro e w13 ⟨rfl, C13, g13⟩
  replace R4 := R4.later g13
  replace R9 := R9.later g13
  clear C12
  clear g13
  go_wp2_with fail
  refine (calls_two C13 (at_any 10 10 _)).mono ?_
  rintro e w14 ⟨rfl, C14, g14⟩
  replace R4 := R4.later g14
  replace R9 := R9.later g14
  clear C13
  clear g14
  go_wp2_with fail
  refine (calls_two C14 (at_any 5 0 _)).mono ?_
  rintro e w15 ⟨rfl, C15, g15⟩
  replace R4 := R4.later g15
  replace R9 := R9.later g15
  clear C14
  clear g15
  obtain ⟨C16a, R16⟩ := one_row C15 rfl [(0, 0), (10, 0), (10, 10), (5, 0)] (by simp)
  have C16 := C16a.tail
  clear C16a
  have ga16 := (Below.refl w15.heap.size w15).alloc (Nat.le_refl _) (.cells (flat [(0, 0), (10, 0), (10, 10), (5, 0)]).toArray 36)
  replace R4 := R4.later ga16
  replace R9 := R9.later ga16
  clear ga16
  go_wp2_with fail
  change RowP (w15.alloc (.cells #[.int .i64 0, .int .i64 0, .int .i64 10, .int .i64 0, .int .i64 10, .int .i64 10, .int .i64 5, .int .i64 0] 36)) _ _ at R4
  change RowP (w15.alloc (.cells #[.int .i64 0, .int .i64 0, .int .i64 10, .int .i64 0, .int .i64 10, .int .i64 10, .int .i64 5, .int .i64 0] 36)) _ _ at R9
  change RowP (w15.alloc (.cells #[.int .i64 0, .int .i64 0, .int .i64 10, .int .i64 0, .int .i64 10, .int .i64 10, .int .i64 5, .int .i64 0] 36)) (.slice (some ⟨w15.heap.size, 0, none⟩) 4 4) _ at R16
  change Has w _ (w15.alloc (.cells #[.int .i64 0, .int .i64 0, .int .i64 10, .int .i64 0, .int .i64 10, .int .i64 10, .int .i64 5, .int .i64 0] 36)) at C16
  clear C15
  generalize w15.alloc (.cells #[.int .i64 0, .int .i64 0, .int .i64 10, .int .i64 0, .int .i64 10, .int .i64 10, .int .i64 5, .int .i64 0] 36) = w16 at *
  generalize w15.heap.size = B16 at *
  refine (calls_two C16 (v12 _ _ _ R16 11 (by decide +kernel))).mono ?_
  rintro e w17 ⟨rfl, C17, g17⟩
  replace R4 := R4.later g17
  replace R9 := R9.later g17
  replace R16 := R16.later g17
  clear C16
  clear g17
  go_wp2_with fail
  refine (calls_two C17 (at_any 0 0 _)).mono ?_
  rintro e w18 ⟨rfl, C18, g18⟩
  replace R4 := R4.later g18
  replace R9 := R9.later g18
  replace R16 := R16.later g18
  clear C17
  clear g18
  go_wp2_with fail
  refine (calls_two C18 (at_any 10 0 _)).mono ?_
  rintro e w19 ⟨rfl, C19, g19⟩
  replace R4 := R4.later g19
  replace R9 := R9.later g19
  replace R16 := R16.later g19
  clear C18
  clear g19
  go_wp2_with fail
  refine (calls_two C19 (at_any 5 0 _)).mono ?_
  rintro e w20 ⟨rfl, C20, g20⟩
  replace R4 := R4.later g20
  replace R9 := R9.later g20
  replace R16 := R16.later g20
  clear C19
  clear g20
  obtain ⟨C21a, R21⟩ := one_row C20 rfl [(0, 0), (10, 0), (5, 0)] (by simp)
  have C21 := C21a.tail
  clear C21a
  have ga21 := (Below.refl w20.heap.size w20).alloc (Nat.le_refl _) (.cells (flat [(0, 0), (10, 0), (5, 0)]).toArray 36)
  replace R4 := R4.later ga21
  replace R9 := R9.later ga21
  replace R16 := R16.later ga21
  clear ga21
  go_wp2_with fail
  change RowP (w20.alloc (.cells #[.int .i64 0, .int .i64 0, .int .i64 10, .int .i64 0, .int .i64 5, .int .i64 0] 36)) _ _ at R4
  change RowP (w20.alloc (.cells #[.int .i64 0, .int .i64 0, .int .i64 10, .int .i64 0, .int .i64 5, .int .i64 0] 36)) _ _ at R9
  change RowP (w20.alloc (.cells #[.int .i64 0, .int .i64 0, .int .i64 10, .int .i64 0, .int .i64 5, .int .i64 0] 36)) _ _ at R16
  change RowP (w20.alloc (.cells #[.int .i64 0, .int .i64 0, .int .i64 10, .int .i64 0, .int .i64 5, .int .i64 0] 36)) (.slice (some ⟨w20.heap.size, 0, none⟩) 3 3) _ at R21
  change Has w _ (w20.alloc (.cells #[.int .i64 0, .int .i64 0, .int .i64 10, .int .i64 0, .int .i64 5, .int .i64 0] 36)) at C21
  clear C20
  generalize w20.alloc (.cells #[.int .i64 0, .int .i64 0, .int .i64 10, .int .i64 0, .int .i64 5, .int .i64 0] 36) = w21 at *
  generalize w20.heap.size = B21 at *
  refine (calls_two C21 (v12 _ _ _ R21 11 (by decide +kernel))).mono ?_
  rintro e w22 ⟨rfl, C22, g22⟩
  replace R4 := R4.later g22
  replace R9 := R9.later g22
  replace R16 := R16.later g22
  replace R21 := R21.later g22
  clear C21
  clear g22
  go_wp2_with fail
  refine (calls_two C22 (at_any 0 0 _)).mono ?_
  rintro e w23 ⟨rfl, C23, g23⟩
  replace R4 := R4.later g23
  replace R9 := R9.later g23
  replace R16 := R16.later g23
  replace R21 := R21.later g23
  clear C22
  clear g23
  go_wp2_with fail
  refine (calls_two C23 (at_any 0 0 _)).mono ?_
  rintro e w24 ⟨rfl, C24, g24⟩
  replace R4 := R4.later g24
  replace R9 := R9.later g24
  replace R16 := R16.later g24
  replace R21 := R21.later g24
  clear C23
  clear g24
  obtain ⟨C25a, R25⟩ := one_row C24 rfl [(0, 0), (0, 0)] (by simp)
  have C25 := C25a.tail
  clear C25a
  have ga25 := (Below.refl w24.heap.size w24).alloc (Nat.le_refl _) (.cells (flat [(0, 0), (0, 0)]).toArray 36)
  replace R4 := R4.later ga25
  replace R9 := R9.later ga25
  replace R16 := R16.later ga25
  replace R21 := R21.later ga25
  clear ga25
  go_wp2_with fail
  change RowP (w24.alloc (.cells #[.int .i64 0, .int .i64 0, .int .i64 0, .int .i64 0] 36)) _ _ at R4
  change RowP (w24.alloc (.cells #[.int .i64 0, .int .i64 0, .int .i64 0, .int .i64 0] 36)) _ _ at R9
  change RowP (w24.alloc (.cells #[.int .i64 0, .int .i64 0, .int .i64 0, .int .i64 0] 36)) _ _ at R16
  change RowP (w24.alloc (.cells #[.int .i64 0, .int .i64 0, .int .i64 0, .int .i64 0] 36)) _ _ at R21
  change RowP (w24.alloc (.cells #[.int .i64 0, .int .i64 0, .int .i64 0, .int .i64 0] 36)) (.slice (some ⟨w24.heap.size, 0, none⟩) 2 2) _ at R25
  change Has w _ (w24.alloc (.cells #[.int .i64 0, .int .i64 0, .int .i64 0, .int .i64 0] 36)) at C25
  clear C24
  generalize w24.alloc (.cells #[.int .i64 0, .int .i64 0, .int .i64 0, .int .i64 0] 36) = w25 at *
  generalize w24.heap.size = B25 at *
  refine (calls_two C25 (v12 _ _ _ R25 11 (by decide +kernel))).mono ?_
  rintro e w26 ⟨rfl, C26, g26⟩
  replace R4 := R4.later g26
  replace R9 := R9.later g26
  replace R16 := R16.later g26
  replace R21 := R21.later g26
  replace R25 := R25.later g26
  clear C25
  clear g26
  have R27s := R4.take 1 (by decide)
  go_wp2_with fail
  refine (calls_two C26 (v12 _ _ _ R27s 2 (by decide +kernel))).mono ?_
  rintro e w28 ⟨rfl, C28, g28⟩
  replace R4 := R4.later g28
  replace R9 := R9.later g28
  replace R16 := R16.later g28
  replace R21 := R21.later g28
  replace R25 := R25.later g28
  replace R27s := R27s.later g28
  clear C26
  clear g28
  go_upto_region 4 with fail
  have C29 := C28.drew
  replace R4 := R4.later ((Below.refl _ w28).drew)
  replace R9 := R9.later ((Below.refl _ w28).drew)
  replace R16 := R16.later ((Below.refl _ w28).drew)
  replace R21 := R21.later ((Below.refl _ w28).drew)
  replace R25 := R25.later ((Below.refl _ w28).drew)
  replace R27s := R27s.later ((Below.refl _ w28).drew)
  refine wp_region_held_drew (S := (fun w' => Has w [] w')) (by kernel_rfl) (C29) (fun hHeld => ?_)
  clear C28
  generalize w28.drew = w29 at *
  refine wpAnyH_ready (rs := [0]) (by kernel_rfl) (by simp) ?_
  refine AllReadyH.cons (o := ⟨some 58, Op.call { callee := Callee.value (Operand.func 22), args := #[Operand.const (Value.int IntKind.i64 0), Operand.const (Value.int IntKind.i64 0)], argTypes := #[3, 3] }, 36, _, _, none⟩) rfl (fun K hK => ?_) AllReadyH.nil
  go_simp
  go_at_call 22
  refine (calls_two C29 (at_any 0 0 _)).mono ?_
  rintro e w30 ⟨rfl, C30, g30⟩
  go_wp2_with fail
  clear hHeld
  refine hK.out _ _ (C30) (fun hHeld => ?_)
  clear hK K
  try simp only [List.setIfInBounds_toArray, List.set_cons_zero, List.set_cons_succ]
  refine wpAnyH_listed #[true, false, false, false, false, false, false, false, false, false, false, false, false, false, false, false, false, false, false, false, false, false, false, false, false, false, false, false, false] (by kernel_rfl) ?_
  replace R4 := R4.later g30
  replace R9 := R9.later g30
  replace R16 := R16.later g30
  replace R21 := R21.later g30
  replace R25 := R25.later g30
  replace R27s := R27s.later g30
  clear C29
  clear g30
  refine wpAnyH_ready (rs := [1]) (by kernel_rfl) (by simp) ?_
  refine AllReadyH.cons (o := ⟨some 59, Op.call { callee := Callee.value (Operand.func 22), args := #[Operand.const (Value.int IntKind.i64 3), Operand.const (Value.int IntKind.i64 4)], argTypes := #[3, 3] }, 36, _, _, none⟩) rfl (fun K hK => ?_) AllReadyH.nil
  go_simp
  go_at_call 22
  refine (calls_two C30 (at_any 3 4 _)).mono ?_
  rintro e w31 ⟨rfl, C31, g31⟩
  go_wp2_with fail
  clear hHeld
  refine hK.out _ _ (C31) (fun hHeld => ?_)
  clear hK K
  try simp only [List.setIfInBounds_toArray, List.set_cons_zero, List.set_cons_succ]
  refine wpAnyH_listed #[true, true, false, false, false, false, false, false, false, false, false, false, false, false, false, false, false, false, false, false, false, false, false, false, false, false, false, false, false] (by kernel_rfl) ?_
  replace R4 := R4.later g31
  replace R9 := R9.later g31
  replace R16 := R16.later g31
  replace R21 := R21.later g31
  replace R25 := R25.later g31
  replace R27s := R27s.later g31
  clear C30
  clear g31
  refine wpAnyH_ready (rs := [2]) (by kernel_rfl) (by simp) ?_
  refine AllReadyH.cons (o := ⟨some 60, Op.call { callee := Callee.value (Operand.func 22), args := #[Operand.const (Value.int IntKind.i64 4), Operand.const (Value.int IntKind.i64 5)], argTypes := #[3, 3] }, 36, _, _, none⟩) rfl (fun K hK => ?_) AllReadyH.nil
  go_simp
  go_at_call 22
  refine (calls_two C31 (at_any 4 5 _)).mono ?_
  rintro e w32 ⟨rfl, C32, g32⟩
  go_wp2_with fail
  clear hHeld
  refine hK.out _ _ (C32) (fun hHeld => ?_)
  clear hK K
  try simp only [List.setIfInBounds_toArray, List.set_cons_zero, List.set_cons_succ]
  refine wpAnyH_listed #[true, true, true, false, false, false, false, false, false, false, false, false, false, false, false, false, false, false, false, false, false, false, false, false, false, false, false, false, false] (by kernel_rfl) ?_
  replace R4 := R4.later g32
  replace R9 := R9.later g32
  replace R16 := R16.later g32
  replace R21 := R21.later g32
  replace R25 := R25.later g32
  replace R27s := R27s.later g32
  clear C31
  clear g32
  refine wpAnyH_ready (rs := [3]) (by kernel_rfl) (by simp) ?_
  refine AllReadyH.cons (o := ⟨some 61, Op.buildSlice 23 3 #[(0, Operand.tmp 58), (1, Operand.tmp 59), (2, Operand.tmp 60)], 23, _, _, none⟩) rfl (fun K hK => ?_) AllReadyH.nil
  obtain ⟨C33a, R33⟩ := one_row C32 rfl [(0, 0), (3, 4), (4, 5)] (by simp)
  have C33 := C33a.tail
  clear C33a
  have ga33 := (Below.refl w32.heap.size w32).alloc (Nat.le_refl _) (.cells (flat [(0, 0), (3, 4), (4, 5)]).toArray 36)
  replace R4 := R4.later ga33
  replace R9 := R9.later ga33
  replace R16 := R16.later ga33
  replace R21 := R21.later ga33
  replace R25 := R25.later ga33
  replace R27s := R27s.later ga33
  clear ga33
  go_simp
  change RowP (w32.alloc (.cells #[.int .i64 0, .int .i64 0, .int .i64 3, .int .i64 4, .int .i64 4, .int .i64 5] 36)) _ _ at R4
  change RowP (w32.alloc (.cells #[.int .i64 0, .int .i64 0, .int .i64 3, .int .i64 4, .int .i64 4, .int .i64 5] 36)) _ _ at R9
  change RowP (w32.alloc (.cells #[.int .i64 0, .int .i64 0, .int .i64 3, .int .i64 4, .int .i64 4, .int .i64 5] 36)) _ _ at R16
  change RowP (w32.alloc (.cells #[.int .i64 0, .int .i64 0, .int .i64 3, .int .i64 4, .int .i64 4, .int .i64 5] 36)) _ _ at R21
  change RowP (w32.alloc (.cells #[.int .i64 0, .int .i64 0, .int .i64 3, .int .i64 4, .int .i64 4, .int .i64 5] 36)) _ _ at R25
  change RowP (w32.alloc (.cells #[.int .i64 0, .int .i64 0, .int .i64 3, .int .i64 4, .int .i64 4, .int .i64 5] 36)) _ _ at R27s
  change RowP (w32.alloc (.cells #[.int .i64 0, .int .i64 0, .int .i64 3, .int .i64 4, .int .i64 4, .int .i64 5] 36)) (.slice (some ⟨w32.heap.size, 0, none⟩) 3 3) _ at R33
  change Has w _ (w32.alloc (.cells #[.int .i64 0, .int .i64 0, .int .i64 3, .int .i64 4, .int .i64 4, .int .i64 5] 36)) at C33
  clear C32
  generalize w32.alloc (.cells #[.int .i64 0, .int .i64 0, .int .i64 3, .int .i64 4, .int .i64 4, .int .i64 5] 36) = w33 at *
  generalize w32.heap.size = B33 at *
  clear hHeld
  refine hK.out _ _ (C33) (fun hHeld => ?_)
  clear hK K
  try simp only [List.setIfInBounds_toArray, List.set_cons_zero, List.set_cons_succ]
  refine wpAnyH_listed #[true, true, true, true, false, false, false, false, false, false, false, false, false, false, false, false, false, false, false, false, false, false, false, false, false, false, false, false, false] (by kernel_rfl) ?_
  refine wpAnyH_ready (rs := [4]) (by kernel_rfl) (by simp) ?_
  refine AllReadyH.cons (o := ⟨some 62, Op.call { callee := Callee.value (Operand.func 16), args := #[Operand.tmp 61], argTypes := #[23] }, 3, _, _, none⟩) rfl (fun K hK => ?_) AllReadyH.nil
  go_simp
  go_at_call 16
  refine (calls_two C33 (v16 _ _ _ R33 6 (by decide +kernel))).mono ?_
  rintro e w34 ⟨rfl, C34, g34⟩
  go_wp2_with fail
  clear hHeld
  refine hK.out _ _ (C34) (fun hHeld => ?_)
  clear hK K
  try simp only [List.setIfInBounds_toArray, List.set_cons_zero, List.set_cons_succ]
  refine wpAnyH_listed #[true, true, true, true, true, false, false, false, false, false, false, false, false, false, false, false, false, false, false, false, false, false, false, false, false, false, false, false, false] (by kernel_rfl) ?_
  replace R4 := R4.later g34
  replace R9 := R9.later g34
  replace R16 := R16.later g34
  replace R21 := R21.later g34
  replace R25 := R25.later g34
  replace R27s := R27s.later g34
  replace R33 := R33.later g34
  clear C33
  clear g34
  refine wpAnyT_begin [5] (by kernel_rfl) (by kernel_rfl) ?_
  refine wpAnyT_take (oi := ⟨some 63, Op.binOp BinOp.eql 3 (Operand.tmp 62) (Operand.const (Value.int IntKind.i64 6)) 3, 4, _, _, none⟩) (v := .bool true) rfl (fun _ _ _ h => h) (by rfl) (by assumption) (fun wS hSw => ?_) ?_
  · (try dsimp only at hSw); go_simp
  simp only [Act.put, List.setIfInBounds_toArray, List.set_cons_zero, List.set_cons_succ]
  refine wpAnyT_end ?_
  refine wpAnyH_listed #[true, true, true, true, true, true, false, false, false, false, false, false, false, false, false, false, false, false, false, false, false, false, false, false, false, false, false, false, false] (by kernel_rfl) ?_
  refine wpAnyT_begin [6] (by kernel_rfl) (by kernel_rfl) ?_
  refine wpAnyT_take (oi := ⟨some 64, Op.move (Operand.tmp 63), 4, _, _, none⟩) (v := .bool true) rfl (fun _ _ _ h => h) (by rfl) (by assumption) (fun wS hSw => ?_) ?_
  · (try dsimp only at hSw); go_simp
  simp only [Act.put, List.setIfInBounds_toArray, List.set_cons_zero, List.set_cons_succ]
  refine wpAnyT_end ?_
  refine wpAnyH_listed #[true, true, true, true, true, true, true, false, false, false, false, false, false, false, false, false, false, false, false, false, false, false, false, false, false, false, false, false, false] (by kernel_rfl) ?_
  refine wpAnyT_begin [7] (by kernel_rfl) (by kernel_rfl) ?_
  refine wpAnyT_take (oi := ⟨some 65, Op.move (Operand.tmp 1), 23, _, _, some (6, true)⟩) (v := .slice (some ⟨B4, 0, none⟩) 3 3) rfl (fun _ _ _ h => h) (by rfl) (by assumption) (fun wS hSw => ?_) ?_
  · (try dsimp only at hSw); go_simp
  simp only [Act.put, List.setIfInBounds_toArray, List.set_cons_zero, List.set_cons_succ]
  refine wpAnyT_end ?_
  refine wpAnyH_listed #[true, true, true, true, true, true, true, true, false, false, false, false, false, false, false, false, false, false, false, false, false, false, false, false, false, false, false, false, false] (by kernel_rfl) ?_
  have R35s := R4.take 2 (by decide)
  refine wpAnyT_begin [8] (by kernel_rfl) (by kernel_rfl) ?_
  refine wpAnyT_take (oi := ⟨some 66, Op.slice 23 (Operand.tmp 65) none (some (Operand.const (Value.int IntKind.i64 2))) none, 23, _, _, some (6, true)⟩) (v := .slice (some ⟨B4, 0, none⟩) 2 3) rfl (fun _ _ _ h => h) (by rfl) (by assumption) (fun wS hSw => ?_) ?_
  · (try dsimp only at hSw); go_simp
  simp only [Act.put, List.setIfInBounds_toArray, List.set_cons_zero, List.set_cons_succ]
  refine wpAnyT_end ?_
  refine wpAnyH_listed #[true, true, true, true, true, true, true, true, true, false, false, false, false, false, false, false, false, false, false, false, false, false, false, false, false, false, false, false, false] (by kernel_rfl) ?_
  refine wpAnyH_ready (rs := [9]) (by kernel_rfl) (by simp) ?_
  refine AllReadyH.cons (o := ⟨some 67, Op.call { callee := Callee.value (Operand.func 22), args := #[Operand.const (Value.int IntKind.i64 5), Operand.const (Value.int IntKind.i64 3)], argTypes := #[3, 3] }, 36, _, _, some (6, true)⟩) rfl (fun K hK => ?_) AllReadyH.nil
  go_simp
  go_at_call 22
  refine (calls_two C34 (at_any 5 3 _)).mono ?_
  rintro e w36 ⟨rfl, C36, g36⟩
  go_wp2_with fail
  clear hHeld
  refine hK.out _ _ (C36) (fun hHeld => ?_)
  clear hK K
  try simp only [List.setIfInBounds_toArray, List.set_cons_zero, List.set_cons_succ]
  refine wpAnyH_listed #[true, true, true, true, true, true, true, true, true, true, false, false, false, false, false, false, false, false, false, false, false, false, false, false, false, false, false, false, false] (by kernel_rfl) ?_
  replace R4 := R4.later g36
  replace R9 := R9.later g36
  replace R16 := R16.later g36
  replace R21 := R21.later g36
  replace R25 := R25.later g36
  replace R27s := R27s.later g36
  replace R33 := R33.later g36
  replace R35s := R35s.later g36
  clear C34
  clear g36
  refine wpAnyH_ready (rs := [10]) (by kernel_rfl) (by simp) ?_
  refine AllReadyH.cons (o := ⟨some 68, Op.call { callee := Callee.value (Operand.func 23), args := #[Operand.tmp 66, Operand.tmp 67, Operand.const (Value.int IntKind.i64 36)], argTypes := #[23, 36, 3] }, 4, _, _, some (6, true)⟩) rfl (fun K hK => ?_) AllReadyH.nil
  go_simp
  go_at_call 23
  refine (calls_two C36 (v23 _ _ 5 3 36 _ R35s (by unfold I64; decide) true (by decide +kernel))).mono ?_
  rintro e w37 ⟨rfl, C37, g37⟩
  go_wp2_with fail
  clear hHeld
  refine hK.out _ _ (C37) (fun hHeld => ?_)
  clear hK K
  try simp only [List.setIfInBounds_toArray, List.set_cons_zero, List.set_cons_succ]
  refine wpAnyH_listed #[true, true, true, true, true, true, true, true, true, true, true, false, false, false, false, false, false, false, false, false, false, false, false, false, false, false, false, false, false] (by kernel_rfl) ?_
  replace R4 := R4.later g37
  replace R9 := R9.later g37
  replace R16 := R16.later g37
  replace R21 := R21.later g37
  replace R25 := R25.later g37
  replace R27s := R27s.later g37
  replace R33 := R33.later g37
  replace R35s := R35s.later g37
  clear C36
  clear g37
  refine wpAnyT_begin [11] (by kernel_rfl) (by kernel_rfl) ?_
  refine wpAnyT_take (oi := ⟨some 69, Op.pick (Operand.tmp 64) (Operand.tmp 68) (Operand.const (Value.bool false)), 4, _, _, none⟩) (v := .bool true) rfl (fun _ _ _ h => h) (by rfl) (by assumption) (fun wS hSw => ?_) ?_
  · (try dsimp only at hSw); go_simp
  simp only [Act.put, List.setIfInBounds_toArray, List.set_cons_zero, List.set_cons_succ]
  refine wpAnyT_end ?_
  refine wpAnyH_listed #[true, true, true, true, true, true, true, true, true, true, true, true, false, false, false, false, false, false, false, false, false, false, false, false, false, false, false, false, false] (by kernel_rfl) ?_
  refine wpAnyT_begin [12] (by kernel_rfl) (by kernel_rfl) ?_
  refine wpAnyT_take (oi := ⟨some 70, Op.move (Operand.tmp 69), 4, _, _, none⟩) (v := .bool true) rfl (fun _ _ _ h => h) (by rfl) (by assumption) (fun wS hSw => ?_) ?_
  · (try dsimp only at hSw); go_simp
  simp only [Act.put, List.setIfInBounds_toArray, List.set_cons_zero, List.set_cons_succ]
  refine wpAnyT_end ?_
  refine wpAnyH_listed #[true, true, true, true, true, true, true, true, true, true, true, true, true, false, false, false, false, false, false, false, false, false, false, false, false, false, false, false, false] (by kernel_rfl) ?_
  refine wpAnyT_begin [13] (by kernel_rfl) (by kernel_rfl) ?_
  refine wpAnyT_take (oi := ⟨some 71, Op.move (Operand.tmp 1), 23, _, _, some (12, true)⟩) (v := .slice (some ⟨B4, 0, none⟩) 3 3) rfl (fun _ _ _ h => h) (by rfl) (by assumption) (fun wS hSw => ?_) ?_
  · (try dsimp only at hSw); go_simp
  simp only [Act.put, List.setIfInBounds_toArray, List.set_cons_zero, List.set_cons_succ]
  refine wpAnyT_end ?_
  refine wpAnyH_listed #[true, true, true, true, true, true, true, true, true, true, true, true, true, true, false, false, false, false, false, false, false, false, false, false, false, false, false, false, false] (by kernel_rfl) ?_
  refine wpAnyT_begin [14] (by kernel_rfl) (by kernel_rfl) ?_
  refine wpAnyT_take (oi := ⟨some 72, Op.slice 23 (Operand.tmp 71) none (some (Operand.const (Value.int IntKind.i64 2))) none, 23, _, _, some (12, true)⟩) (v := .slice (some ⟨B4, 0, none⟩) 2 3) rfl (fun _ _ _ h => h) (by rfl) (by assumption) (fun wS hSw => ?_) ?_
  · (try dsimp only at hSw); go_simp
  simp only [Act.put, List.setIfInBounds_toArray, List.set_cons_zero, List.set_cons_succ]
  refine wpAnyT_end ?_
  refine wpAnyH_listed #[true, true, true, true, true, true, true, true, true, true, true, true, true, true, true, false, false, false, false, false, false, false, false, false, false, false, false, false, false] (by kernel_rfl) ?_
  refine wpAnyH_ready (rs := [15]) (by kernel_rfl) (by simp) ?_
  refine AllReadyH.cons (o := ⟨some 73, Op.call { callee := Callee.value (Operand.func 22), args := #[Operand.const (Value.int IntKind.i64 5), Operand.const (Value.int IntKind.i64 3)], argTypes := #[3, 3] }, 36, _, _, some (12, true)⟩) rfl (fun K hK => ?_) AllReadyH.nil
  go_simp
  go_at_call 22
  refine (calls_two C37 (at_any 5 3 _)).mono ?_
  rintro e w38 ⟨rfl, C38, g38⟩
  go_wp2_with fail
  clear hHeld
  refine hK.out _ _ (C38) (fun hHeld => ?_)
  clear hK K
  try simp only [List.setIfInBounds_toArray, List.set_cons_zero, List.set_cons_succ]
  refine wpAnyH_listed #[true, true, true, true, true, true, true, true, true, true, true, true, true, true, true, true, false, false, false, false, false, false, false, false, false, false, false, false, false] (by kernel_rfl) ?_
  replace R4 := R4.later g38
  replace R9 := R9.later g38
  replace R16 := R16.later g38
  replace R21 := R21.later g38
  replace R25 := R25.later g38
  replace R27s := R27s.later g38
  replace R33 := R33.later g38
  replace R35s := R35s.later g38
  clear C37
  clear g38
  refine wpAnyH_ready (rs := [16]) (by kernel_rfl) (by simp) ?_
  refine AllReadyH.cons (o := ⟨some 74, Op.call { callee := Callee.value (Operand.func 23), args := #[Operand.tmp 72, Operand.tmp 73, Operand.const (Value.int IntKind.i64 35)], argTypes := #[23, 36, 3] }, 4, _, _, some (12, true)⟩) rfl (fun K hK => ?_) AllReadyH.nil
  go_simp
  go_at_call 23
  refine (calls_two C38 (v23 _ _ 5 3 35 _ R35s (by unfold I64; decide) false (by decide +kernel))).mono ?_
  rintro e w39 ⟨rfl, C39, g39⟩
  go_wp2_with fail
  clear hHeld
  refine hK.out _ _ (C39) (fun hHeld => ?_)
  clear hK K
  try simp only [List.setIfInBounds_toArray, List.set_cons_zero, List.set_cons_succ]
  refine wpAnyH_listed #[true, true, true, true, true, true, true, true, true, true, true, true, true, true, true, true, true, false, false, false, false, false, false, false, false, false, false, false, false] (by kernel_rfl) ?_
  replace R4 := R4.later g39
  replace R9 := R9.later g39
  replace R16 := R16.later g39
  replace R21 := R21.later g39
  replace R25 := R25.later g39
  replace R27s := R27s.later g39
  replace R33 := R33.later g39
  replace R35s := R35s.later g39
  clear C38
  clear g39
  refine wpAnyT_begin [17] (by kernel_rfl) (by kernel_rfl) ?_
  refine wpAnyT_take (oi := ⟨some 75, Op.unOp UnOp.not 4 (Operand.tmp 74), 4, _, _, some (12, true)⟩) (v := .bool true) rfl (fun _ _ _ h => h) (by rfl) (by assumption) (fun wS hSw => ?_) ?_
  · (try dsimp only at hSw); go_simp
  simp only [Act.put, List.setIfInBounds_toArray, List.set_cons_zero, List.set_cons_succ]
  refine wpAnyT_end ?_
  refine wpAnyH_listed #[true, true, true, true, true, true, true, true, true, true, true, true, true, true, true, true, true, true, false, false, false, false, false, false, false, false, false, false, false] (by kernel_rfl) ?_
  refine wpAnyT_begin [18] (by kernel_rfl) (by kernel_rfl) ?_
  refine wpAnyT_take (oi := ⟨some 76, Op.pick (Operand.tmp 70) (Operand.tmp 75) (Operand.const (Value.bool false)), 4, _, _, none⟩) (v := .bool true) rfl (fun _ _ _ h => h) (by rfl) (by assumption) (fun wS hSw => ?_) ?_
  · (try dsimp only at hSw); go_simp
  simp only [Act.put, List.setIfInBounds_toArray, List.set_cons_zero, List.set_cons_succ]
  refine wpAnyT_end ?_
  refine wpAnyH_listed #[true, true, true, true, true, true, true, true, true, true, true, true, true, true, true, true, true, true, true, false, false, false, false, false, false, false, false, false, false] (by kernel_rfl) ?_
  refine wpAnyT_begin [19] (by kernel_rfl) (by kernel_rfl) ?_
  refine wpAnyT_take (oi := ⟨some 77, Op.move (Operand.tmp 76), 4, _, _, none⟩) (v := .bool true) rfl (fun _ _ _ h => h) (by rfl) (by assumption) (fun wS hSw => ?_) ?_
  · (try dsimp only at hSw); go_simp
  simp only [Act.put, List.setIfInBounds_toArray, List.set_cons_zero, List.set_cons_succ]
  refine wpAnyT_end ?_
  refine wpAnyH_listed #[true, true, true, true, true, true, true, true, true, true, true, true, true, true, true, true, true, true, true, true, false, false, false, false, false, false, false, false, false] (by kernel_rfl) ?_
  refine wpAnyT_begin [20] (by kernel_rfl) (by kernel_rfl) ?_
  refine wpAnyT_take (oi := ⟨some 78, Op.move (Operand.tmp 2), 23, _, _, some (19, true)⟩) (v := .slice (some ⟨B9, 0, none⟩) 4 4) rfl (fun _ _ _ h => h) (by rfl) (by assumption) (fun wS hSw => ?_) ?_
  · (try dsimp only at hSw); go_simp
  simp only [Act.put, List.setIfInBounds_toArray, List.set_cons_zero, List.set_cons_succ]
  refine wpAnyT_end ?_
  refine wpAnyH_listed #[true, true, true, true, true, true, true, true, true, true, true, true, true, true, true, true, true, true, true, true, true, false, false, false, false, false, false, false, false] (by kernel_rfl) ?_
  refine wpAnyH_ready (rs := [21]) (by kernel_rfl) (by simp) ?_
  refine AllReadyH.cons (o := ⟨some 79, Op.call { callee := Callee.value (Operand.func 14), args := #[Operand.tmp 78], argTypes := #[23] }, 4, _, _, some (19, true)⟩) rfl (fun K hK => ?_) AllReadyH.nil
  go_simp
  go_at_call 14
  refine (calls_two C39 (v14 _ _ _ R9 true (by decide +kernel))).mono ?_
  rintro e w40 ⟨rfl, C40, g40⟩
  go_wp2_with fail
  clear hHeld
  refine hK.out _ _ (C40) (fun hHeld => ?_)
  clear hK K
  try simp only [List.setIfInBounds_toArray, List.set_cons_zero, List.set_cons_succ]
  refine wpAnyH_listed #[true, true, true, true, true, true, true, true, true, true, true, true, true, true, true, true, true, true, true, true, true, true, false, false, false, false, false, false, false] (by kernel_rfl) ?_
  replace R4 := R4.later g40
  replace R9 := R9.later g40
  replace R16 := R16.later g40
  replace R21 := R21.later g40
  replace R25 := R25.later g40
  replace R27s := R27s.later g40
  replace R33 := R33.later g40
  replace R35s := R35s.later g40
  clear C39
  clear g40
  refine wpAnyT_begin [22] (by kernel_rfl) (by kernel_rfl) ?_
  refine wpAnyT_take (oi := ⟨some 80, Op.pick (Operand.tmp 77) (Operand.tmp 79) (Operand.const (Value.bool false)), 4, _, _, none⟩) (v := .bool true) rfl (fun _ _ _ h => h) (by rfl) (by assumption) (fun wS hSw => ?_) ?_
  · (try dsimp only at hSw); go_simp
  simp only [Act.put, List.setIfInBounds_toArray, List.set_cons_zero, List.set_cons_succ]
  refine wpAnyT_end ?_
  refine wpAnyH_listed #[true, true, true, true, true, true, true, true, true, true, true, true, true, true, true, true, true, true, true, true, true, true, true, false, false, false, false, false, false] (by kernel_rfl) ?_
  refine wpAnyT_begin [23] (by kernel_rfl) (by kernel_rfl) ?_
  refine wpAnyT_take (oi := ⟨some 81, Op.move (Operand.tmp 80), 4, _, _, none⟩) (v := .bool true) rfl (fun _ _ _ h => h) (by rfl) (by assumption) (fun wS hSw => ?_) ?_
  · (try dsimp only at hSw); go_simp
  simp only [Act.put, List.setIfInBounds_toArray, List.set_cons_zero, List.set_cons_succ]
  refine wpAnyT_end ?_
  refine wpAnyH_listed #[true, true, true, true, true, true, true, true, true, true, true, true, true, true, true, true, true, true, true, true, true, true, true, true, false, false, false, false, false] (by kernel_rfl) ?_
  refine wpAnyT_begin [24] (by kernel_rfl) (by kernel_rfl) ?_
  refine wpAnyT_take (oi := ⟨some 82, Op.move (Operand.tmp 1), 23, _, _, some (23, true)⟩) (v := .slice (some ⟨B4, 0, none⟩) 3 3) rfl (fun _ _ _ h => h) (by rfl) (by assumption) (fun wS hSw => ?_) ?_
  · (try dsimp only at hSw); go_simp
  simp only [Act.put, List.setIfInBounds_toArray, List.set_cons_zero, List.set_cons_succ]
  refine wpAnyT_end ?_
  refine wpAnyH_listed #[true, true, true, true, true, true, true, true, true, true, true, true, true, true, true, true, true, true, true, true, true, true, true, true, true, false, false, false, false] (by kernel_rfl) ?_
  refine wpAnyH_ready (rs := [25]) (by kernel_rfl) (by simp) ?_
  refine AllReadyH.cons (o := ⟨some 83, Op.call { callee := Callee.value (Operand.func 14), args := #[Operand.tmp 82], argTypes := #[23] }, 4, _, _, some (23, true)⟩) rfl (fun K hK => ?_) AllReadyH.nil
  go_simp
  go_at_call 14
  refine (calls_two C40 (v14 _ _ _ R4 false (by decide +kernel))).mono ?_
  rintro e w41 ⟨rfl, C41, g41⟩
  go_wp2_with fail
  clear hHeld
  refine hK.out _ _ (C41) (fun hHeld => ?_)
  clear hK K
  try simp only [List.setIfInBounds_toArray, List.set_cons_zero, List.set_cons_succ]
  refine wpAnyH_listed #[true, true, true, true, true, true, true, true, true, true, true, true, true, true, true, true, true, true, true, true, true, true, true, true, true, true, false, false, false] (by kernel_rfl) ?_
  replace R4 := R4.later g41
  replace R9 := R9.later g41
  replace R16 := R16.later g41
  replace R21 := R21.later g41
  replace R25 := R25.later g41
  replace R27s := R27s.later g41
  replace R33 := R33.later g41
  replace R35s := R35s.later g41
  clear C40
  clear g41
  refine wpAnyT_begin [26] (by kernel_rfl) (by kernel_rfl) ?_
  refine wpAnyT_take (oi := ⟨some 84, Op.unOp UnOp.not 4 (Operand.tmp 83), 4, _, _, some (23, true)⟩) (v := .bool true) rfl (fun _ _ _ h => h) (by rfl) (by assumption) (fun wS hSw => ?_) ?_
  · (try dsimp only at hSw); go_simp
  simp only [Act.put, List.setIfInBounds_toArray, List.set_cons_zero, List.set_cons_succ]
  refine wpAnyT_end ?_
  refine wpAnyH_listed #[true, true, true, true, true, true, true, true, true, true, true, true, true, true, true, true, true, true, true, true, true, true, true, true, true, true, true, false, false] (by kernel_rfl) ?_
  refine wpAnyT_begin [27] (by kernel_rfl) (by kernel_rfl) ?_
  refine wpAnyT_take (oi := ⟨some 85, Op.pick (Operand.tmp 81) (Operand.tmp 84) (Operand.const (Value.bool false)), 4, _, _, none⟩) (v := .bool true) rfl (fun _ _ _ h => h) (by rfl) (by assumption) (fun wS hSw => ?_) ?_
  · (try dsimp only at hSw); go_simp
  simp only [Act.put, List.setIfInBounds_toArray, List.set_cons_zero, List.set_cons_succ]
  refine wpAnyT_end ?_
  refine wpAnyH_listed #[true, true, true, true, true, true, true, true, true, true, true, true, true, true, true, true, true, true, true, true, true, true, true, true, true, true, true, true, false] (by kernel_rfl) ?_
  refine wpAnyT_begin [28] (by kernel_rfl) (by kernel_rfl) ?_
  refine wpAnyT_take (oi := ⟨some 4, Op.assign (Operand.tmp 85), 4, _, _, none⟩) (v := .bool true) rfl (fun _ _ _ h => h) (by rfl) (by assumption) (fun wS hSw => ?_) ?_
  · (try dsimp only at hSw); go_simp
  simp only [Act.put, List.setIfInBounds_toArray, List.set_cons_zero, List.set_cons_succ]
  refine wpAnyT_end ?_
  refine wpAnyH_listed #[true, true, true, true, true, true, true, true, true, true, true, true, true, true, true, true, true, true, true, true, true, true, true, true, true, true, true, true, true] (by kernel_rfl) ?_
  refine wpAnyH_done (by kernel_rfl) ?_ _
  clear hHeld
  go_wp2_with fail
  refine (calls_two C41 (at_any 0 0 _)).mono ?_
  rintro e w42 ⟨rfl, C42, g42⟩
  replace R4 := R4.later g42
  replace R9 := R9.later g42
  replace R16 := R16.later g42
  replace R21 := R21.later g42
  replace R25 := R25.later g42
  replace R27s := R27s.later g42
  replace R33 := R33.later g42
  replace R35s := R35s.later g42
  clear C41
  clear g42
  go_wp2_with fail
  refine (calls_two C42 (at_any 10 0 _)).mono ?_
  rintro e w43 ⟨rfl, C43, g43⟩
  replace R4 := R4.later g43
  replace R9 := R9.later g43
  replace R16 := R16.later g43
  replace R21 := R21.later g43
  replace R25 := R25.later g43
  replace R27s := R27s.later g43
  replace R33 := R33.later g43
  replace R35s := R35s.later g43
  clear C42
  clear g43
  go_wp2_with fail
  refine (calls_two C43 (at_any 0 10 _)).mono ?_
  rintro e w44 ⟨rfl, C44, g44⟩
  replace R4 := R4.later g44
  replace R9 := R9.later g44
  replace R16 := R16.later g44
  replace R21 := R21.later g44
  replace R25 := R25.later g44
  replace R27s := R27s.later g44
  replace R33 := R33.later g44
  replace R35s := R35s.later g44
  clear C43
  clear g44
  go_upto_region 6 with fail
  have C45 := (((Has.nil (Below.refl w44.heap.size w44)).push [.int .i64 0, .int .i64 0] 36).push [.int .i64 10, .int .i64 0] 36).push [.int .i64 0, .int .i64 10] 36
  rw [size_alloc, size_alloc] at C45
  change Has w44 _ (((w44.alloc (.cells #[.int .i64 0, .int .i64 0] 36)).alloc (.cells #[.int .i64 10, .int .i64 0] 36)).alloc (.cells #[.int .i64 0, .int .i64 10] 36)) at C45
  have HP1 : w44.heap.size + 1 ≠ w44.heap.size + 1 + 1 := by omega
  generalize ((w44.alloc (.cells #[.int .i64 0, .int .i64 0] 36)).alloc (.cells #[.int .i64 10, .int .i64 0] 36)).alloc (.cells #[.int .i64 0, .int .i64 10] 36) = w45 at *
  generalize hP : w44.heap.size = P at *
  have C46 := C45.drew
  have HS := Lib.hid (show ∀ w', Has w44 [(P + 1 + 1, [.int .i64 0, .int .i64 10]), (P + 1, [.int .i64 10, .int .i64 0]), (P, [.int .i64 0, .int .i64 0])] w' → (w'.cell? ⟨P + 1 + 1, 0, none⟩ = some (.int .i64 0) ∧ w'.cell? ⟨P + 1 + 1, 1, none⟩ = some (.int .i64 10) ∧ w'.cell? ⟨P + 1, 0, none⟩ = some (.int .i64 10) ∧ w'.cell? ⟨P + 1, 1, none⟩ = some (.int .i64 0) ∧ w'.cell? ⟨P, 0, none⟩ = some (.int .i64 0) ∧ w'.cell? ⟨P, 1, none⟩ = some (.int .i64 0)) ∧ Has w44 [(P + 1 + 1, [.int .i64 0, .int .i64 10]), (P + 1, [.int .i64 10, .int .i64 0]), (P, [.int .i64 0, .int .i64 0])] w' from fun w' h => by
    exact ⟨⟨h.fact (.head _) (i := 0) rfl, h.fact (.head _) (i := 1) rfl, h.tail.fact (.head _) (i := 0) rfl, h.tail.fact (.head _) (i := 1) rfl, h.tail.tail.fact (.head _) (i := 0) rfl, h.tail.tail.fact (.head _) (i := 1) rfl⟩, h⟩)
  refine wp_region_held_drew (S := (fun w' => (w'.cell? ⟨P + 1 + 1, 0, none⟩ = some (.int .i64 0) ∧ w'.cell? ⟨P + 1 + 1, 1, none⟩ = some (.int .i64 10) ∧ w'.cell? ⟨P + 1, 0, none⟩ = some (.int .i64 10) ∧ w'.cell? ⟨P + 1, 1, none⟩ = some (.int .i64 0) ∧ w'.cell? ⟨P, 0, none⟩ = some (.int .i64 0) ∧ w'.cell? ⟨P, 1, none⟩ = some (.int .i64 0)) ∧ Has w44 [(P + 1 + 1, [.int .i64 0, .int .i64 10]), (P + 1, [.int .i64 10, .int .i64 0]), (P, [.int .i64 0, .int .i64 0])] w')) (by kernel_rfl) (HS.out _ C46) (fun hHeld => ?_)
  clear C45
  generalize w45.drew = w46 at *
  refine wpAnyT_begin [0, 1, 2] (by kernel_rfl) (by kernel_rfl) ?_
  refine wpAnyT_take (oi := ⟨some 89, Op.load 36 (Operand.tmp 5), 36, _, _, none⟩) (v := .agg #[.int .i64 0, .int .i64 0]) rfl (fun _ _ _ h => h) (by rfl) (by assumption) (fun wS hSw => ?_) ?_
  · (try dsimp only at hSw); go_simp
  simp only [Act.put, List.setIfInBounds_toArray, List.set_cons_zero, List.set_cons_succ]
  refine wpAnyT_take (oi := ⟨some 90, Op.load 36 (Operand.tmp 6), 36, _, _, none⟩) (v := .agg #[.int .i64 10, .int .i64 0]) rfl (fun _ _ _ h => h) (by rfl) (by assumption) (fun wS hSw => ?_) ?_
  · (try dsimp only at hSw); go_simp
  simp only [Act.put, List.setIfInBounds_toArray, List.set_cons_zero, List.set_cons_succ]
  refine wpAnyT_take (oi := ⟨some 91, Op.load 36 (Operand.tmp 7), 36, _, _, none⟩) (v := .agg #[.int .i64 0, .int .i64 10]) rfl (fun _ _ _ h => h) (by rfl) (by assumption) (fun wS hSw => ?_) ?_
  · (try dsimp only at hSw); go_simp
  simp only [Act.put, List.setIfInBounds_toArray, List.set_cons_zero, List.set_cons_succ]
  refine wpAnyT_end ?_
  refine wpAnyH_listed #[true, true, true, false, false, false, false, false, false, false, false, false, false, false] (by kernel_rfl) ?_
  refine wpAnyH_ready (rs := [3]) (by kernel_rfl) (by simp) ?_
  refine AllReadyH.cons (o := ⟨some 92, Op.call { callee := Callee.value (Operand.func 22), args := #[Operand.const (Value.int IntKind.i64 5), Operand.const (Value.int IntKind.i64 5)], argTypes := #[3, 3] }, 36, _, _, none⟩) rfl (fun K hK => ?_) AllReadyH.nil
  go_simp
  go_at_call 22
  refine (calls_two C46 (at_any 5 5 _)).mono ?_
  rintro e w47 ⟨rfl, C47, g47⟩
  go_wp2_with fail
  clear hHeld
  refine hK.out _ _ (HS.out _ C47) (fun hHeld => ?_)
  clear hK K
  try simp only [List.setIfInBounds_toArray, List.set_cons_zero, List.set_cons_succ]
  refine wpAnyH_listed #[true, true, true, true, false, false, false, false, false, false, false, false, false, false] (by kernel_rfl) ?_
  clear C46
  clear g47
  refine wpAnyH_ready (rs := [4]) (by kernel_rfl) (by simp) ?_
  refine AllReadyH.cons (o := ⟨some 93, Op.call { callee := Callee.value (Operand.func 29), args := #[Operand.tmp 89, Operand.tmp 90, Operand.tmp 91, Operand.tmp 92], argTypes := #[36, 36, 36, 36] }, 4, _, _, none⟩) rfl (fun K hK => ?_) AllReadyH.nil
  go_simp
  go_at_call 29
  refine (calls_two C47 (v29 0 0 10 0 0 10 5 5 _ true (by decide +kernel))).mono ?_
  rintro e w48 ⟨rfl, C48, g48⟩
  go_wp2_with fail
  clear hHeld
  refine hK.out _ _ (HS.out _ C48) (fun hHeld => ?_)
  clear hK K
  try simp only [List.setIfInBounds_toArray, List.set_cons_zero, List.set_cons_succ]
  refine wpAnyH_listed #[true, true, true, true, true, false, false, false, false, false, false, false, false, false] (by kernel_rfl) ?_
  clear C47
  clear g48
  refine wpAnyT_begin [5] (by kernel_rfl) (by kernel_rfl) ?_
  refine wpAnyT_take (oi := ⟨some 94, Op.move (Operand.tmp 93), 4, _, _, none⟩) (v := .bool true) rfl (fun _ _ _ h => h) (by rfl) (by assumption) (fun wS hSw => ?_) ?_
  · (try dsimp only at hSw); go_simp
  simp only [Act.put, List.setIfInBounds_toArray, List.set_cons_zero, List.set_cons_succ]
  refine wpAnyT_end ?_
  refine wpAnyH_listed #[true, true, true, true, true, true, false, false, false, false, false, false, false, false] (by kernel_rfl) ?_
  refine wpAnyT_begin [6, 7, 8] (by kernel_rfl) (by kernel_rfl) ?_
  refine wpAnyT_take (oi := ⟨some 95, Op.load 36 (Operand.tmp 5), 36, _, _, some (5, true)⟩) (v := .agg #[.int .i64 0, .int .i64 0]) rfl (fun _ _ _ h => h) (by rfl) (by assumption) (fun wS hSw => ?_) ?_
  · (try dsimp only at hSw); go_simp
  simp only [Act.put, List.setIfInBounds_toArray, List.set_cons_zero, List.set_cons_succ]
  refine wpAnyT_take (oi := ⟨some 96, Op.load 36 (Operand.tmp 6), 36, _, _, some (5, true)⟩) (v := .agg #[.int .i64 10, .int .i64 0]) rfl (fun _ _ _ h => h) (by rfl) (by assumption) (fun wS hSw => ?_) ?_
  · (try dsimp only at hSw); go_simp
  simp only [Act.put, List.setIfInBounds_toArray, List.set_cons_zero, List.set_cons_succ]
  refine wpAnyT_take (oi := ⟨some 97, Op.load 36 (Operand.tmp 7), 36, _, _, some (5, true)⟩) (v := .agg #[.int .i64 0, .int .i64 10]) rfl (fun _ _ _ h => h) (by rfl) (by assumption) (fun wS hSw => ?_) ?_
  · (try dsimp only at hSw); go_simp
  simp only [Act.put, List.setIfInBounds_toArray, List.set_cons_zero, List.set_cons_succ]
  refine wpAnyT_end ?_
  refine wpAnyH_listed #[true, true, true, true, true, true, true, true, true, false, false, false, false, false] (by kernel_rfl) ?_
  refine wpAnyH_ready (rs := [9]) (by kernel_rfl) (by simp) ?_
  refine AllReadyH.cons (o := ⟨some 98, Op.call { callee := Callee.value (Operand.func 22), args := #[Operand.const (Value.int IntKind.i64 6), Operand.const (Value.int IntKind.i64 5)], argTypes := #[3, 3] }, 36, _, _, some (5, true)⟩) rfl (fun K hK => ?_) AllReadyH.nil
  go_simp
  go_at_call 22
  refine (calls_two C48 (at_any 6 5 _)).mono ?_
  rintro e w49 ⟨rfl, C49, g49⟩
  go_wp2_with fail
  clear hHeld
  refine hK.out _ _ (HS.out _ C49) (fun hHeld => ?_)
  clear hK K
  try simp only [List.setIfInBounds_toArray, List.set_cons_zero, List.set_cons_succ]
  refine wpAnyH_listed #[true, true, true, true, true, true, true, true, true, true, false, false, false, false] (by kernel_rfl) ?_
  clear C48
  clear g49
  refine wpAnyH_ready (rs := [10]) (by kernel_rfl) (by simp) ?_
  refine AllReadyH.cons (o := ⟨some 99, Op.call { callee := Callee.value (Operand.func 29), args := #[Operand.tmp 95, Operand.tmp 96, Operand.tmp 97, Operand.tmp 98], argTypes := #[36, 36, 36, 36] }, 4, _, _, some (5, true)⟩) rfl (fun K hK => ?_) AllReadyH.nil
  go_simp
  go_at_call 29
  refine (calls_two C49 (v29 0 0 10 0 0 10 6 5 _ false (by decide +kernel))).mono ?_
  rintro e w50 ⟨rfl, C50, g50⟩
  go_wp2_with fail
  clear hHeld
  refine hK.out _ _ (HS.out _ C50) (fun hHeld => ?_)
  clear hK K
  try simp only [List.setIfInBounds_toArray, List.set_cons_zero, List.set_cons_succ]
  refine wpAnyH_listed #[true, true, true, true, true, true, true, true, true, true, true, false, false, false] (by kernel_rfl) ?_
  clear C49
  clear g50
  refine wpAnyT_begin [11] (by kernel_rfl) (by kernel_rfl) ?_
  refine wpAnyT_take (oi := ⟨some 100, Op.unOp UnOp.not 4 (Operand.tmp 99), 4, _, _, some (5, true)⟩) (v := .bool true) rfl (fun _ _ _ h => h) (by rfl) (by assumption) (fun wS hSw => ?_) ?_
  · (try dsimp only at hSw); go_simp
  simp only [Act.put, List.setIfInBounds_toArray, List.set_cons_zero, List.set_cons_succ]
  refine wpAnyT_end ?_
  refine wpAnyH_listed #[true, true, true, true, true, true, true, true, true, true, true, true, false, false] (by kernel_rfl) ?_
  refine wpAnyT_begin [12] (by kernel_rfl) (by kernel_rfl) ?_
  refine wpAnyT_take (oi := ⟨some 101, Op.pick (Operand.tmp 94) (Operand.tmp 100) (Operand.const (Value.bool false)), 4, _, _, none⟩) (v := .bool true) rfl (fun _ _ _ h => h) (by rfl) (by assumption) (fun wS hSw => ?_) ?_
  · (try dsimp only at hSw); go_simp
  simp only [Act.put, List.setIfInBounds_toArray, List.set_cons_zero, List.set_cons_succ]
  refine wpAnyT_end ?_
  refine wpAnyH_listed #[true, true, true, true, true, true, true, true, true, true, true, true, true, false] (by kernel_rfl) ?_
  refine wpAnyT_begin [13] (by kernel_rfl) (by kernel_rfl) ?_
  refine wpAnyT_take (oi := ⟨some 8, Op.assign (Operand.tmp 101), 4, _, _, none⟩) (v := .bool true) rfl (fun _ _ _ h => h) (by rfl) (by assumption) (fun wS hSw => ?_) ?_
  · (try dsimp only at hSw); go_simp
  simp only [Act.put, List.setIfInBounds_toArray, List.set_cons_zero, List.set_cons_succ]
  refine wpAnyT_end ?_
  refine wpAnyH_listed #[true, true, true, true, true, true, true, true, true, true, true, true, true, true] (by kernel_rfl) ?_
  refine wpAnyH_done (by kernel_rfl) ?_ _
  clear hHeld
  clear HS
  go_wp2_with fail
  refine (calls_two C50 (at_any 5 5 _)).mono ?_
  rintro e w51 ⟨rfl, C51, g51⟩
  clear C50
  clear g51
  go_wp2_with fail
  refine (calls_two C51 (at_any 10 0 _)).mono ?_
  rintro e w52 ⟨rfl, C52, g52⟩
  clear C51
  clear g52
  have kk0 := C52.fact (.head _) (i := 0) rfl
  have kk1 := C52.fact (.head _) (i := 1) rfl
  have kk2 := C52.tail.fact (.head _) (i := 0) rfl
  have kk3 := C52.tail.fact (.head _) (i := 1) rfl
  have ff0 := C52.free (.head _) (i := 0) rfl
  have ff1 := C52.free (.head _) (i := 1) rfl
  have ff2 := C52.tail.free (.head _) (i := 0) rfl
  have ff3 := C52.tail.free (.head _) (i := 1) rfl
  go_upto_region 8 with fail
  have C53 := (C52.swap.set2 (.int .i64 5) (.int .i64 5)).swap.set2 (.int .i64 10) (.int .i64 0)
  clear kk0 kk1 kk2 kk3 ff0 ff1 ff2 ff3
  clear C52
  change Has _ _ ((((w52.setCell ⟨P + 1, 0, none⟩ (.int .i64 5)).setCell ⟨P + 1, 1, none⟩ (.int .i64 5)).setCell ⟨P + 1 + 1, 0, none⟩ (.int .i64 10)).setCell ⟨P + 1 + 1, 1, none⟩ (.int .i64 0)) at C53
  generalize (((w52.setCell ⟨P + 1, 0, none⟩ (.int .i64 5)).setCell ⟨P + 1, 1, none⟩ (.int .i64 5)).setCell ⟨P + 1 + 1, 0, none⟩ (.int .i64 10)).setCell ⟨P + 1 + 1, 1, none⟩ (.int .i64 0) = w53 at *
  have C54 := C53.drew
  have HS := Lib.hid (show ∀ w', Has w44 [(P + 1 + 1, [.int .i64 10, .int .i64 0]), (P + 1, [.int .i64 5, .int .i64 5]), (P, [.int .i64 0, .int .i64 0])] w' → (w'.cell? ⟨P + 1 + 1, 0, none⟩ = some (.int .i64 10) ∧ w'.cell? ⟨P + 1 + 1, 1, none⟩ = some (.int .i64 0) ∧ w'.cell? ⟨P + 1, 0, none⟩ = some (.int .i64 5) ∧ w'.cell? ⟨P + 1, 1, none⟩ = some (.int .i64 5) ∧ w'.cell? ⟨P, 0, none⟩ = some (.int .i64 0) ∧ w'.cell? ⟨P, 1, none⟩ = some (.int .i64 0)) ∧ Has w44 [(P + 1 + 1, [.int .i64 10, .int .i64 0]), (P + 1, [.int .i64 5, .int .i64 5]), (P, [.int .i64 0, .int .i64 0])] w' from fun w' h => by
    exact ⟨⟨h.fact (.head _) (i := 0) rfl, h.fact (.head _) (i := 1) rfl, h.tail.fact (.head _) (i := 0) rfl, h.tail.fact (.head _) (i := 1) rfl, h.tail.tail.fact (.head _) (i := 0) rfl, h.tail.tail.fact (.head _) (i := 1) rfl⟩, h⟩)
  refine wp_region_held_drew (S := (fun w' => (w'.cell? ⟨P + 1 + 1, 0, none⟩ = some (.int .i64 10) ∧ w'.cell? ⟨P + 1 + 1, 1, none⟩ = some (.int .i64 0) ∧ w'.cell? ⟨P + 1, 0, none⟩ = some (.int .i64 5) ∧ w'.cell? ⟨P + 1, 1, none⟩ = some (.int .i64 5) ∧ w'.cell? ⟨P, 0, none⟩ = some (.int .i64 0) ∧ w'.cell? ⟨P, 1, none⟩ = some (.int .i64 0)) ∧ Has w44 [(P + 1 + 1, [.int .i64 10, .int .i64 0]), (P + 1, [.int .i64 5, .int .i64 5]), (P, [.int .i64 0, .int .i64 0])] w')) (by kernel_rfl) (HS.out _ C54) (fun hHeld => ?_)
  clear C53
  generalize w53.drew = w54 at *
  refine wpAnyT_begin [0, 1, 2] (by kernel_rfl) (by kernel_rfl) ?_
  refine wpAnyT_take (oi := ⟨some 104, Op.load 36 (Operand.tmp 5), 36, _, _, none⟩) (v := .agg #[.int .i64 0, .int .i64 0]) rfl (fun _ _ _ h => h) (by rfl) (by assumption) (fun wS hSw => ?_) ?_
  · (try dsimp only at hSw); go_simp
  simp only [Act.put, List.setIfInBounds_toArray, List.set_cons_zero, List.set_cons_succ]
  refine wpAnyT_take (oi := ⟨some 105, Op.load 36 (Operand.tmp 6), 36, _, _, none⟩) (v := .agg #[.int .i64 5, .int .i64 5]) rfl (fun _ _ _ h => h) (by rfl) (by assumption) (fun wS hSw => ?_) ?_
  · (try dsimp only at hSw); go_simp
  simp only [Act.put, List.setIfInBounds_toArray, List.set_cons_zero, List.set_cons_succ]
  refine wpAnyT_take (oi := ⟨some 106, Op.load 36 (Operand.tmp 7), 36, _, _, none⟩) (v := .agg #[.int .i64 10, .int .i64 0]) rfl (fun _ _ _ h => h) (by rfl) (by assumption) (fun wS hSw => ?_) ?_
  · (try dsimp only at hSw); go_simp
  simp only [Act.put, List.setIfInBounds_toArray, List.set_cons_zero, List.set_cons_succ]
  refine wpAnyT_end ?_
  refine wpAnyH_listed #[true, true, true, false, false, false, false, false, false, false, false, false, false, false, false, false, false, false, false, false, false, false, false, false] (by kernel_rfl) ?_
  refine wpAnyH_ready (rs := [3]) (by kernel_rfl) (by simp) ?_
  refine AllReadyH.cons (o := ⟨some 107, Op.call { callee := Callee.value (Operand.func 22), args := #[Operand.const (Value.int IntKind.i64 0), Operand.const (Value.int IntKind.i64 0)], argTypes := #[3, 3] }, 36, _, _, none⟩) rfl (fun K hK => ?_) AllReadyH.nil
  go_simp
  go_at_call 22
  refine (calls_two C54 (at_any 0 0 _)).mono ?_
  rintro e w55 ⟨rfl, C55, g55⟩
  go_wp2_with fail
  clear hHeld
  refine hK.out _ _ (HS.out _ C55) (fun hHeld => ?_)
  clear hK K
  try simp only [List.setIfInBounds_toArray, List.set_cons_zero, List.set_cons_succ]
  refine wpAnyH_listed #[true, true, true, true, false, false, false, false, false, false, false, false, false, false, false, false, false, false, false, false, false, false, false, false] (by kernel_rfl) ?_
  clear C54
  clear g55
  refine wpAnyH_ready (rs := [4]) (by kernel_rfl) (by simp) ?_
  refine AllReadyH.cons (o := ⟨some 108, Op.call { callee := Callee.value (Operand.func 22), args := #[Operand.const (Value.int IntKind.i64 (-5)), Operand.const (Value.int IntKind.i64 0)], argTypes := #[3, 3] }, 36, _, _, none⟩) rfl (fun K hK => ?_) AllReadyH.nil
  go_simp
  go_at_call 22
  refine (calls_two C55 (at_any (-5) 0 _)).mono ?_
  rintro e w56 ⟨rfl, C56, g56⟩
  go_wp2_with fail
  clear hHeld
  refine hK.out _ _ (HS.out _ C56) (fun hHeld => ?_)
  clear hK K
  try simp only [List.setIfInBounds_toArray, List.set_cons_zero, List.set_cons_succ]
  refine wpAnyH_listed #[true, true, true, true, true, false, false, false, false, false, false, false, false, false, false, false, false, false, false, false, false, false, false, false] (by kernel_rfl) ?_
  clear C55
  clear g56
  refine wpAnyH_ready (rs := [5]) (by kernel_rfl) (by simp) ?_
  refine AllReadyH.cons (o := ⟨some 109, Op.call { callee := Callee.value (Operand.func 30), args := #[Operand.tmp 104, Operand.tmp 105, Operand.tmp 106, Operand.tmp 107, Operand.tmp 108], argTypes := #[36, 36, 36, 36, 36] }, 4, _, _, none⟩) rfl (fun K hK => ?_) AllReadyH.nil
  go_simp
  go_at_call 30
  refine (calls_two C56 (v30 0 0 5 5 10 0 0 0 (-5) 0 _ false (by decide +kernel))).mono ?_
  rintro e w57 ⟨rfl, C57, g57⟩
  go_wp2_with fail
  clear hHeld
  refine hK.out _ _ (HS.out _ C57) (fun hHeld => ?_)
  clear hK K
  try simp only [List.setIfInBounds_toArray, List.set_cons_zero, List.set_cons_succ]
  refine wpAnyH_listed #[true, true, true, true, true, true, false, false, false, false, false, false, false, false, false, false, false, false, false, false, false, false, false, false] (by kernel_rfl) ?_
  clear C56
  clear g57
  refine wpAnyT_begin [6] (by kernel_rfl) (by kernel_rfl) ?_
  refine wpAnyT_take (oi := ⟨some 110, Op.unOp UnOp.not 4 (Operand.tmp 109), 4, _, _, none⟩) (v := .bool true) rfl (fun _ _ _ h => h) (by rfl) (by assumption) (fun wS hSw => ?_) ?_
  · (try dsimp only at hSw); go_simp
  simp only [Act.put, List.setIfInBounds_toArray, List.set_cons_zero, List.set_cons_succ]
  refine wpAnyT_end ?_
  refine wpAnyH_listed #[true, true, true, true, true, true, true, false, false, false, false, false, false, false, false, false, false, false, false, false, false, false, false, false] (by kernel_rfl) ?_
  refine wpAnyT_begin [7] (by kernel_rfl) (by kernel_rfl) ?_
  refine wpAnyT_take (oi := ⟨some 111, Op.move (Operand.tmp 110), 4, _, _, none⟩) (v := .bool true) rfl (fun _ _ _ h => h) (by rfl) (by assumption) (fun wS hSw => ?_) ?_
  · (try dsimp only at hSw); go_simp
  simp only [Act.put, List.setIfInBounds_toArray, List.set_cons_zero, List.set_cons_succ]
  refine wpAnyT_end ?_
  refine wpAnyH_listed #[true, true, true, true, true, true, true, true, false, false, false, false, false, false, false, false, false, false, false, false, false, false, false, false] (by kernel_rfl) ?_
  refine wpAnyT_begin [8, 9, 10] (by kernel_rfl) (by kernel_rfl) ?_
  refine wpAnyT_take (oi := ⟨some 112, Op.load 36 (Operand.tmp 5), 36, _, _, some (7, true)⟩) (v := .agg #[.int .i64 0, .int .i64 0]) rfl (fun _ _ _ h => h) (by rfl) (by assumption) (fun wS hSw => ?_) ?_
  · (try dsimp only at hSw); go_simp
  simp only [Act.put, List.setIfInBounds_toArray, List.set_cons_zero, List.set_cons_succ]
  refine wpAnyT_take (oi := ⟨some 113, Op.load 36 (Operand.tmp 6), 36, _, _, some (7, true)⟩) (v := .agg #[.int .i64 5, .int .i64 5]) rfl (fun _ _ _ h => h) (by rfl) (by assumption) (fun wS hSw => ?_) ?_
  · (try dsimp only at hSw); go_simp
  simp only [Act.put, List.setIfInBounds_toArray, List.set_cons_zero, List.set_cons_succ]
  refine wpAnyT_take (oi := ⟨some 114, Op.load 36 (Operand.tmp 7), 36, _, _, some (7, true)⟩) (v := .agg #[.int .i64 10, .int .i64 0]) rfl (fun _ _ _ h => h) (by rfl) (by assumption) (fun wS hSw => ?_) ?_
  · (try dsimp only at hSw); go_simp
  simp only [Act.put, List.setIfInBounds_toArray, List.set_cons_zero, List.set_cons_succ]
  refine wpAnyT_end ?_
  refine wpAnyH_listed #[true, true, true, true, true, true, true, true, true, true, true, false, false, false, false, false, false, false, false, false, false, false, false, false] (by kernel_rfl) ?_
  refine wpAnyH_ready (rs := [11]) (by kernel_rfl) (by simp) ?_
  refine AllReadyH.cons (o := ⟨some 115, Op.call { callee := Callee.value (Operand.func 22), args := #[Operand.const (Value.int IntKind.i64 0), Operand.const (Value.int IntKind.i64 0)], argTypes := #[3, 3] }, 36, _, _, some (7, true)⟩) rfl (fun K hK => ?_) AllReadyH.nil
  go_simp
  go_at_call 22
  refine (calls_two C57 (at_any 0 0 _)).mono ?_
  rintro e w58 ⟨rfl, C58, g58⟩
  go_wp2_with fail
  clear hHeld
  refine hK.out _ _ (HS.out _ C58) (fun hHeld => ?_)
  clear hK K
  try simp only [List.setIfInBounds_toArray, List.set_cons_zero, List.set_cons_succ]
  refine wpAnyH_listed #[true, true, true, true, true, true, true, true, true, true, true, true, false, false, false, false, false, false, false, false, false, false, false, false] (by kernel_rfl) ?_
  clear C57
  clear g58
  refine wpAnyH_ready (rs := [12]) (by kernel_rfl) (by simp) ?_
  refine AllReadyH.cons (o := ⟨some 116, Op.call { callee := Callee.value (Operand.func 22), args := #[Operand.const (Value.int IntKind.i64 10), Operand.const (Value.int IntKind.i64 0)], argTypes := #[3, 3] }, 36, _, _, some (7, true)⟩) rfl (fun K hK => ?_) AllReadyH.nil
  go_simp
  go_at_call 22
  refine (calls_two C58 (at_any 10 0 _)).mono ?_
  rintro e w59 ⟨rfl, C59, g59⟩
  go_wp2_with fail
  clear hHeld
  refine hK.out _ _ (HS.out _ C59) (fun hHeld => ?_)
  clear hK K
  try simp only [List.setIfInBounds_toArray, List.set_cons_zero, List.set_cons_succ]
  refine wpAnyH_listed #[true, true, true, true, true, true, true, true, true, true, true, true, true, false, false, false, false, false, false, false, false, false, false, false] (by kernel_rfl) ?_
  clear C58
  clear g59
  refine wpAnyH_ready (rs := [13]) (by kernel_rfl) (by simp) ?_
  refine AllReadyH.cons (o := ⟨some 117, Op.call { callee := Callee.value (Operand.func 30), args := #[Operand.tmp 112, Operand.tmp 113, Operand.tmp 114, Operand.tmp 115, Operand.tmp 116], argTypes := #[36, 36, 36, 36, 36] }, 4, _, _, some (7, true)⟩) rfl (fun K hK => ?_) AllReadyH.nil
  go_simp
  go_at_call 30
  refine (calls_two C59 (v30 0 0 5 5 10 0 0 0 10 0 _ true (by decide +kernel))).mono ?_
  rintro e w60 ⟨rfl, C60, g60⟩
  go_wp2_with fail
  clear hHeld
  refine hK.out _ _ (HS.out _ C60) (fun hHeld => ?_)
  clear hK K
  try simp only [List.setIfInBounds_toArray, List.set_cons_zero, List.set_cons_succ]
  refine wpAnyH_listed #[true, true, true, true, true, true, true, true, true, true, true, true, true, true, false, false, false, false, false, false, false, false, false, false] (by kernel_rfl) ?_
  clear C59
  clear g60
  refine wpAnyT_begin [14] (by kernel_rfl) (by kernel_rfl) ?_
  refine wpAnyT_take (oi := ⟨some 118, Op.pick (Operand.tmp 111) (Operand.tmp 117) (Operand.const (Value.bool false)), 4, _, _, none⟩) (v := .bool true) rfl (fun _ _ _ h => h) (by rfl) (by assumption) (fun wS hSw => ?_) ?_
  · (try dsimp only at hSw); go_simp
  simp only [Act.put, List.setIfInBounds_toArray, List.set_cons_zero, List.set_cons_succ]
  refine wpAnyT_end ?_
  refine wpAnyH_listed #[true, true, true, true, true, true, true, true, true, true, true, true, true, true, true, false, false, false, false, false, false, false, false, false] (by kernel_rfl) ?_
  refine wpAnyT_begin [15] (by kernel_rfl) (by kernel_rfl) ?_
  refine wpAnyT_take (oi := ⟨some 119, Op.move (Operand.tmp 118), 4, _, _, none⟩) (v := .bool true) rfl (fun _ _ _ h => h) (by rfl) (by assumption) (fun wS hSw => ?_) ?_
  · (try dsimp only at hSw); go_simp
  simp only [Act.put, List.setIfInBounds_toArray, List.set_cons_zero, List.set_cons_succ]
  refine wpAnyT_end ?_
  refine wpAnyH_listed #[true, true, true, true, true, true, true, true, true, true, true, true, true, true, true, true, false, false, false, false, false, false, false, false] (by kernel_rfl) ?_
  refine wpAnyT_begin [16, 17, 18] (by kernel_rfl) (by kernel_rfl) ?_
  refine wpAnyT_take (oi := ⟨some 120, Op.load 36 (Operand.tmp 5), 36, _, _, some (15, true)⟩) (v := .agg #[.int .i64 0, .int .i64 0]) rfl (fun _ _ _ h => h) (by rfl) (by assumption) (fun wS hSw => ?_) ?_
  · (try dsimp only at hSw); go_simp
  simp only [Act.put, List.setIfInBounds_toArray, List.set_cons_zero, List.set_cons_succ]
  refine wpAnyT_take (oi := ⟨some 121, Op.load 36 (Operand.tmp 6), 36, _, _, some (15, true)⟩) (v := .agg #[.int .i64 5, .int .i64 5]) rfl (fun _ _ _ h => h) (by rfl) (by assumption) (fun wS hSw => ?_) ?_
  · (try dsimp only at hSw); go_simp
  simp only [Act.put, List.setIfInBounds_toArray, List.set_cons_zero, List.set_cons_succ]
  refine wpAnyT_take (oi := ⟨some 122, Op.load 36 (Operand.tmp 7), 36, _, _, some (15, true)⟩) (v := .agg #[.int .i64 10, .int .i64 0]) rfl (fun _ _ _ h => h) (by rfl) (by assumption) (fun wS hSw => ?_) ?_
  · (try dsimp only at hSw); go_simp
  simp only [Act.put, List.setIfInBounds_toArray, List.set_cons_zero, List.set_cons_succ]
  refine wpAnyT_end ?_
  refine wpAnyH_listed #[true, true, true, true, true, true, true, true, true, true, true, true, true, true, true, true, true, true, true, false, false, false, false, false] (by kernel_rfl) ?_
  refine wpAnyH_ready (rs := [19]) (by kernel_rfl) (by simp) ?_
  refine AllReadyH.cons (o := ⟨some 123, Op.call { callee := Callee.value (Operand.func 22), args := #[Operand.const (Value.int IntKind.i64 5), Operand.const (Value.int IntKind.i64 9)], argTypes := #[3, 3] }, 36, _, _, some (15, true)⟩) rfl (fun K hK => ?_) AllReadyH.nil
  go_simp
  go_at_call 22
  refine (calls_two C60 (at_any 5 9 _)).mono ?_
  rintro e w61 ⟨rfl, C61, g61⟩
  go_wp2_with fail
  clear hHeld
  refine hK.out _ _ (HS.out _ C61) (fun hHeld => ?_)
  clear hK K
  try simp only [List.setIfInBounds_toArray, List.set_cons_zero, List.set_cons_succ]
  refine wpAnyH_listed #[true, true, true, true, true, true, true, true, true, true, true, true, true, true, true, true, true, true, true, true, false, false, false, false] (by kernel_rfl) ?_
  clear C60
  clear g61
  refine wpAnyH_ready (rs := [20]) (by kernel_rfl) (by simp) ?_
  refine AllReadyH.cons (o := ⟨some 124, Op.call { callee := Callee.value (Operand.func 22), args := #[Operand.const (Value.int IntKind.i64 5), Operand.const (Value.int IntKind.i64 5)], argTypes := #[3, 3] }, 36, _, _, some (15, true)⟩) rfl (fun K hK => ?_) AllReadyH.nil
  go_simp
  go_at_call 22
  refine (calls_two C61 (at_any 5 5 _)).mono ?_
  rintro e w62 ⟨rfl, C62, g62⟩
  go_wp2_with fail
  clear hHeld
  refine hK.out _ _ (HS.out _ C62) (fun hHeld => ?_)
  clear hK K
  try simp only [List.setIfInBounds_toArray, List.set_cons_zero, List.set_cons_succ]
  refine wpAnyH_listed #[true, true, true, true, true, true, true, true, true, true, true, true, true, true, true, true, true, true, true, true, true, false, false, false] (by kernel_rfl) ?_
  clear C61
  clear g62
  refine wpAnyH_ready (rs := [21]) (by kernel_rfl) (by simp) ?_
  refine AllReadyH.cons (o := ⟨some 125, Op.call { callee := Callee.value (Operand.func 30), args := #[Operand.tmp 120, Operand.tmp 121, Operand.tmp 122, Operand.tmp 123, Operand.tmp 124], argTypes := #[36, 36, 36, 36, 36] }, 4, _, _, some (15, true)⟩) rfl (fun K hK => ?_) AllReadyH.nil
  go_simp
  go_at_call 30
  refine (calls_two C62 (v30 0 0 5 5 10 0 5 9 5 5 _ true (by decide +kernel))).mono ?_
  rintro e w63 ⟨rfl, C63, g63⟩
  go_wp2_with fail
  clear hHeld
  refine hK.out _ _ (HS.out _ C63) (fun hHeld => ?_)
  clear hK K
  try simp only [List.setIfInBounds_toArray, List.set_cons_zero, List.set_cons_succ]
  refine wpAnyH_listed #[true, true, true, true, true, true, true, true, true, true, true, true, true, true, true, true, true, true, true, true, true, true, false, false] (by kernel_rfl) ?_
  clear C62
  clear g63
  refine wpAnyT_begin [22] (by kernel_rfl) (by kernel_rfl) ?_
  refine wpAnyT_take (oi := ⟨some 126, Op.pick (Operand.tmp 119) (Operand.tmp 125) (Operand.const (Value.bool false)), 4, _, _, none⟩) (v := .bool true) rfl (fun _ _ _ h => h) (by rfl) (by assumption) (fun wS hSw => ?_) ?_
  · (try dsimp only at hSw); go_simp
  simp only [Act.put, List.setIfInBounds_toArray, List.set_cons_zero, List.set_cons_succ]
  refine wpAnyT_end ?_
  refine wpAnyH_listed #[true, true, true, true, true, true, true, true, true, true, true, true, true, true, true, true, true, true, true, true, true, true, true, false] (by kernel_rfl) ?_
  refine wpAnyT_begin [23] (by kernel_rfl) (by kernel_rfl) ?_
  refine wpAnyT_take (oi := ⟨some 9, Op.assign (Operand.tmp 126), 4, _, _, none⟩) (v := .bool true) rfl (fun _ _ _ h => h) (by rfl) (by assumption) (fun wS hSw => ?_) ?_
  · (try dsimp only at hSw); go_simp
  simp only [Act.put, List.setIfInBounds_toArray, List.set_cons_zero, List.set_cons_succ]
  refine wpAnyT_end ?_
  refine wpAnyH_listed #[true, true, true, true, true, true, true, true, true, true, true, true, true, true, true, true, true, true, true, true, true, true, true, true] (by kernel_rfl) ?_
  refine wpAnyH_done (by kernel_rfl) ?_ _
  clear hHeld
  clear HS
  replace R4 := R4.later C63.low
  replace R9 := R9.later C63.low
  replace R16 := R16.later C63.low
  replace R21 := R21.later C63.low
  replace R25 := R25.later C63.low
  replace R27s := R27s.later C63.low
  replace R33 := R33.later C63.low
  replace R35s := R35s.later C63.low
  have C64 := C44.later C63.low
  clear C63 C44
  go_upto_region 9 with fail
  have C65 := C64.drew
  replace R4 := R4.later ((Below.refl _ w63).drew)
  replace R9 := R9.later ((Below.refl _ w63).drew)
  replace R16 := R16.later ((Below.refl _ w63).drew)
  replace R21 := R21.later ((Below.refl _ w63).drew)
  replace R25 := R25.later ((Below.refl _ w63).drew)
  replace R27s := R27s.later ((Below.refl _ w63).drew)
  replace R33 := R33.later ((Below.refl _ w63).drew)
  replace R35s := R35s.later ((Below.refl _ w63).drew)
  refine wp_region_held_drew (S := (fun w' => Has w [] w')) (by kernel_rfl) (C65) (fun hHeld => ?_)
  clear C64
  generalize w63.drew = w65 at *
  refine wpAnyT_begin [0] (by kernel_rfl) (by kernel_rfl) ?_
  refine wpAnyT_take (oi := ⟨some 127, Op.move (Operand.tmp 1), 23, _, _, none⟩) (v := .slice (some ⟨B4, 0, none⟩) 3 3) rfl (fun _ _ _ h => h) (by rfl) (by assumption) (fun wS hSw => ?_) ?_
  · (try dsimp only at hSw); go_simp
  simp only [Act.put, List.setIfInBounds_toArray, List.set_cons_zero, List.set_cons_succ]
  refine wpAnyT_end ?_
  refine wpAnyH_listed #[true, false, false, false, false, false, false, false, false, false, false, false, false, false, false, false, false, false, false, false, false, false, false] (by kernel_rfl) ?_
  refine wpAnyT_begin [1] (by kernel_rfl) (by kernel_rfl) ?_
  refine wpAnyT_take (oi := ⟨some 128, Op.slice 23 (Operand.tmp 127) none (some (Operand.const (Value.int IntKind.i64 2))) none, 23, _, _, none⟩) (v := .slice (some ⟨B4, 0, none⟩) 2 3) rfl (fun _ _ _ h => h) (by rfl) (by assumption) (fun wS hSw => ?_) ?_
  · (try dsimp only at hSw); go_simp
  simp only [Act.put, List.setIfInBounds_toArray, List.set_cons_zero, List.set_cons_succ]
  refine wpAnyT_end ?_
  refine wpAnyH_listed #[true, true, false, false, false, false, false, false, false, false, false, false, false, false, false, false, false, false, false, false, false, false, false] (by kernel_rfl) ?_
  refine wpAnyH_ready (rs := [2]) (by kernel_rfl) (by simp) ?_
  refine AllReadyH.cons (o := ⟨some 129, Op.call { callee := Callee.value (Operand.func 22), args := #[Operand.const (Value.int IntKind.i64 10), Operand.const (Value.int IntKind.i64 0)], argTypes := #[3, 3] }, 36, _, _, none⟩) rfl (fun K hK => ?_) AllReadyH.nil
  go_simp
  go_at_call 22
  refine (calls_two C65 (at_any 10 0 _)).mono ?_
  rintro e w66 ⟨rfl, C66, g66⟩
  go_wp2_with fail
  clear hHeld
  refine hK.out _ _ (C66) (fun hHeld => ?_)
  clear hK K
  try simp only [List.setIfInBounds_toArray, List.set_cons_zero, List.set_cons_succ]
  refine wpAnyH_listed #[true, true, true, false, false, false, false, false, false, false, false, false, false, false, false, false, false, false, false, false, false, false, false] (by kernel_rfl) ?_
  replace R4 := R4.later g66
  replace R9 := R9.later g66
  replace R16 := R16.later g66
  replace R21 := R21.later g66
  replace R25 := R25.later g66
  replace R27s := R27s.later g66
  replace R33 := R33.later g66
  replace R35s := R35s.later g66
  clear C65
  clear g66
  refine wpAnyH_ready (rs := [3]) (by kernel_rfl) (by simp) ?_
  refine AllReadyH.cons (o := ⟨some 130, Op.call { callee := Callee.value (Operand.func 22), args := #[Operand.const (Value.int IntKind.i64 10), Operand.const (Value.int IntKind.i64 9)], argTypes := #[3, 3] }, 36, _, _, none⟩) rfl (fun K hK => ?_) AllReadyH.nil
  go_simp
  go_at_call 22
  refine (calls_two C66 (at_any 10 9 _)).mono ?_
  rintro e w67 ⟨rfl, C67, g67⟩
  go_wp2_with fail
  clear hHeld
  refine hK.out _ _ (C67) (fun hHeld => ?_)
  clear hK K
  try simp only [List.setIfInBounds_toArray, List.set_cons_zero, List.set_cons_succ]
  refine wpAnyH_listed #[true, true, true, true, false, false, false, false, false, false, false, false, false, false, false, false, false, false, false, false, false, false, false] (by kernel_rfl) ?_
  replace R4 := R4.later g67
  replace R9 := R9.later g67
  replace R16 := R16.later g67
  replace R21 := R21.later g67
  replace R25 := R25.later g67
  replace R27s := R27s.later g67
  replace R33 := R33.later g67
  replace R35s := R35s.later g67
  clear C66
  clear g67
  refine wpAnyH_ready (rs := [4]) (by kernel_rfl) (by simp) ?_
  refine AllReadyH.cons (o := ⟨some 131, Op.buildSlice 23 2 #[(0, Operand.tmp 129), (1, Operand.tmp 130)], 23, _, _, none⟩) rfl (fun K hK => ?_) AllReadyH.nil
  obtain ⟨C68a, R68⟩ := one_row C67 rfl [(10, 0), (10, 9)] (by simp)
  have C68 := C68a.tail
  clear C68a
  have ga68 := (Below.refl w67.heap.size w67).alloc (Nat.le_refl _) (.cells (flat [(10, 0), (10, 9)]).toArray 36)
  replace R4 := R4.later ga68
  replace R9 := R9.later ga68
  replace R16 := R16.later ga68
  replace R21 := R21.later ga68
  replace R25 := R25.later ga68
  replace R27s := R27s.later ga68
  replace R33 := R33.later ga68
  replace R35s := R35s.later ga68
  clear ga68
  go_simp
  change RowP (w67.alloc (.cells #[.int .i64 10, .int .i64 0, .int .i64 10, .int .i64 9] 36)) _ _ at R4
  change RowP (w67.alloc (.cells #[.int .i64 10, .int .i64 0, .int .i64 10, .int .i64 9] 36)) _ _ at R9
  change RowP (w67.alloc (.cells #[.int .i64 10, .int .i64 0, .int .i64 10, .int .i64 9] 36)) _ _ at R16
  change RowP (w67.alloc (.cells #[.int .i64 10, .int .i64 0, .int .i64 10, .int .i64 9] 36)) _ _ at R21
  change RowP (w67.alloc (.cells #[.int .i64 10, .int .i64 0, .int .i64 10, .int .i64 9] 36)) _ _ at R25
  change RowP (w67.alloc (.cells #[.int .i64 10, .int .i64 0, .int .i64 10, .int .i64 9] 36)) _ _ at R27s
  change RowP (w67.alloc (.cells #[.int .i64 10, .int .i64 0, .int .i64 10, .int .i64 9] 36)) _ _ at R33
  change RowP (w67.alloc (.cells #[.int .i64 10, .int .i64 0, .int .i64 10, .int .i64 9] 36)) _ _ at R35s
  change RowP (w67.alloc (.cells #[.int .i64 10, .int .i64 0, .int .i64 10, .int .i64 9] 36)) (.slice (some ⟨w67.heap.size, 0, none⟩) 2 2) _ at R68
  change Has w _ (w67.alloc (.cells #[.int .i64 10, .int .i64 0, .int .i64 10, .int .i64 9] 36)) at C68
  clear C67
  generalize w67.alloc (.cells #[.int .i64 10, .int .i64 0, .int .i64 10, .int .i64 9] 36) = w68 at *
  generalize w67.heap.size = B68 at *
  clear hHeld
  refine hK.out _ _ (C68) (fun hHeld => ?_)
  clear hK K
  try simp only [List.setIfInBounds_toArray, List.set_cons_zero, List.set_cons_succ]
  refine wpAnyH_listed #[true, true, true, true, true, false, false, false, false, false, false, false, false, false, false, false, false, false, false, false, false, false, false] (by kernel_rfl) ?_
  refine wpAnyH_ready (rs := [5]) (by kernel_rfl) (by simp) ?_
  refine AllReadyH.cons (o := ⟨some 132, Op.call { callee := Callee.value (Operand.func 26), args := #[Operand.tmp 128, Operand.tmp 131], argTypes := #[23, 23] }, 4, _, _, none⟩) rfl (fun K hK => ?_) AllReadyH.nil
  go_simp
  go_at_call 26
  refine (calls_two C68 (v26 _ _ _ _ _ R35s R68 false (by decide +kernel))).mono ?_
  rintro e w69 ⟨rfl, C69, g69⟩
  go_wp2_with fail
  clear hHeld
  refine hK.out _ _ (C69) (fun hHeld => ?_)
  clear hK K
  try simp only [List.setIfInBounds_toArray, List.set_cons_zero, List.set_cons_succ]
  refine wpAnyH_listed #[true, true, true, true, true, true, false, false, false, false, false, false, false, false, false, false, false, false, false, false, false, false, false] (by kernel_rfl) ?_
  replace R4 := R4.later g69
  replace R9 := R9.later g69
  replace R16 := R16.later g69
  replace R21 := R21.later g69
  replace R25 := R25.later g69
  replace R27s := R27s.later g69
  replace R33 := R33.later g69
  replace R35s := R35s.later g69
  replace R68 := R68.later g69
  clear C68
  clear g69
  refine wpAnyT_begin [6] (by kernel_rfl) (by kernel_rfl) ?_
  refine wpAnyT_take (oi := ⟨some 133, Op.unOp UnOp.not 4 (Operand.tmp 132), 4, _, _, none⟩) (v := .bool true) rfl (fun _ _ _ h => h) (by rfl) (by assumption) (fun wS hSw => ?_) ?_
  · (try dsimp only at hSw); go_simp
  simp only [Act.put, List.setIfInBounds_toArray, List.set_cons_zero, List.set_cons_succ]
  refine wpAnyT_end ?_
  refine wpAnyH_listed #[true, true, true, true, true, true, true, false, false, false, false, false, false, false, false, false, false, false, false, false, false, false, false] (by kernel_rfl) ?_
  refine wpAnyT_begin [7] (by kernel_rfl) (by kernel_rfl) ?_
  refine wpAnyT_take (oi := ⟨some 134, Op.move (Operand.tmp 133), 4, _, _, none⟩) (v := .bool true) rfl (fun _ _ _ h => h) (by rfl) (by assumption) (fun wS hSw => ?_) ?_
  · (try dsimp only at hSw); go_simp
  simp only [Act.put, List.setIfInBounds_toArray, List.set_cons_zero, List.set_cons_succ]
  refine wpAnyT_end ?_
  refine wpAnyH_listed #[true, true, true, true, true, true, true, true, false, false, false, false, false, false, false, false, false, false, false, false, false, false, false] (by kernel_rfl) ?_
  refine wpAnyT_begin [8] (by kernel_rfl) (by kernel_rfl) ?_
  refine wpAnyT_take (oi := ⟨some 135, Op.move (Operand.tmp 1), 23, _, _, some (7, true)⟩) (v := .slice (some ⟨B4, 0, none⟩) 3 3) rfl (fun _ _ _ h => h) (by rfl) (by assumption) (fun wS hSw => ?_) ?_
  · (try dsimp only at hSw); go_simp
  simp only [Act.put, List.setIfInBounds_toArray, List.set_cons_zero, List.set_cons_succ]
  refine wpAnyT_end ?_
  refine wpAnyH_listed #[true, true, true, true, true, true, true, true, true, false, false, false, false, false, false, false, false, false, false, false, false, false, false] (by kernel_rfl) ?_
  refine wpAnyT_begin [9] (by kernel_rfl) (by kernel_rfl) ?_
  refine wpAnyT_take (oi := ⟨some 136, Op.slice 23 (Operand.tmp 135) none (some (Operand.const (Value.int IntKind.i64 2))) none, 23, _, _, some (7, true)⟩) (v := .slice (some ⟨B4, 0, none⟩) 2 3) rfl (fun _ _ _ h => h) (by rfl) (by assumption) (fun wS hSw => ?_) ?_
  · (try dsimp only at hSw); go_simp
  simp only [Act.put, List.setIfInBounds_toArray, List.set_cons_zero, List.set_cons_succ]
  refine wpAnyT_end ?_
  refine wpAnyH_listed #[true, true, true, true, true, true, true, true, true, true, false, false, false, false, false, false, false, false, false, false, false, false, false] (by kernel_rfl) ?_
  refine wpAnyH_ready (rs := [10]) (by kernel_rfl) (by simp) ?_
  refine AllReadyH.cons (o := ⟨some 137, Op.call { callee := Callee.value (Operand.func 22), args := #[Operand.const (Value.int IntKind.i64 5), Operand.const (Value.int IntKind.i64 0)], argTypes := #[3, 3] }, 36, _, _, some (7, true)⟩) rfl (fun K hK => ?_) AllReadyH.nil
  go_simp
  go_at_call 22
  refine (calls_two C69 (at_any 5 0 _)).mono ?_
  rintro e w70 ⟨rfl, C70, g70⟩
  go_wp2_with fail
  clear hHeld
  refine hK.out _ _ (C70) (fun hHeld => ?_)
  clear hK K
  try simp only [List.setIfInBounds_toArray, List.set_cons_zero, List.set_cons_succ]
  refine wpAnyH_listed #[true, true, true, true, true, true, true, true, true, true, true, false, false, false, false, false, false, false, false, false, false, false, false] (by kernel_rfl) ?_
  replace R4 := R4.later g70
  replace R9 := R9.later g70
  replace R16 := R16.later g70
  replace R21 := R21.later g70
  replace R25 := R25.later g70
  replace R27s := R27s.later g70
  replace R33 := R33.later g70
  replace R35s := R35s.later g70
  replace R68 := R68.later g70
  clear C69
  clear g70
  refine wpAnyH_ready (rs := [11]) (by kernel_rfl) (by simp) ?_
  refine AllReadyH.cons (o := ⟨some 138, Op.call { callee := Callee.value (Operand.func 22), args := #[Operand.const (Value.int IntKind.i64 5), Operand.const (Value.int IntKind.i64 9)], argTypes := #[3, 3] }, 36, _, _, some (7, true)⟩) rfl (fun K hK => ?_) AllReadyH.nil
  go_simp
  go_at_call 22
  refine (calls_two C70 (at_any 5 9 _)).mono ?_
  rintro e w71 ⟨rfl, C71, g71⟩
  go_wp2_with fail
  clear hHeld
  refine hK.out _ _ (C71) (fun hHeld => ?_)
  clear hK K
  try simp only [List.setIfInBounds_toArray, List.set_cons_zero, List.set_cons_succ]
  refine wpAnyH_listed #[true, true, true, true, true, true, true, true, true, true, true, true, false, false, false, false, false, false, false, false, false, false, false] (by kernel_rfl) ?_
  replace R4 := R4.later g71
  replace R9 := R9.later g71
  replace R16 := R16.later g71
  replace R21 := R21.later g71
  replace R25 := R25.later g71
  replace R27s := R27s.later g71
  replace R33 := R33.later g71
  replace R35s := R35s.later g71
  replace R68 := R68.later g71
  clear C70
  clear g71
  refine wpAnyH_ready (rs := [12]) (by kernel_rfl) (by simp) ?_
  refine AllReadyH.cons (o := ⟨some 139, Op.buildSlice 23 2 #[(0, Operand.tmp 137), (1, Operand.tmp 138)], 23, _, _, some (7, true)⟩) rfl (fun K hK => ?_) AllReadyH.nil
  obtain ⟨C72a, R72⟩ := one_row C71 rfl [(5, 0), (5, 9)] (by simp)
  have C72 := C72a.tail
  clear C72a
  have ga72 := (Below.refl w71.heap.size w71).alloc (Nat.le_refl _) (.cells (flat [(5, 0), (5, 9)]).toArray 36)
  replace R4 := R4.later ga72
  replace R9 := R9.later ga72
  replace R16 := R16.later ga72
  replace R21 := R21.later ga72
  replace R25 := R25.later ga72
  replace R27s := R27s.later ga72
  replace R33 := R33.later ga72
  replace R35s := R35s.later ga72
  replace R68 := R68.later ga72
  clear ga72
  go_simp
  change RowP (w71.alloc (.cells #[.int .i64 5, .int .i64 0, .int .i64 5, .int .i64 9] 36)) _ _ at R4
  change RowP (w71.alloc (.cells #[.int .i64 5, .int .i64 0, .int .i64 5, .int .i64 9] 36)) _ _ at R9
  change RowP (w71.alloc (.cells #[.int .i64 5, .int .i64 0, .int .i64 5, .int .i64 9] 36)) _ _ at R16
  change RowP (w71.alloc (.cells #[.int .i64 5, .int .i64 0, .int .i64 5, .int .i64 9] 36)) _ _ at R21
  change RowP (w71.alloc (.cells #[.int .i64 5, .int .i64 0, .int .i64 5, .int .i64 9] 36)) _ _ at R25
  change RowP (w71.alloc (.cells #[.int .i64 5, .int .i64 0, .int .i64 5, .int .i64 9] 36)) _ _ at R27s
  change RowP (w71.alloc (.cells #[.int .i64 5, .int .i64 0, .int .i64 5, .int .i64 9] 36)) _ _ at R33
  change RowP (w71.alloc (.cells #[.int .i64 5, .int .i64 0, .int .i64 5, .int .i64 9] 36)) _ _ at R35s
  change RowP (w71.alloc (.cells #[.int .i64 5, .int .i64 0, .int .i64 5, .int .i64 9] 36)) _ _ at R68
  change RowP (w71.alloc (.cells #[.int .i64 5, .int .i64 0, .int .i64 5, .int .i64 9] 36)) (.slice (some ⟨w71.heap.size, 0, none⟩) 2 2) _ at R72
  change Has w _ (w71.alloc (.cells #[.int .i64 5, .int .i64 0, .int .i64 5, .int .i64 9] 36)) at C72
  clear C71
  generalize w71.alloc (.cells #[.int .i64 5, .int .i64 0, .int .i64 5, .int .i64 9] 36) = w72 at *
  generalize w71.heap.size = B72 at *
  clear hHeld
  refine hK.out _ _ (C72) (fun hHeld => ?_)
  clear hK K
  try simp only [List.setIfInBounds_toArray, List.set_cons_zero, List.set_cons_succ]
  refine wpAnyH_listed #[true, true, true, true, true, true, true, true, true, true, true, true, true, false, false, false, false, false, false, false, false, false, false] (by kernel_rfl) ?_
  refine wpAnyH_ready (rs := [13]) (by kernel_rfl) (by simp) ?_
  refine AllReadyH.cons (o := ⟨some 140, Op.call { callee := Callee.value (Operand.func 26), args := #[Operand.tmp 136, Operand.tmp 139], argTypes := #[23, 23] }, 4, _, _, some (7, true)⟩) rfl (fun K hK => ?_) AllReadyH.nil
  go_simp
  go_at_call 26
  refine (calls_two C72 (v26 _ _ _ _ _ R35s R72 true (by decide +kernel))).mono ?_
  rintro e w73 ⟨rfl, C73, g73⟩
  go_wp2_with fail
  clear hHeld
  refine hK.out _ _ (C73) (fun hHeld => ?_)
  clear hK K
  try simp only [List.setIfInBounds_toArray, List.set_cons_zero, List.set_cons_succ]
  refine wpAnyH_listed #[true, true, true, true, true, true, true, true, true, true, true, true, true, true, false, false, false, false, false, false, false, false, false] (by kernel_rfl) ?_
  replace R4 := R4.later g73
  replace R9 := R9.later g73
  replace R16 := R16.later g73
  replace R21 := R21.later g73
  replace R25 := R25.later g73
  replace R27s := R27s.later g73
  replace R33 := R33.later g73
  replace R35s := R35s.later g73
  replace R68 := R68.later g73
  replace R72 := R72.later g73
  clear C72
  clear g73
  refine wpAnyT_begin [14] (by kernel_rfl) (by kernel_rfl) ?_
  refine wpAnyT_take (oi := ⟨some 141, Op.pick (Operand.tmp 134) (Operand.tmp 140) (Operand.const (Value.bool false)), 4, _, _, none⟩) (v := .bool true) rfl (fun _ _ _ h => h) (by rfl) (by assumption) (fun wS hSw => ?_) ?_
  · (try dsimp only at hSw); go_simp
  simp only [Act.put, List.setIfInBounds_toArray, List.set_cons_zero, List.set_cons_succ]
  refine wpAnyT_end ?_
  refine wpAnyH_listed #[true, true, true, true, true, true, true, true, true, true, true, true, true, true, true, false, false, false, false, false, false, false, false] (by kernel_rfl) ?_
  refine wpAnyT_begin [15] (by kernel_rfl) (by kernel_rfl) ?_
  refine wpAnyT_take (oi := ⟨some 142, Op.move (Operand.tmp 141), 4, _, _, none⟩) (v := .bool true) rfl (fun _ _ _ h => h) (by rfl) (by assumption) (fun wS hSw => ?_) ?_
  · (try dsimp only at hSw); go_simp
  simp only [Act.put, List.setIfInBounds_toArray, List.set_cons_zero, List.set_cons_succ]
  refine wpAnyT_end ?_
  refine wpAnyH_listed #[true, true, true, true, true, true, true, true, true, true, true, true, true, true, true, true, false, false, false, false, false, false, false] (by kernel_rfl) ?_
  refine wpAnyT_begin [16, 18] (by kernel_rfl) (by kernel_rfl) ?_
  refine wpAnyT_take (oi := ⟨some 143, Op.move (Operand.tmp 1), 23, _, _, some (15, true)⟩) (v := .slice (some ⟨B4, 0, none⟩) 3 3) rfl (fun _ _ _ h => h) (by rfl) (by assumption) (fun wS hSw => ?_) ?_
  · (try dsimp only at hSw); go_simp
  simp only [Act.put, List.setIfInBounds_toArray, List.set_cons_zero, List.set_cons_succ]
  refine wpAnyT_take (oi := ⟨some 145, Op.move (Operand.tmp 1), 23, _, _, some (15, true)⟩) (v := .slice (some ⟨B4, 0, none⟩) 3 3) rfl (fun _ _ _ h => h) (by rfl) (by assumption) (fun wS hSw => ?_) ?_
  · (try dsimp only at hSw); go_simp
  simp only [Act.put, List.setIfInBounds_toArray, List.set_cons_zero, List.set_cons_succ]
  refine wpAnyT_end ?_
  refine wpAnyH_listed #[true, true, true, true, true, true, true, true, true, true, true, true, true, true, true, true, true, false, true, false, false, false, false] (by kernel_rfl) ?_
  refine wpAnyT_begin [17, 19] (by kernel_rfl) (by kernel_rfl) ?_
  refine wpAnyT_take (oi := ⟨some 144, Op.slice 23 (Operand.tmp 143) none (some (Operand.const (Value.int IntKind.i64 2))) none, 23, _, _, some (15, true)⟩) (v := .slice (some ⟨B4, 0, none⟩) 2 3) rfl (fun _ _ _ h => h) (by rfl) (by assumption) (fun wS hSw => ?_) ?_
  · (try dsimp only at hSw); go_simp
  simp only [Act.put, List.setIfInBounds_toArray, List.set_cons_zero, List.set_cons_succ]
  refine wpAnyT_take (oi := ⟨some 146, Op.slice 23 (Operand.tmp 145) none (some (Operand.const (Value.int IntKind.i64 2))) none, 23, _, _, some (15, true)⟩) (v := .slice (some ⟨B4, 0, none⟩) 2 3) rfl (fun _ _ _ h => h) (by rfl) (by assumption) (fun wS hSw => ?_) ?_
  · (try dsimp only at hSw); go_simp
  simp only [Act.put, List.setIfInBounds_toArray, List.set_cons_zero, List.set_cons_succ]
  refine wpAnyT_end ?_
  refine wpAnyH_listed #[true, true, true, true, true, true, true, true, true, true, true, true, true, true, true, true, true, true, true, true, false, false, false] (by kernel_rfl) ?_
  refine wpAnyH_ready (rs := [20]) (by kernel_rfl) (by simp) ?_
  refine AllReadyH.cons (o := ⟨some 147, Op.call { callee := Callee.value (Operand.func 26), args := #[Operand.tmp 144, Operand.tmp 146], argTypes := #[23, 23] }, 4, _, _, some (15, true)⟩) rfl (fun K hK => ?_) AllReadyH.nil
  go_simp
  go_at_call 26
  refine (calls_two C73 (v26 _ _ _ _ _ R35s R35s true (by decide +kernel))).mono ?_
  rintro e w74 ⟨rfl, C74, g74⟩
  go_wp2_with fail
  clear hHeld
  refine hK.out _ _ (C74) (fun hHeld => ?_)
  clear hK K
  try simp only [List.setIfInBounds_toArray, List.set_cons_zero, List.set_cons_succ]
  refine wpAnyH_listed #[true, true, true, true, true, true, true, true, true, true, true, true, true, true, true, true, true, true, true, true, true, false, false] (by kernel_rfl) ?_
  replace R4 := R4.later g74
  replace R9 := R9.later g74
  replace R16 := R16.later g74
  replace R21 := R21.later g74
  replace R25 := R25.later g74
  replace R27s := R27s.later g74
  replace R33 := R33.later g74
  replace R35s := R35s.later g74
  replace R68 := R68.later g74
  replace R72 := R72.later g74
  clear C73
  clear g74
  refine wpAnyT_begin [21] (by kernel_rfl) (by kernel_rfl) ?_
  refine wpAnyT_take (oi := ⟨some 148, Op.pick (Operand.tmp 142) (Operand.tmp 147) (Operand.const (Value.bool false)), 4, _, _, none⟩) (v := .bool true) rfl (fun _ _ _ h => h) (by rfl) (by assumption) (fun wS hSw => ?_) ?_
  · (try dsimp only at hSw); go_simp
  simp only [Act.put, List.setIfInBounds_toArray, List.set_cons_zero, List.set_cons_succ]
  refine wpAnyT_end ?_
  refine wpAnyH_listed #[true, true, true, true, true, true, true, true, true, true, true, true, true, true, true, true, true, true, true, true, true, true, false] (by kernel_rfl) ?_
  refine wpAnyT_begin [22] (by kernel_rfl) (by kernel_rfl) ?_
  refine wpAnyT_take (oi := ⟨some 10, Op.assign (Operand.tmp 148), 4, _, _, none⟩) (v := .bool true) rfl (fun _ _ _ h => h) (by rfl) (by assumption) (fun wS hSw => ?_) ?_
  · (try dsimp only at hSw); go_simp
  simp only [Act.put, List.setIfInBounds_toArray, List.set_cons_zero, List.set_cons_succ]
  refine wpAnyT_end ?_
  refine wpAnyH_listed #[true, true, true, true, true, true, true, true, true, true, true, true, true, true, true, true, true, true, true, true, true, true, true] (by kernel_rfl) ?_
  refine wpAnyH_done (by kernel_rfl) ?_ _
  clear hHeld
  go_wp2_with fail
  refine (lreverse_any _ _ _ R4 (by decide)).mono ?_
  rintro e w75 ⟨u75, rfl, hO75, g75⟩
  have C75 := C74.later g75
  replace R4 := R4.later g75
  replace R9 := R9.later g75
  replace R16 := R16.later g75
  replace R21 := R21.later g75
  replace R25 := R25.later g75
  replace R27s := R27s.later g75
  replace R33 := R33.later g75
  replace R35s := R35s.later g75
  replace R68 := R68.later g75
  replace R72 := R72.later g75
  clear C74
  have R75 := hO75.row
  clear hO75 g75
  go_wp2_with fail
  refine (calls_two C75 (at_any 10 10 _)).mono ?_
  rintro e w76 ⟨rfl, C76, g76⟩
  replace R4 := R4.later g76
  replace R9 := R9.later g76
  replace R16 := R16.later g76
  replace R21 := R21.later g76
  replace R25 := R25.later g76
  replace R27s := R27s.later g76
  replace R33 := R33.later g76
  replace R35s := R35s.later g76
  replace R68 := R68.later g76
  replace R72 := R72.later g76
  replace R75 := R75.later g76
  clear C75
  clear g76
  go_wp2_with fail
  refine (calls_two C76 (at_any 10 0 _)).mono ?_
  rintro e w77 ⟨rfl, C77, g77⟩
  replace R4 := R4.later g77
  replace R9 := R9.later g77
  replace R16 := R16.later g77
  replace R21 := R21.later g77
  replace R25 := R25.later g77
  replace R27s := R27s.later g77
  replace R33 := R33.later g77
  replace R35s := R35s.later g77
  replace R68 := R68.later g77
  replace R72 := R72.later g77
  replace R75 := R75.later g77
  clear C76
  clear g77
  go_wp2_with fail
  refine (calls_two C77 (at_any 0 0 _)).mono ?_
  rintro e w78 ⟨rfl, C78, g78⟩
  replace R4 := R4.later g78
  replace R9 := R9.later g78
  replace R16 := R16.later g78
  replace R21 := R21.later g78
  replace R25 := R25.later g78
  replace R27s := R27s.later g78
  replace R33 := R33.later g78
  replace R35s := R35s.later g78
  replace R68 := R68.later g78
  replace R72 := R72.later g78
  replace R75 := R75.later g78
  clear C77
  clear g78
  obtain ⟨C79a, R79⟩ := one_row C78 rfl [(10, 10), (10, 0), (0, 0)] (by simp)
  have C79 := C79a.tail
  clear C79a
  have ga79 := (Below.refl w78.heap.size w78).alloc (Nat.le_refl _) (.cells (flat [(10, 10), (10, 0), (0, 0)]).toArray 36)
  replace R4 := R4.later ga79
  replace R9 := R9.later ga79
  replace R16 := R16.later ga79
  replace R21 := R21.later ga79
  replace R25 := R25.later ga79
  replace R27s := R27s.later ga79
  replace R33 := R33.later ga79
  replace R35s := R35s.later ga79
  replace R68 := R68.later ga79
  replace R72 := R72.later ga79
  replace R75 := R75.later ga79
  clear ga79
  go_wp2_with fail
  change RowP (w78.alloc (.cells #[.int .i64 10, .int .i64 10, .int .i64 10, .int .i64 0, .int .i64 0, .int .i64 0] 36)) _ _ at R4
  change RowP (w78.alloc (.cells #[.int .i64 10, .int .i64 10, .int .i64 10, .int .i64 0, .int .i64 0, .int .i64 0] 36)) _ _ at R9
  change RowP (w78.alloc (.cells #[.int .i64 10, .int .i64 10, .int .i64 10, .int .i64 0, .int .i64 0, .int .i64 0] 36)) _ _ at R16
  change RowP (w78.alloc (.cells #[.int .i64 10, .int .i64 10, .int .i64 10, .int .i64 0, .int .i64 0, .int .i64 0] 36)) _ _ at R21
  change RowP (w78.alloc (.cells #[.int .i64 10, .int .i64 10, .int .i64 10, .int .i64 0, .int .i64 0, .int .i64 0] 36)) _ _ at R25
  change RowP (w78.alloc (.cells #[.int .i64 10, .int .i64 10, .int .i64 10, .int .i64 0, .int .i64 0, .int .i64 0] 36)) _ _ at R27s
  change RowP (w78.alloc (.cells #[.int .i64 10, .int .i64 10, .int .i64 10, .int .i64 0, .int .i64 0, .int .i64 0] 36)) _ _ at R33
  change RowP (w78.alloc (.cells #[.int .i64 10, .int .i64 10, .int .i64 10, .int .i64 0, .int .i64 0, .int .i64 0] 36)) _ _ at R35s
  change RowP (w78.alloc (.cells #[.int .i64 10, .int .i64 10, .int .i64 10, .int .i64 0, .int .i64 0, .int .i64 0] 36)) _ _ at R68
  change RowP (w78.alloc (.cells #[.int .i64 10, .int .i64 10, .int .i64 10, .int .i64 0, .int .i64 0, .int .i64 0] 36)) _ _ at R72
  change RowP (w78.alloc (.cells #[.int .i64 10, .int .i64 10, .int .i64 10, .int .i64 0, .int .i64 0, .int .i64 0] 36)) _ _ at R75
  change RowP (w78.alloc (.cells #[.int .i64 10, .int .i64 10, .int .i64 10, .int .i64 0, .int .i64 0, .int .i64 0] 36)) (.slice (some ⟨w78.heap.size, 0, none⟩) 3 3) _ at R79
  change Has w _ (w78.alloc (.cells #[.int .i64 10, .int .i64 10, .int .i64 10, .int .i64 0, .int .i64 0, .int .i64 0] 36)) at C79
  clear C78
  generalize w78.alloc (.cells #[.int .i64 10, .int .i64 10, .int .i64 10, .int .i64 0, .int .i64 0, .int .i64 0] 36) = w79 at *
  generalize w78.heap.size = B79 at *
  refine (calls_two C79 (v21 _ _ _ _ _ R75 R79 true (by decide +kernel))).mono ?_
  rintro e w80 ⟨rfl, C80, g80⟩
  replace R4 := R4.later g80
  replace R9 := R9.later g80
  replace R16 := R16.later g80
  replace R21 := R21.later g80
  replace R25 := R25.later g80
  replace R27s := R27s.later g80
  replace R33 := R33.later g80
  replace R35s := R35s.later g80
  replace R68 := R68.later g80
  replace R72 := R72.later g80
  replace R75 := R75.later g80
  replace R79 := R79.later g80
  clear C79
  clear g80
  go_wp2_with fail
  go_ret
  exact ⟨rfl, C80.low⟩

end Go.Proofs.Ytkejilomempogaa
