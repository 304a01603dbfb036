/- The examples at the head of every law. -/
import Derived.Test.YtmldgjhecoeldaaMv
import Derived.Test.YtmldgjhecoeldaaRaS
import Derived.Test.YtmldgjhecoeldaaIns
import Derived.Test.YtmldgjhecoeldaaRCk
namespace Go.Proofs.Ytmldgjhecoeldaa
open Go.RowKit Go.Lib

theorem area_is (v : Value) (ps : List (Int × Int)) (w : World) (hv : RowP w v ps) (r : Int) (h : areaP ps = r) : Calls Try.prog 16 #[v] w fun e w' => e = .returned (.int .i64 r) ∧ Below w.heap.size w w' := h ▸ area_any v ps w hv
theorem inside_is (v : Value) (ps : List (Int × Int)) (p0 p1 : Int) (w : World) (hv : RowP w v ps) (r : Int) (h : insC ps (p0, p1) = r) : Calls Try.prog 18 #[v, .agg #[.int .i64 p0, .int .i64 p1]] w fun e w' => e = .returned (.int .i64 r) ∧ Below w.heap.size w w' := h ▸ inside_any v ps p0 p1 w hv
attribute [local go_sem] Oper.semAt_some
set_option linter.unusedSimpArgs false in
set_option linter.unusedVariables false in
set_option maxRecDepth 100000 in
set_option maxHeartbeats 16000000 in
theorem sane_any (w : World) : Calls Try.prog 10 #[] w fun e w' => e = .returned (.bool true) ∧ Below w.heap.size w w' := by
  have C0 : Has w [] w := Has.nil (Below.refl _ _)
  go_enter Try.func10, Try.ntmps10
  go_wp2_with fail
  refine (calls_two C0 (at_any 0 0 _)).mono ?_
  rintro e w1 ⟨rfl, C1, g1⟩
  clear C0
  clear g1
  go_wp2_with fail
  refine (calls_two C1 (at_any 4 0 _)).mono ?_
  rintro e w2 ⟨rfl, C2, g2⟩
  clear C1
  clear g2
  go_wp2_with fail
  refine (calls_two C2 (at_any 4 4 _)).mono ?_
  rintro e w3 ⟨rfl, C3, g3⟩
  clear C2
  clear g3
  go_wp2_with fail
  refine (calls_two C3 (at_any 2 1 _)).mono ?_
  rintro e w4 ⟨rfl, C4, g4⟩
  clear C3
  clear g4
  go_wp2_with fail
  refine (calls_two C4 (at_any 0 4 _)).mono ?_
  rintro e w5 ⟨rfl, C5, g5⟩
  clear C4
  clear g5
  obtain ⟨C6a, R6⟩ := one_row C5 rfl [(0, 0), (4, 0), (4, 4), (2, 1), (0, 4)] (by simp)
  have C6 := C6a.tail
  clear C6a
  have ga6 := (Below.refl w5.heap.size w5).alloc (Nat.le_refl _) (.cells (flat [(0, 0), (4, 0), (4, 4), (2, 1), (0, 4)]).toArray 24)
  clear ga6
  go_wp2_with fail
  change RowP (w5.alloc (.cells #[.int .i64 0, .int .i64 0, .int .i64 4, .int .i64 0, .int .i64 4, .int .i64 4, .int .i64 2, .int .i64 1, .int .i64 0, .int .i64 4] 24)) (.slice (some ⟨w5.heap.size, 0, none⟩) 5 5) _ at R6
  change Has w _ (w5.alloc (.cells #[.int .i64 0, .int .i64 0, .int .i64 4, .int .i64 0, .int .i64 4, .int .i64 4, .int .i64 2, .int .i64 1, .int .i64 0, .int .i64 4] 24)) at C6
  clear C5
  generalize w5.alloc (.cells #[.int .i64 0, .int .i64 0, .int .i64 4, .int .i64 0, .int .i64 4, .int .i64 4, .int .i64 2, .int .i64 1, .int .i64 0, .int .i64 4] 24) = w6 at *
  generalize w5.heap.size = B6 at *
  refine (calls_two C6 (at_any 0 4 _)).mono ?_
  rintro e w7 ⟨rfl, C7, g7⟩
  replace R6 := R6.later g7
  clear C6
  clear g7
  go_wp2_with fail
  refine (calls_two C7 (at_any 2 1 _)).mono ?_
  rintro e w8 ⟨rfl, C8, g8⟩
  replace R6 := R6.later g8
  clear C7
  clear g8
  go_wp2_with fail
  refine (calls_two C8 (at_any 4 4 _)).mono ?_
  rintro e w9 ⟨rfl, C9, g9⟩
  replace R6 := R6.later g9
  clear C8
  clear g9
  go_wp2_with fail
  refine (calls_two C9 (at_any 4 0 _)).mono ?_
  rintro e w10 ⟨rfl, C10, g10⟩
  replace R6 := R6.later g10
  clear C9
  clear g10
  go_wp2_with fail
  refine (calls_two C10 (at_any 0 0 _)).mono ?_
  rintro e w11 ⟨rfl, C11, g11⟩
  replace R6 := R6.later g11
  clear C10
  clear g11
  obtain ⟨C12a, R12⟩ := one_row C11 rfl [(0, 4), (2, 1), (4, 4), (4, 0), (0, 0)] (by simp)
  have C12 := C12a.tail
  clear C12a
  have ga12 := (Below.refl w11.heap.size w11).alloc (Nat.le_refl _) (.cells (flat [(0, 4), (2, 1), (4, 4), (4, 0), (0, 0)]).toArray 24)
  replace R6 := R6.later ga12
  clear ga12
  go_wp2_with fail
  change RowP (w11.alloc (.cells #[.int .i64 0, .int .i64 4, .int .i64 2, .int .i64 1, .int .i64 4, .int .i64 4, .int .i64 4, .int .i64 0, .int .i64 0, .int .i64 0] 24)) _ _ at R6
  change RowP (w11.alloc (.cells #[.int .i64 0, .int .i64 4, .int .i64 2, .int .i64 1, .int .i64 4, .int .i64 4, .int .i64 4, .int .i64 0, .int .i64 0, .int .i64 0] 24)) (.slice (some ⟨w11.heap.size, 0, none⟩) 5 5) _ at R12
  change Has w _ (w11.alloc (.cells #[.int .i64 0, .int .i64 4, .int .i64 2, .int .i64 1, .int .i64 4, .int .i64 4, .int .i64 4, .int .i64 0, .int .i64 0, .int .i64 0] 24)) at C12
  clear C11
  generalize w11.alloc (.cells #[.int .i64 0, .int .i64 4, .int .i64 2, .int .i64 1, .int .i64 4, .int .i64 4, .int .i64 4, .int .i64 0, .int .i64 0, .int .i64 0] 24) = w12 at *
  generalize w11.heap.size = B12 at *
  refine (calls_two C12 (ringcheck_is _ _ _ R6 0 (by decide +kernel))).mono ?_
  rintro e w13 ⟨rfl, C13, g13⟩
  replace R6 := R6.later g13
  replace R12 := R12.later g13
  clear C12
  clear g13
  have R14s := R6.take 2 (by decide)
  go_wp2_with fail
  refine (calls_two C13 (ringcheck_is _ _ _ R14s 2 (by decide +kernel))).mono ?_
  rintro e w15 ⟨rfl, C15, g15⟩
  replace R6 := R6.later g15
  replace R12 := R12.later g15
  replace R14s := R14s.later g15
  clear C13
  clear g15
  go_wp2_with fail
  refine (calls_two C15 (at_any 0 0 _)).mono ?_
  rintro e w16 ⟨rfl, C16, g16⟩
  replace R6 := R6.later g16
  replace R12 := R12.later g16
  replace R14s := R14s.later g16
  clear C15
  clear g16
  go_wp2_with fail
  refine (calls_two C16 (at_any 4 4 _)).mono ?_
  rintro e w17 ⟨rfl, C17, g17⟩
  replace R6 := R6.later g17
  replace R12 := R12.later g17
  replace R14s := R14s.later g17
  clear C16
  clear g17
  go_wp2_with fail
  refine (calls_two C17 (at_any 4 0 _)).mono ?_
  rintro e w18 ⟨rfl, C18, g18⟩
  replace R6 := R6.later g18
  replace R12 := R12.later g18
  replace R14s := R14s.later g18
  clear C17
  clear g18
  go_wp2_with fail
  refine (calls_two C18 (at_any 0 4 _)).mono ?_
  rintro e w19 ⟨rfl, C19, g19⟩
  replace R6 := R6.later g19
  replace R12 := R12.later g19
  replace R14s := R14s.later g19
  clear C18
  clear g19
  obtain ⟨C20a, R20⟩ := one_row C19 rfl [(0, 0), (4, 4), (4, 0), (0, 4)] (by simp)
  have C20 := C20a.tail
  clear C20a
  have ga20 := (Below.refl w19.heap.size w19).alloc (Nat.le_refl _) (.cells (flat [(0, 0), (4, 4), (4, 0), (0, 4)]).toArray 24)
  replace R6 := R6.later ga20
  replace R12 := R12.later ga20
  replace R14s := R14s.later ga20
  clear ga20
  go_wp2_with fail
  change RowP (w19.alloc (.cells #[.int .i64 0, .int .i64 0, .int .i64 4, .int .i64 4, .int .i64 4, .int .i64 0, .int .i64 0, .int .i64 4] 24)) _ _ at R6
  change RowP (w19.alloc (.cells #[.int .i64 0, .int .i64 0, .int .i64 4, .int .i64 4, .int .i64 4, .int .i64 0, .int .i64 0, .int .i64 4] 24)) _ _ at R12
  change RowP (w19.alloc (.cells #[.int .i64 0, .int .i64 0, .int .i64 4, .int .i64 4, .int .i64 4, .int .i64 0, .int .i64 0, .int .i64 4] 24)) _ _ at R14s
  change RowP (w19.alloc (.cells #[.int .i64 0, .int .i64 0, .int .i64 4, .int .i64 4, .int .i64 4, .int .i64 0, .int .i64 0, .int .i64 4] 24)) (.slice (some ⟨w19.heap.size, 0, none⟩) 4 4) _ at R20
  change Has w _ (w19.alloc (.cells #[.int .i64 0, .int .i64 0, .int .i64 4, .int .i64 4, .int .i64 4, .int .i64 0, .int .i64 0, .int .i64 4] 24)) at C20
  clear C19
  generalize w19.alloc (.cells #[.int .i64 0, .int .i64 0, .int .i64 4, .int .i64 4, .int .i64 4, .int .i64 0, .int .i64 0, .int .i64 4] 24) = w20 at *
  generalize w19.heap.size = B20 at *
  refine (calls_two C20 (ringcheck_is _ _ _ R20 11 (by decide +kernel))).mono ?_
  rintro e w21 ⟨rfl, C21, g21⟩
  replace R6 := R6.later g21
  replace R12 := R12.later g21
  replace R14s := R14s.later g21
  replace R20 := R20.later g21
  clear C20
  clear g21
  go_wp2_with fail
  refine (calls_two C21 (area_is _ _ _ R6 20 (by decide +kernel))).mono ?_
  rintro e w22 ⟨rfl, C22, g22⟩
  replace R6 := R6.later g22
  replace R12 := R12.later g22
  replace R14s := R14s.later g22
  replace R20 := R20.later g22
  clear C21
  clear g22
  go_wp2_with fail
  refine (calls_two C22 (area_is _ _ _ R12 (-20) (by decide +kernel))).mono ?_
  rintro e w23 ⟨rfl, C23, g23⟩
  replace R6 := R6.later g23
  replace R12 := R12.later g23
  replace R14s := R14s.later g23
  replace R20 := R20.later g23
  clear C22
  clear g23
  go_wp2_with fail
  refine (calls_two C23 (at_any 1 1 _)).mono ?_
  rintro e w24 ⟨rfl, C24, g24⟩
  replace R6 := R6.later g24
  replace R12 := R12.later g24
  replace R14s := R14s.later g24
  replace R20 := R20.later g24
  clear C23
  clear g24
  go_wp2_with fail
  refine (calls_two C24 (inside_is _ _ 1 1 _ R6 1 (by decide +kernel))).mono ?_
  rintro e w25 ⟨rfl, C25, g25⟩
  replace R6 := R6.later g25
  replace R12 := R12.later g25
  replace R14s := R14s.later g25
  replace R20 := R20.later g25
  clear C24
  clear g25
  go_wp2_with fail
  refine (calls_two C25 (at_any 2 1 _)).mono ?_
  rintro e w26 ⟨rfl, C26, g26⟩
  replace R6 := R6.later g26
  replace R12 := R12.later g26
  replace R14s := R14s.later g26
  replace R20 := R20.later g26
  clear C25
  clear g26
  go_wp2_with fail
  refine (calls_two C26 (inside_is _ _ 2 1 _ R6 0 (by decide +kernel))).mono ?_
  rintro e w27 ⟨rfl, C27, g27⟩
  replace R6 := R6.later g27
  replace R12 := R12.later g27
  replace R14s := R14s.later g27
  replace R20 := R20.later g27
  clear C26
  clear g27
  go_wp2_with fail
  refine (calls_two C27 (at_any 2 2 _)).mono ?_
  rintro e w28 ⟨rfl, C28, g28⟩
  replace R6 := R6.later g28
  replace R12 := R12.later g28
  replace R14s := R14s.later g28
  replace R20 := R20.later g28
  clear C27
  clear g28
  go_wp2_with fail
  refine (calls_two C28 (inside_is _ _ 2 2 _ R6 (-1) (by decide +kernel))).mono ?_
  rintro e w29 ⟨rfl, C29, g29⟩
  replace R6 := R6.later g29
  replace R12 := R12.later g29
  replace R14s := R14s.later g29
  replace R20 := R20.later g29
  clear C28
  clear g29
  go_wp2_with fail
  refine (calls_two C29 (at_any 4 2 _)).mono ?_
  rintro e w30 ⟨rfl, C30, g30⟩
  replace R6 := R6.later g30
  replace R12 := R12.later g30
  replace R14s := R14s.later g30
  replace R20 := R20.later g30
  clear C29
  clear g30
  go_wp2_with fail
  refine (calls_two C30 (inside_is _ _ 4 2 _ R6 0 (by decide +kernel))).mono ?_
  rintro e w31 ⟨rfl, C31, g31⟩
  replace R6 := R6.later g31
  replace R12 := R12.later g31
  replace R14s := R14s.later g31
  replace R20 := R20.later g31
  clear C30
  clear g31
  go_wp2_with fail
  refine (calls_two C31 (at_any 5 2 _)).mono ?_
  rintro e w32 ⟨rfl, C32, g32⟩
  replace R6 := R6.later g32
  replace R12 := R12.later g32
  replace R14s := R14s.later g32
  replace R20 := R20.later g32
  clear C31
  clear g32
  go_wp2_with fail
  refine (calls_two C32 (inside_is _ _ 5 2 _ R6 (-1) (by decide +kernel))).mono ?_
  rintro e w33 ⟨rfl, C33, g33⟩
  replace R6 := R6.later g33
  replace R12 := R12.later g33
  replace R14s := R14s.later g33
  replace R20 := R20.later g33
  clear C32
  clear g33
  go_wp2_with fail
  refine (calls_two C33 (at_any 0 0 _)).mono ?_
  rintro e w34 ⟨rfl, C34, g34⟩
  replace R6 := R6.later g34
  replace R12 := R12.later g34
  replace R14s := R14s.later g34
  replace R20 := R20.later g34
  clear C33
  clear g34
  go_wp2_with fail
  refine (calls_two C34 (at_any 0 4 _)).mono ?_
  rintro e w35 ⟨rfl, C35, g35⟩
  replace R6 := R6.later g35
  replace R12 := R12.later g35
  replace R14s := R14s.later g35
  replace R20 := R20.later g35
  clear C34
  clear g35
  go_wp2_with fail
  refine (calls_two C35 (at_any 1 0 _)).mono ?_
  rintro e w36 ⟨rfl, C36, g36⟩
  replace R6 := R6.later g36
  replace R12 := R12.later g36
  replace R14s := R14s.later g36
  replace R20 := R20.later g36
  clear C35
  clear g36
  go_wp2_with fail
  refine (calls_two C36 (ray_is 0 0 0 4 1 0 1 (by decide +kernel) _)).mono ?_
  rintro e w37 ⟨rfl, C37, g37⟩
  replace R6 := R6.later g37
  replace R12 := R12.later g37
  replace R14s := R14s.later g37
  replace R20 := R20.later g37
  clear C36
  clear g37
  go_wp2_with fail
  refine (calls_two C37 (at_any 0 4 _)).mono ?_
  rintro e w38 ⟨rfl, C38, g38⟩
  replace R6 := R6.later g38
  replace R12 := R12.later g38
  replace R14s := R14s.later g38
  replace R20 := R20.later g38
  clear C37
  clear g38
  go_wp2_with fail
  refine (calls_two C38 (at_any 0 0 _)).mono ?_
  rintro e w39 ⟨rfl, C39, g39⟩
  replace R6 := R6.later g39
  replace R12 := R12.later g39
  replace R14s := R14s.later g39
  replace R20 := R20.later g39
  clear C38
  clear g39
  go_wp2_with fail
  refine (calls_two C39 (at_any 1 0 _)).mono ?_
  rintro e w40 ⟨rfl, C40, g40⟩
  replace R6 := R6.later g40
  replace R12 := R12.later g40
  replace R14s := R14s.later g40
  replace R20 := R20.later g40
  clear C39
  clear g40
  go_wp2_with fail
  refine (calls_two C40 (ray_is 0 4 0 0 1 0 (-1) (by decide +kernel) _)).mono ?_
  rintro e w41 ⟨rfl, C41, g41⟩
  replace R6 := R6.later g41
  replace R12 := R12.later g41
  replace R14s := R14s.later g41
  replace R20 := R20.later g41
  clear C40
  clear g41
  go_wp2_with fail
  refine (calls_two C41 (at_any 0 0 _)).mono ?_
  rintro e w42 ⟨rfl, C42, g42⟩
  replace R6 := R6.later g42
  replace R12 := R12.later g42
  replace R14s := R14s.later g42
  replace R20 := R20.later g42
  clear C41
  clear g42
  go_wp2_with fail
  refine (calls_two C42 (at_any 0 4 _)).mono ?_
  rintro e w43 ⟨rfl, C43, g43⟩
  replace R6 := R6.later g43
  replace R12 := R12.later g43
  replace R14s := R14s.later g43
  replace R20 := R20.later g43
  clear C42
  clear g43
  go_wp2_with fail
  refine (calls_two C43 (at_any 1 4 _)).mono ?_
  rintro e w44 ⟨rfl, C44, g44⟩
  replace R6 := R6.later g44
  replace R12 := R12.later g44
  replace R14s := R14s.later g44
  replace R20 := R20.later g44
  clear C43
  clear g44
  go_wp2_with fail
  refine (calls_two C44 (ray_is 0 0 0 4 1 4 0 (by decide +kernel) _)).mono ?_
  rintro e w45 ⟨rfl, C45, g45⟩
  replace R6 := R6.later g45
  replace R12 := R12.later g45
  replace R14s := R14s.later g45
  replace R20 := R20.later g45
  clear C44
  clear g45
  go_wp2_with fail
  refine (calls_two C45 (at_any 0 0 _)).mono ?_
  rintro e w46 ⟨rfl, C46, g46⟩
  replace R6 := R6.later g46
  replace R12 := R12.later g46
  replace R14s := R14s.later g46
  replace R20 := R20.later g46
  clear C45
  clear g46
  go_wp2_with fail
  refine (calls_two C46 (at_any 0 4 _)).mono ?_
  rintro e w47 ⟨rfl, C47, g47⟩
  replace R6 := R6.later g47
  replace R12 := R12.later g47
  replace R14s := R14s.later g47
  replace R20 := R20.later g47
  clear C46
  clear g47
  go_wp2_with fail
  refine (calls_two C47 (at_any 0 2 _)).mono ?_
  rintro e w48 ⟨rfl, C48, g48⟩
  replace R6 := R6.later g48
  replace R12 := R12.later g48
  replace R14s := R14s.later g48
  replace R20 := R20.later g48
  clear C47
  clear g48
  go_wp2_with fail
  refine (calls_two C48 (ray_is 0 0 0 4 0 2 0 (by decide +kernel) _)).mono ?_
  rintro e w49 ⟨rfl, C49, g49⟩
  replace R6 := R6.later g49
  replace R12 := R12.later g49
  replace R14s := R14s.later g49
  replace R20 := R20.later g49
  clear C48
  clear g49
  have C50 := (C49.push [.int .i64 1, .int .i64 0, .int .i64 2] 39).push [.int .i64 1, .int .i64 8, .int .i64 2] 39
  rw [size_alloc] at C50
  change Has w _ ((w49.alloc (.cells #[.int .i64 1, .int .i64 0, .int .i64 2] 39)).alloc (.cells #[.int .i64 1, .int .i64 8, .int .i64 2] 39)) at C50
  go_upto_region 7 with fail
  clear C49
  generalize (w49.alloc (.cells #[.int .i64 1, .int .i64 0, .int .i64 2] 39)).alloc (.cells #[.int .i64 1, .int .i64 8, .int .i64 2] 39) = w50 at *
  generalize hP : w49.heap.size = P at *
  clear R6
  clear R12
  clear R14s
  clear R20
  have C51 := C50.drew
  have HS := Lib.hid (show ∀ w', Has w [(P + 1, [.int .i64 1, .int .i64 8, .int .i64 2]), (P, [.int .i64 1, .int .i64 0, .int .i64 2])] w' → (w'.cell? ⟨P + 1, 0, none⟩ = some (.int .i64 1) ∧ w'.cell? ⟨P + 1, 1, none⟩ = some (.int .i64 8) ∧ w'.cell? ⟨P + 1, 2, none⟩ = some (.int .i64 2) ∧ w'.cell? ⟨P, 0, none⟩ = some (.int .i64 1) ∧ w'.cell? ⟨P, 1, none⟩ = some (.int .i64 0) ∧ w'.cell? ⟨P, 2, none⟩ = some (.int .i64 2)) ∧ Has w [(P + 1, [.int .i64 1, .int .i64 8, .int .i64 2]), (P, [.int .i64 1, .int .i64 0, .int .i64 2])] w' from fun w' h => by
    exact ⟨⟨h.fact (.head _) (i := 0) rfl, h.fact (.head _) (i := 1) rfl, h.fact (.head _) (i := 2) rfl, h.tail.fact (.head _) (i := 0) rfl, h.tail.fact (.head _) (i := 1) rfl, h.tail.fact (.head _) (i := 2) rfl⟩, h⟩)
  refine wp_region_held_drew (S := (fun w' => (w'.cell? ⟨P + 1, 0, none⟩ = some (.int .i64 1) ∧ w'.cell? ⟨P + 1, 1, none⟩ = some (.int .i64 8) ∧ w'.cell? ⟨P + 1, 2, none⟩ = some (.int .i64 2) ∧ w'.cell? ⟨P, 0, none⟩ = some (.int .i64 1) ∧ w'.cell? ⟨P, 1, none⟩ = some (.int .i64 0) ∧ w'.cell? ⟨P, 2, none⟩ = some (.int .i64 2)) ∧ Has w [(P + 1, [.int .i64 1, .int .i64 8, .int .i64 2]), (P, [.int .i64 1, .int .i64 0, .int .i64 2])] w')) (by kernel_rfl) (HS.out _ C51) (fun hHeld => ?_)
  clear C50
  generalize w50.drew = w51 at *
  refine wpAnyT_begin [0] (by kernel_rfl) (by kernel_rfl) ?_
  refine wpAnyT_take (oi := ⟨some 104, Op.move (Operand.tmp 3), 4, _, _, none⟩) (v := .bool true) rfl (fun _ _ _ h => h) (by rfl) (by assumption) (fun wS hSw => ?_) ?_
  · (try dsimp only at hSw); go_simp
  simp only [Act.put, List.setIfInBounds_toArray, List.set_cons_zero, List.set_cons_succ]
  refine wpAnyT_end ?_
  refine wpAnyH_listed #[true, false, false, false, false, false, false, false, false, false, false, false, false, false, false, false, false, false, false, false, false, false] (by kernel_rfl) ?_
  refine wpAnyT_begin [1] (by kernel_rfl) (by kernel_rfl) ?_
  refine wpAnyT_take (oi := ⟨some 105, Op.move (Operand.tmp 104), 4, _, _, none⟩) (v := .bool true) rfl (fun _ _ _ h => h) (by rfl) (by assumption) (fun wS hSw => ?_) ?_
  · (try dsimp only at hSw); go_simp
  simp only [Act.put, List.setIfInBounds_toArray, List.set_cons_zero, List.set_cons_succ]
  refine wpAnyT_end ?_
  refine wpAnyH_listed #[true, true, false, false, false, false, false, false, false, false, false, false, false, false, false, false, false, false, false, false, false, false] (by kernel_rfl) ?_
  refine wpAnyT_begin [2] (by kernel_rfl) (by kernel_rfl) ?_
  refine wpAnyT_take (oi := ⟨some 106, Op.move (Operand.tmp 4), 4, _, _, some (1, true)⟩) (v := .bool true) rfl (fun _ _ _ h => h) (by rfl) (by assumption) (fun wS hSw => ?_) ?_
  · (try dsimp only at hSw); go_simp
  simp only [Act.put, List.setIfInBounds_toArray, List.set_cons_zero, List.set_cons_succ]
  refine wpAnyT_end ?_
  refine wpAnyH_listed #[true, true, true, false, false, false, false, false, false, false, false, false, false, false, false, false, false, false, false, false, false, false] (by kernel_rfl) ?_
  refine wpAnyT_begin [3] (by kernel_rfl) (by kernel_rfl) ?_
  refine wpAnyT_take (oi := ⟨some 107, Op.pick (Operand.tmp 105) (Operand.tmp 106) (Operand.const (Value.bool false)), 4, _, _, none⟩) (v := .bool true) rfl (fun _ _ _ h => h) (by rfl) (by assumption) (fun wS hSw => ?_) ?_
  · (try dsimp only at hSw); go_simp
  simp only [Act.put, List.setIfInBounds_toArray, List.set_cons_zero, List.set_cons_succ]
  refine wpAnyT_end ?_
  refine wpAnyH_listed #[true, true, true, true, false, false, false, false, false, false, false, false, false, false, false, false, false, false, false, false, false, false] (by kernel_rfl) ?_
  refine wpAnyT_begin [4] (by kernel_rfl) (by kernel_rfl) ?_
  refine wpAnyT_take (oi := ⟨some 108, Op.move (Operand.tmp 107), 4, _, _, none⟩) (v := .bool true) rfl (fun _ _ _ h => h) (by rfl) (by assumption) (fun wS hSw => ?_) ?_
  · (try dsimp only at hSw); go_simp
  simp only [Act.put, List.setIfInBounds_toArray, List.set_cons_zero, List.set_cons_succ]
  refine wpAnyT_end ?_
  refine wpAnyH_listed #[true, true, true, true, true, false, false, false, false, false, false, false, false, false, false, false, false, false, false, false, false, false] (by kernel_rfl) ?_
  refine wpAnyT_begin [5] (by kernel_rfl) (by kernel_rfl) ?_
  refine wpAnyT_take (oi := ⟨some 109, Op.move (Operand.tmp 5), 4, _, _, some (4, true)⟩) (v := .bool true) rfl (fun _ _ _ h => h) (by rfl) (by assumption) (fun wS hSw => ?_) ?_
  · (try dsimp only at hSw); go_simp
  simp only [Act.put, List.setIfInBounds_toArray, List.set_cons_zero, List.set_cons_succ]
  refine wpAnyT_end ?_
  refine wpAnyH_listed #[true, true, true, true, true, true, false, false, false, false, false, false, false, false, false, false, false, false, false, false, false, false] (by kernel_rfl) ?_
  refine wpAnyT_begin [6] (by kernel_rfl) (by kernel_rfl) ?_
  refine wpAnyT_take (oi := ⟨some 110, Op.pick (Operand.tmp 108) (Operand.tmp 109) (Operand.const (Value.bool false)), 4, _, _, none⟩) (v := .bool true) rfl (fun _ _ _ h => h) (by rfl) (by assumption) (fun wS hSw => ?_) ?_
  · (try dsimp only at hSw); go_simp
  simp only [Act.put, List.setIfInBounds_toArray, List.set_cons_zero, List.set_cons_succ]
  refine wpAnyT_end ?_
  refine wpAnyH_listed #[true, true, true, true, true, true, true, false, false, false, false, false, false, false, false, false, false, false, false, false, false, false] (by kernel_rfl) ?_
  refine wpAnyT_begin [7] (by kernel_rfl) (by kernel_rfl) ?_
  refine wpAnyT_take (oi := ⟨some 111, Op.move (Operand.tmp 110), 4, _, _, none⟩) (v := .bool true) rfl (fun _ _ _ h => h) (by rfl) (by assumption) (fun wS hSw => ?_) ?_
  · (try dsimp only at hSw); go_simp
  simp only [Act.put, List.setIfInBounds_toArray, List.set_cons_zero, List.set_cons_succ]
  refine wpAnyT_end ?_
  refine wpAnyH_listed #[true, true, true, true, true, true, true, true, false, false, false, false, false, false, false, false, false, false, false, false, false, false] (by kernel_rfl) ?_
  refine wpAnyT_begin [8, 9] (by kernel_rfl) (by kernel_rfl) ?_
  refine wpAnyT_take (oi := ⟨some 112, Op.load 39 (Operand.tmp 6), 39, _, _, some (7, true)⟩) (v := .agg #[.int .i64 1, .int .i64 0, .int .i64 2]) rfl (fun _ _ _ h => h) (by rfl) (by assumption) (fun wS hSw => ?_) ?_
  · (try dsimp only at hSw); go_simp
  simp only [Act.put, List.setIfInBounds_toArray, List.set_cons_zero, List.set_cons_succ]
  refine wpAnyT_take (oi := ⟨some 113, Op.load 39 (Operand.tmp 7), 39, _, _, some (7, true)⟩) (v := .agg #[.int .i64 1, .int .i64 8, .int .i64 2]) rfl (fun _ _ _ h => h) (by rfl) (by assumption) (fun wS hSw => ?_) ?_
  · (try dsimp only at hSw); go_simp
  simp only [Act.put, List.setIfInBounds_toArray, List.set_cons_zero, List.set_cons_succ]
  refine wpAnyT_end ?_
  refine wpAnyH_listed #[true, true, true, true, true, true, true, true, true, true, false, false, false, false, false, false, false, false, false, false, false, false] (by kernel_rfl) ?_
  refine wpAnyH_ready (rs := [10]) (by kernel_rfl) (by simp) ?_
  refine AllReadyH.cons (o := ⟨some 114, Op.call { callee := Callee.value (Operand.func 13), args := #[Operand.const (Value.int IntKind.i64 1), Operand.const (Value.int IntKind.i64 2)], argTypes := #[3, 3] }, 24, _, _, some (7, true)⟩) rfl (fun K hK => ?_) AllReadyH.nil
  go_simp
  go_at_call 13
  refine (calls_two C51 (at_any 1 2 _)).mono ?_
  rintro e w52 ⟨rfl, C52, g52⟩
  go_wp2_with fail
  clear hHeld
  refine hK.out _ _ (HS.out _ C52) (fun hHeld => ?_)
  clear hK K
  try simp only [List.setIfInBounds_toArray, List.set_cons_zero, List.set_cons_succ]
  refine wpAnyH_listed #[true, true, true, true, true, true, true, true, true, true, true, false, false, false, false, false, false, false, false, false, false, false] (by kernel_rfl) ?_
  clear C51
  clear g52
  refine wpAnyH_ready (rs := [11]) (by kernel_rfl) (by simp) ?_
  refine AllReadyH.cons (o := ⟨some 115, Op.call { callee := Callee.value (Operand.func 22), args := #[Operand.tmp 112, Operand.tmp 113, Operand.tmp 114], argTypes := #[39, 39, 24] }, 3, _, _, some (7, true)⟩) rfl (fun K hK => ?_) AllReadyH.nil
  go_simp
  go_at_call 22
  refine (calls_two C52 (rayspot_is 1 0 2 1 8 2 1 2 1 (by decide +kernel) _ (by decide) (by decide) (by decide) (by decide) (by decide))).mono ?_
  rintro e w53 ⟨rfl, C53, g53⟩
  go_wp2_with fail
  clear hHeld
  refine hK.out _ _ (HS.out _ C53) (fun hHeld => ?_)
  clear hK K
  try simp only [List.setIfInBounds_toArray, List.set_cons_zero, List.set_cons_succ]
  refine wpAnyH_listed #[true, true, true, true, true, true, true, true, true, true, true, true, false, false, false, false, false, false, false, false, false, false] (by kernel_rfl) ?_
  clear C52
  clear g53
  refine wpAnyT_begin [12] (by kernel_rfl) (by kernel_rfl) ?_
  refine wpAnyT_take (oi := ⟨some 116, Op.binOp BinOp.eql 3 (Operand.tmp 115) (Operand.const (Value.int IntKind.i64 1)) 3, 4, _, _, some (7, true)⟩) (v := .bool true) rfl (fun _ _ _ h => h) (by rfl) (by assumption) (fun wS hSw => ?_) ?_
  · (try dsimp only at hSw); go_simp
  simp only [Act.put, List.setIfInBounds_toArray, List.set_cons_zero, List.set_cons_succ]
  refine wpAnyT_end ?_
  refine wpAnyH_listed #[true, true, true, true, true, true, true, true, true, true, true, true, true, false, false, false, false, false, false, false, false, false] (by kernel_rfl) ?_
  refine wpAnyT_begin [13] (by kernel_rfl) (by kernel_rfl) ?_
  refine wpAnyT_take (oi := ⟨some 117, Op.pick (Operand.tmp 111) (Operand.tmp 116) (Operand.const (Value.bool false)), 4, _, _, none⟩) (v := .bool true) rfl (fun _ _ _ h => h) (by rfl) (by assumption) (fun wS hSw => ?_) ?_
  · (try dsimp only at hSw); go_simp
  simp only [Act.put, List.setIfInBounds_toArray, List.set_cons_zero, List.set_cons_succ]
  refine wpAnyT_end ?_
  refine wpAnyH_listed #[true, true, true, true, true, true, true, true, true, true, true, true, true, true, false, false, false, false, false, false, false, false] (by kernel_rfl) ?_
  refine wpAnyT_begin [14] (by kernel_rfl) (by kernel_rfl) ?_
  refine wpAnyT_take (oi := ⟨some 118, Op.move (Operand.tmp 117), 4, _, _, none⟩) (v := .bool true) rfl (fun _ _ _ h => h) (by rfl) (by assumption) (fun wS hSw => ?_) ?_
  · (try dsimp only at hSw); go_simp
  simp only [Act.put, List.setIfInBounds_toArray, List.set_cons_zero, List.set_cons_succ]
  refine wpAnyT_end ?_
  refine wpAnyH_listed #[true, true, true, true, true, true, true, true, true, true, true, true, true, true, true, false, false, false, false, false, false, false] (by kernel_rfl) ?_
  refine wpAnyT_begin [15, 16] (by kernel_rfl) (by kernel_rfl) ?_
  refine wpAnyT_take (oi := ⟨some 119, Op.load 39 (Operand.tmp 6), 39, _, _, some (14, true)⟩) (v := .agg #[.int .i64 1, .int .i64 0, .int .i64 2]) rfl (fun _ _ _ h => h) (by rfl) (by assumption) (fun wS hSw => ?_) ?_
  · (try dsimp only at hSw); go_simp
  simp only [Act.put, List.setIfInBounds_toArray, List.set_cons_zero, List.set_cons_succ]
  refine wpAnyT_take (oi := ⟨some 120, Op.load 39 (Operand.tmp 7), 39, _, _, some (14, true)⟩) (v := .agg #[.int .i64 1, .int .i64 8, .int .i64 2]) rfl (fun _ _ _ h => h) (by rfl) (by assumption) (fun wS hSw => ?_) ?_
  · (try dsimp only at hSw); go_simp
  simp only [Act.put, List.setIfInBounds_toArray, List.set_cons_zero, List.set_cons_succ]
  refine wpAnyT_end ?_
  refine wpAnyH_listed #[true, true, true, true, true, true, true, true, true, true, true, true, true, true, true, true, true, false, false, false, false, false] (by kernel_rfl) ?_
  refine wpAnyH_ready (rs := [17]) (by kernel_rfl) (by simp) ?_
  refine AllReadyH.cons (o := ⟨some 121, Op.call { callee := Callee.value (Operand.func 13), args := #[Operand.const (Value.int IntKind.i64 0), Operand.const (Value.int IntKind.i64 2)], argTypes := #[3, 3] }, 24, _, _, some (14, true)⟩) rfl (fun K hK => ?_) AllReadyH.nil
  go_simp
  go_at_call 13
  refine (calls_two C53 (at_any 0 2 _)).mono ?_
  rintro e w54 ⟨rfl, C54, g54⟩
  go_wp2_with fail
  clear hHeld
  refine hK.out _ _ (HS.out _ C54) (fun hHeld => ?_)
  clear hK K
  try simp only [List.setIfInBounds_toArray, List.set_cons_zero, List.set_cons_succ]
  refine wpAnyH_listed #[true, true, true, true, true, true, true, true, true, true, true, true, true, true, true, true, true, true, false, false, false, false] (by kernel_rfl) ?_
  clear C53
  clear g54
  refine wpAnyH_ready (rs := [18]) (by kernel_rfl) (by simp) ?_
  refine AllReadyH.cons (o := ⟨some 122, Op.call { callee := Callee.value (Operand.func 22), args := #[Operand.tmp 119, Operand.tmp 120, Operand.tmp 121], argTypes := #[39, 39, 24] }, 3, _, _, some (14, true)⟩) rfl (fun K hK => ?_) AllReadyH.nil
  go_simp
  go_at_call 22
  refine (calls_two C54 (rayspot_is 1 0 2 1 8 2 0 2 0 (by decide +kernel) _ (by decide) (by decide) (by decide) (by decide) (by decide))).mono ?_
  rintro e w55 ⟨rfl, C55, g55⟩
  go_wp2_with fail
  clear hHeld
  refine hK.out _ _ (HS.out _ C55) (fun hHeld => ?_)
  clear hK K
  try simp only [List.setIfInBounds_toArray, List.set_cons_zero, List.set_cons_succ]
  refine wpAnyH_listed #[true, true, true, true, true, true, true, true, true, true, true, true, true, true, true, true, true, true, true, false, false, false] (by kernel_rfl) ?_
  clear C54
  clear g55
  refine wpAnyT_begin [19] (by kernel_rfl) (by kernel_rfl) ?_
  refine wpAnyT_take (oi := ⟨some 123, Op.binOp BinOp.eql 3 (Operand.tmp 122) (Operand.const (Value.int IntKind.i64 0)) 3, 4, _, _, some (14, true)⟩) (v := .bool true) rfl (fun _ _ _ h => h) (by rfl) (by assumption) (fun wS hSw => ?_) ?_
  · (try dsimp only at hSw); go_simp
  simp only [Act.put, List.setIfInBounds_toArray, List.set_cons_zero, List.set_cons_succ]
  refine wpAnyT_end ?_
  refine wpAnyH_listed #[true, true, true, true, true, true, true, true, true, true, true, true, true, true, true, true, true, true, true, true, false, false] (by kernel_rfl) ?_
  refine wpAnyT_begin [20] (by kernel_rfl) (by kernel_rfl) ?_
  refine wpAnyT_take (oi := ⟨some 124, Op.pick (Operand.tmp 118) (Operand.tmp 123) (Operand.const (Value.bool false)), 4, _, _, none⟩) (v := .bool true) rfl (fun _ _ _ h => h) (by rfl) (by assumption) (fun wS hSw => ?_) ?_
  · (try dsimp only at hSw); go_simp
  simp only [Act.put, List.setIfInBounds_toArray, List.set_cons_zero, List.set_cons_succ]
  refine wpAnyT_end ?_
  refine wpAnyH_listed #[true, true, true, true, true, true, true, true, true, true, true, true, true, true, true, true, true, true, true, true, true, false] (by kernel_rfl) ?_
  refine wpAnyT_begin [21] (by kernel_rfl) (by kernel_rfl) ?_
  refine wpAnyT_take (oi := ⟨some 0, Op.assign (Operand.tmp 124), 4, _, _, none⟩) (v := .bool true) rfl (fun _ _ _ h => h) (by rfl) (by assumption) (fun wS hSw => ?_) ?_
  · (try dsimp only at hSw); go_simp
  simp only [Act.put, List.setIfInBounds_toArray, List.set_cons_zero, List.set_cons_succ]
  refine wpAnyT_end ?_
  refine wpAnyH_listed #[true, true, true, true, true, true, true, true, true, true, true, true, true, true, true, true, true, true, true, true, true, true] (by kernel_rfl) ?_
  refine wpAnyH_done (by kernel_rfl) ?_ _
  clear hHeld
  clear HS
  go_wp2_with fail
  go_ret
  exact ⟨rfl, C55.low⟩

end Go.Proofs.Ytmldgjhecoeldaa
