/- The law of Cross: it is the reference's. -/
import Derived.Test.YtkejilomempogaaSn
import Derived.Test.YtkejilomempogaaXm
namespace Go.Proofs.Ytkejilomempogaa
open Go.RowKit Go.Lib

theorem v27 (u v : Value) (l m : List (Int × Int)) (w : World) (hu : RowP w u l) (hv : RowP w v m) (r : Bool) (h : rcrossP l m = r) : Calls Try.prog 27 #[u, v] w fun e w' => e = .returned (.bool r) ∧ Below w.heap.size w w' := h ▸ rcrosses_any u v l m w hu hv

attribute [local go_sem] Oper.semAt_some
set_option linter.unusedSimpArgs false in
set_option linter.unusedVariables false in
set_option maxRecDepth 100000 in
set_option maxHeartbeats 16000000 in
theorem crosses_of (HX : ∀ l m, crossP l m = rcrossP l m) (u v t : Value) (xs ys : List Int) (raw : List (Int × Int)) (w : World) (hu : RowN w u xs) (hv : RowN w v ys) (ht : RowP w t raw) :
    Calls Try.prog 5 #[u, v, t] w fun e w' => e = .returned (.bool true) ∧ Below w.heap.size w w' := by
  have C0 : Has w [] w := Has.nil (Below.refl _ _)
  have RU := hu
  have RV := hv
  have RT := ht
  have HXX := Lib.hid HX
  clear hu hv ht HX
  go_enter Try.func5, Try.ntmps5
  go_wp2_with fail
  refine (calls_two C0 (sane_any _)).mono ?_
  rintro e w1 ⟨rfl, C1, g1⟩
  replace RU := RU.later g1
  replace RV := RV.later g1
  replace RT := RT.later g1
  clear C0 g1
  go_wp2_with fail
  refine (made_any _ _ _ RU).mono ?_
  rintro e w2 ⟨uA, A, rfl, RA, -, -, g2⟩
  have C2 := C1.later g2
  replace RU := RU.later g2
  replace RV := RV.later g2
  replace RT := RT.later g2
  clear C1 g2
  go_wp2_with fail
  refine (made_any _ _ _ RV).mono ?_
  rintro e w3 ⟨uB, B, rfl, RB, -, -, g3⟩
  have C3 := C2.later g3
  replace RU := RU.later g3
  replace RV := RV.later g3
  replace RT := RT.later g3
  replace RA := RA.later g3
  clear C2 g3
  go_wp2_with fail
  refine (few_any _ _ _ RT).mono ?_
  rintro e w4 ⟨uC, rfl, RC, g4⟩
  have C4 := C3.later g4
  replace RU := RU.later g4
  replace RV := RV.later g4
  replace RT := RT.later g4
  replace RA := RA.later g4
  replace RB := RB.later g4
  clear C3 g4
  obtain ⟨r0, hr0⟩ : ∃ r, rcrossP A B = r := ⟨_, rfl⟩
  have HR0 := Lib.hid hr0
  have HL0 := Lib.hid ((HXX.out A B).trans hr0)
  clear hr0
  obtain ⟨r1, hr1⟩ : ∃ r, rcrossP A A = r := ⟨_, rfl⟩
  have HR1 := Lib.hid hr1
  have HL1 := Lib.hid ((HXX.out A A).trans hr1)
  clear hr1
  obtain ⟨r2, hr2⟩ : ∃ r, rcrossP A (raw.take 8) = r := ⟨_, rfl⟩
  have HR2 := Lib.hid hr2
  have HL2 := Lib.hid ((HXX.out A (raw.take 8)).trans hr2)
  clear hr2
  obtain ⟨r3, hr3⟩ : ∃ r, rcrossP (raw.take 8) (raw.take 8) = r := ⟨_, rfl⟩
  have HR3 := Lib.hid hr3
  have HL3 := Lib.hid ((HXX.out (raw.take 8) (raw.take 8)).trans hr3)
  clear hr3
  go_wp2_with fail
  refine (calls_two C4 (v26 _ _ _ _ _ RA RB _ HL0.out)).mono ?_
  rintro e w5 ⟨rfl, C5, g5⟩
  replace RU := RU.later g5
  replace RV := RV.later g5
  replace RT := RT.later g5
  replace RA := RA.later g5
  replace RB := RB.later g5
  replace RC := RC.later g5
  clear C4 g5
  go_wp2_with fail
  refine (calls_two C5 (v27 _ _ _ _ _ RA RB _ HR0.out)).mono ?_
  rintro e w6 ⟨rfl, C6, g6⟩
  replace RU := RU.later g6
  replace RV := RV.later g6
  replace RT := RT.later g6
  replace RA := RA.later g6
  replace RB := RB.later g6
  replace RC := RC.later g6
  clear C5 g6
  go_wp2_with fail
  refine (calls_two C6 (v26 _ _ _ _ _ RA RA _ HL1.out)).mono ?_
  rintro e w7 ⟨rfl, C7, g7⟩
  replace RU := RU.later g7
  replace RV := RV.later g7
  replace RT := RT.later g7
  replace RA := RA.later g7
  replace RB := RB.later g7
  replace RC := RC.later g7
  clear C6 g7
  go_wp2_with fail
  refine (calls_two C7 (v27 _ _ _ _ _ RA RA _ HR1.out)).mono ?_
  rintro e w8 ⟨rfl, C8, g8⟩
  replace RU := RU.later g8
  replace RV := RV.later g8
  replace RT := RT.later g8
  replace RA := RA.later g8
  replace RB := RB.later g8
  replace RC := RC.later g8
  clear C7 g8
  go_wp2_with fail
  refine (calls_two C8 (v26 _ _ _ _ _ RA RC _ HL2.out)).mono ?_
  rintro e w9 ⟨rfl, C9, g9⟩
  replace RU := RU.later g9
  replace RV := RV.later g9
  replace RT := RT.later g9
  replace RA := RA.later g9
  replace RB := RB.later g9
  replace RC := RC.later g9
  clear C8 g9
  go_wp2_with fail
  refine (calls_two C9 (v27 _ _ _ _ _ RA RC _ HR2.out)).mono ?_
  rintro e w10 ⟨rfl, C10, g10⟩
  replace RU := RU.later g10
  replace RV := RV.later g10
  replace RT := RT.later g10
  replace RA := RA.later g10
  replace RB := RB.later g10
  replace RC := RC.later g10
  clear C9 g10
  go_wp2_with fail
  refine (calls_two C10 (v26 _ _ _ _ _ RC RC _ HL3.out)).mono ?_
  rintro e w11 ⟨rfl, C11, g11⟩
  replace RU := RU.later g11
  replace RV := RV.later g11
  replace RT := RT.later g11
  replace RA := RA.later g11
  replace RB := RB.later g11
  replace RC := RC.later g11
  clear C10 g11
  go_wp2_with fail
  refine (calls_two C11 (v27 _ _ _ _ _ RC RC _ HR3.out)).mono ?_
  rintro e w12 ⟨rfl, C12, g12⟩
  replace RU := RU.later g12
  replace RV := RV.later g12
  replace RT := RT.later g12
  replace RA := RA.later g12
  replace RB := RB.later g12
  replace RC := RC.later g12
  clear C11 g12
  go_wp2_with fail
  go_ret
  exact ⟨rfl, C12.low⟩
theorem crosses_any (u v t : Value) (xs ys : List Int) (raw : List (Int × Int)) (w : World) (hu : RowN w u xs) (hv : RowN w v ys) (ht : RowP w t raw) :
    Calls Try.prog 5 #[u, v, t] w fun e w' => e = .returned (.bool true) ∧ Below w.heap.size w w' := crosses_of cross_same u v t xs ys raw w hu hv ht

end Go.Proofs.Ytkejilomempogaa
