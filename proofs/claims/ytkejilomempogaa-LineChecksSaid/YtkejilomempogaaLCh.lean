/- The law of Check, Closed, Length, Reverse and Same: they are the reference's. -/
import Derived.Test.YtkejilomempogaaSn
import Derived.Test.YtkejilomempogaaXm
import Derived.RangeFuncRecord
namespace Go.Proofs.Ytkejilomempogaa
open Go.RowKit Go.Lib

theorem x13 (v : Value) (ps : List (Int × Int)) (w : World) (hv : RowP w v ps) (r : Int) (h : chkP ps (simpleR ps) = r) : Calls Try.prog 13 #[v] w fun e w' => e = .returned (.int .i64 r) ∧ Below w.heap.size w w' := h ▸ rcheck_any v ps w hv
theorem x15 (v : Value) (ps : List (Int × Int)) (w : World) (hv : RowP w v ps) (r : Bool) (h : closedP ps = r) : Calls Try.prog 15 #[v] w fun e w' => e = .returned (.bool r) ∧ Below w.heap.size w w' := h ▸ rclosed_any v ps w hv
theorem x17 (v : Value) (ps : List (Int × Int)) (w : World) (hv : RowP w v ps) (r : Int) (h : lengthP ps = r) : Calls Try.prog 17 #[v] w fun e w' => e = .returned (.int .i64 r) ∧ Below w.heap.size w w' := h ▸ rlength_any v ps w hv
theorem x18 (u v : Value) (l m : List (Int × Int)) (w : World) (hu : RowP w u l) (hv : RowP w v m) (r : Bool) (h : sameP l m = r) : Calls Try.prog 18 #[u, v] w fun e w' => e = .returned (.bool r) ∧ Below w.heap.size w w' := h ▸ rsame_any u v l m w hu hv
theorem same_self (l : List (Int × Int)) : sameP l l = true := by unfold sameP; exact decide_eq_true rfl
theorem Own.empty {w : World} (n : Nat) (hn : w.heap.size = n) : Own n (w.alloc (.cells #[] 36)) (.slice (some ⟨n, 0, none⟩) 0 0) [] := by
  subst hn
  refine ⟨rfl, .inr ⟨w.heap.size, 0, #[], rfl, Nat.le_refl _, ?_, Nat.le_refl _, Nat.zero_le _, rfl, rfl⟩⟩
  exact World.alloc_heap_new w _

attribute [local go_sem] Oper.semAt_some
set_option linter.unusedSimpArgs false in
set_option linter.unusedVariables false in
set_option maxRecDepth 100000 in
set_option maxHeartbeats 16000000 in
theorem checks_of (HX : ∀ ps, chkP ps (simpleP ps) = chkP ps (simpleR ps)) (u v t : Value) (xs ys : List Int) (raw : List (Int × Int)) (w : World) (hu : RowN w u xs) (hv : RowN w v ys) (ht : RowP w t raw) :
    Calls Try.prog 3 #[u, v, t] w fun e w' => e = .returned (.bool true) ∧ Below w.heap.size w w' := by
  have C0 : Has w [] w := Has.nil (Below.refl _ _)
  have RU := hu
  have RV := hv
  have RT := ht
  have HXX := Lib.hid HX
  clear hu hv ht HX
  go_enter Try.func3, Try.ntmps3
  go_wp2_with fail
  refine (calls_two C0 (sane_any _)).mono ?_
  rintro e w1 ⟨rfl, C1, g1⟩
  replace RU := RU.later g1
  replace RV := RV.later g1
  replace RT := RT.later g1
  clear C0 g1
  go_wp2_with fail
  refine (made_any _ _ _ RU).mono ?_
  rintro e w2 ⟨uA, A, rfl, RA, nA, -, g2⟩
  have C2 := C1.later g2
  replace RU := RU.later g2
  replace RV := RV.later g2
  replace RT := RT.later g2
  clear C1 g2
  go_wp2_with fail
  refine (made_any _ _ _ RV).mono ?_
  rintro e w3 ⟨uB, B, rfl, RB, nB, -, g3⟩
  have C3 := C2.later g3
  replace RU := RU.later g3
  replace RV := RV.later g3
  replace RT := RT.later g3
  replace RA := RA.later g3
  clear C2 g3
  go_wp2_with fail
  refine (cut_any _ _ _ RT).mono ?_
  rintro e w4 ⟨uC, rfl, RC, g4⟩
  have C4 := C3.later g4
  replace RU := RU.later g4
  replace RV := RV.later g4
  replace RT := RT.later g4
  replace RA := RA.later g4
  replace RB := RB.later g4
  clear C3 g4
  have lC : (raw.take 45).length ≤ 45 := by rw [List.length_take]; omega
  generalize raw.take 45 = E at *
  have RA0 := RA
  have RB0 := RB
  have RC0 := RC
  obtain ⟨aA, kA, rfl, -⟩ := RA0
  obtain ⟨aB, kB, rfl, -⟩ := RB0
  obtain ⟨aC, kC, rfl, -⟩ := RC0
  have lA : A.length ≤ 6 := nA.2
  have lB : B.length ≤ 6 := nB.2
  clear RU RV RT nA nB
  have gE := (Below.refl w4.heap.size w4).alloc (Nat.le_refl _) (.cells #[] 36)
  have hO := Own.empty (w := w4) w4.heap.size rfl
  have RA4 := RA.later gE
  go_wp2_with (at_builtin; refine wpList_append_pts rfl _ _ rfl rfl hO rfl RA4 (by first | omega | (simp; omega)) gE.size ?_)
  intro u5 w5 hO5 hG5
  have G5 := grow_append gE hO (Nat.le_refl _) hG5
  have RB5 := RB.later G5
  clear RA4 hG5 hO gE
  go_wp2_with (at_builtin; refine wpList_append_pts rfl _ _ rfl rfl hO5 rfl RB5 (by first | omega | (simp; omega)) G5.size ?_)
  intro u6 w6 hO6 hG6
  have G6 := grow_append G5 hO5 (Nat.le_refl _) hG6
  have RD := hO6.row
  have lD : (A ++ B).length ≤ 45 := by rw [List.length_append]; omega
  replace RA := RA.later G6
  replace RB := RB.later G6
  replace RC := RC.later G6
  have C6 := C4.later G6
  clear G5 G6 RB5 hO5 hO6 hG6 C4
  have RD0 := RD
  obtain ⟨aD, kD, rfl, -⟩ := RD0
  generalize (A ++ B) = D at *
  have C7 := C6.push [.slice aA A.length kA, .slice aB B.length kB, .slice aC E.length kC, .slice aD D.length kD] 27
  have gT := (Below.refl w6.heap.size w6).alloc (Nat.le_refl _) (.cells #[.slice aA A.length kA, .slice aB B.length kB, .slice aC E.length kC, .slice aD D.length kD] 27)
  replace RA := RA.later gT
  replace RB := RB.later gT
  replace RC := RC.later gT
  replace RD := RD.later gT
  clear gT C6
  go_wp2_with fail
  change Has w _ (w6.alloc (.cells #[.slice aA A.length kA, .slice aB B.length kB, .slice aC E.length kC, .slice aD D.length kD] 27)) at C7
  change RowP (w6.alloc (.cells #[.slice aA A.length kA, .slice aB B.length kB, .slice aC E.length kC, .slice aD D.length kD] 27)) _ _ at RA
  change RowP (w6.alloc (.cells #[.slice aA A.length kA, .slice aB B.length kB, .slice aC E.length kC, .slice aD D.length kD] 27)) _ _ at RB
  change RowP (w6.alloc (.cells #[.slice aA A.length kA, .slice aB B.length kB, .slice aC E.length kC, .slice aD D.length kD] 27)) _ _ at RC
  change RowP (w6.alloc (.cells #[.slice aA A.length kA, .slice aB B.length kB, .slice aC E.length kC, .slice aD D.length kD] 27)) _ _ at RD
  generalize w6.alloc (.cells #[.slice aA A.length kA, .slice aB B.length kB, .slice aC E.length kC, .slice aD D.length kD] 27) = w7 at *
  generalize w6.heap.size = T at *
  go_loopw [11, 12] (fun i x wr => ∃ k : Nat, k ≤ 4 ∧ i = .int .i64 k ∧ Has w [(T, [.slice aA A.length kA, .slice aB B.length kB, .slice aC E.length kC, .slice aD D.length kD])] wr ∧ RowP wr (.slice aA A.length kA) A ∧ RowP wr (.slice aB B.length kB) B ∧ RowP wr (.slice aC E.length kC) E ∧ RowP wr (.slice aD D.length kD) D) (fun i _ _ => 4 - (RowKit.intOf i).toNat)
  case atStart => exact ⟨0, by omega, rfl, C7, RA, RB, RC, RD⟩
  case round =>
    clear C7 RA RB RC RD
    obtain ⟨k, hk, rfl, C0, RA, RB, RC, RD⟩ := hrel
    by_cases hlt : k < 4
    · obtain ⟨ax, X, kx, hc, RX, lX⟩ : ∃ ax X kx, wr.cell? ⟨T, k, none⟩ = some (.slice ax X.length kx) ∧ RowP wr (.slice ax X.length kx) X ∧ X.length ≤ 45 := by
        rcases (show k = 0 ∨ k = 1 ∨ k = 2 ∨ k = 3 by omega) with rfl | rfl | rfl | rfl
        · exact ⟨_, A, _, C0.fact (.head _) (i := 0) rfl, RA, by omega⟩
        · exact ⟨_, B, _, C0.fact (.head _) (i := 1) rfl, RB, by omega⟩
        · exact ⟨_, E, _, C0.fact (.head _) (i := 2) rfl, RC, by omega⟩
        · exact ⟨_, D, _, C0.fact (.head _) (i := 3) rfl, RD, by omega⟩
      have b1 : (k : Int) < 4 := by omega
      have b2 : (0 : Int) ≤ k := by omega
      obtain ⟨r, hr⟩ : ∃ r, chkP X (simpleR X) = r := ⟨_, rfl⟩
      have HR := Lib.hid hr
      have HL := Lib.hid ((HXX.out X).trans hr)
      obtain ⟨c, hcl⟩ : ∃ c, closedP X = c := ⟨_, rfl⟩
      have HCL := Lib.hid hcl
      obtain ⟨len, hle⟩ : ∃ n, lengthP X = n := ⟨_, rfl⟩
      have HLE := Lib.hid hle
      obtain ⟨sa, hsa⟩ : ∃ s, sameP A X = s := ⟨_, rfl⟩
      have HSA := Lib.hid hsa
      have HSS := Lib.hid (same_self X.reverse)
      clear hr hcl hle hsa
      go_wp2_with fail
      refine (calls_two C0 (v12 _ _ _ RX _ HL.out)).mono ?_
      rintro e w101 ⟨rfl, C101, g101⟩
      replace RA := RA.later g101
      replace RB := RB.later g101
      replace RC := RC.later g101
      replace RD := RD.later g101
      replace RX := RX.later g101
      clear C0 g101
      go_wp2_with fail
      refine (calls_two C101 (x13 _ _ _ RX _ HR.out)).mono ?_
      rintro e w102 ⟨rfl, C102, g102⟩
      replace RA := RA.later g102
      replace RB := RB.later g102
      replace RC := RC.later g102
      replace RD := RD.later g102
      replace RX := RX.later g102
      clear C101 g102
      go_wp2_with fail
      refine (calls_two C102 (v14 _ _ _ RX _ HCL.out)).mono ?_
      rintro e w103 ⟨rfl, C103, g103⟩
      replace RA := RA.later g103
      replace RB := RB.later g103
      replace RC := RC.later g103
      replace RD := RD.later g103
      replace RX := RX.later g103
      clear C102 g103
      go_wp2_with fail
      refine (calls_two C103 (x15 _ _ _ RX _ HCL.out)).mono ?_
      rintro e w104 ⟨rfl, C104, g104⟩
      replace RA := RA.later g104
      replace RB := RB.later g104
      replace RC := RC.later g104
      replace RD := RD.later g104
      replace RX := RX.later g104
      clear C103 g104
      go_wp2_with fail
      refine (calls_two C104 (v16 _ _ _ RX _ HLE.out)).mono ?_
      rintro e w105 ⟨rfl, C105, g105⟩
      replace RA := RA.later g105
      replace RB := RB.later g105
      replace RC := RC.later g105
      replace RD := RD.later g105
      replace RX := RX.later g105
      clear C104 g105
      go_wp2_with fail
      refine (calls_two C105 (x17 _ _ _ RX _ HLE.out)).mono ?_
      rintro e w106 ⟨rfl, C106, g106⟩
      replace RA := RA.later g106
      replace RB := RB.later g106
      replace RC := RC.later g106
      replace RD := RD.later g106
      replace RX := RX.later g106
      clear C105 g106
      go_wp2_with fail
      refine (lreverse_any _ _ _ RX (by omega)).mono ?_
      rintro e w107 ⟨u1, rfl, hO1, g107⟩
      have C107 := C106.later g107
      replace RA := RA.later g107
      replace RB := RB.later g107
      replace RC := RC.later g107
      replace RD := RD.later g107
      replace RX := RX.later g107
      clear C106 g107
      have R1 := hO1.row
      clear hO1
      go_wp2_with fail
      refine (rreverse_any _ _ _ RX (by omega)).mono ?_
      rintro e w108 ⟨u2, rfl, hO2, g108⟩
      have C108 := C107.later g108
      replace RA := RA.later g108
      replace RB := RB.later g108
      replace RC := RC.later g108
      replace RD := RD.later g108
      replace RX := RX.later g108
      replace R1 := R1.later g108
      clear C107 g108
      have R2 := hO2.row
      clear hO2
      go_wp2_with fail
      refine (calls_two C108 (x18 _ _ _ _ _ R1 R2 _ HSS.out)).mono ?_
      rintro e w109 ⟨rfl, C109, g109⟩
      replace RA := RA.later g109
      replace RB := RB.later g109
      replace RC := RC.later g109
      replace RD := RD.later g109
      replace RX := RX.later g109
      replace R1 := R1.later g109
      replace R2 := R2.later g109
      clear C108 g109
      go_wp2_with fail
      refine (calls_two C109 (v21 _ _ _ _ _ RA RX _ HSA.out)).mono ?_
      rintro e w110 ⟨rfl, C110, g110⟩
      replace RA := RA.later g110
      replace RB := RB.later g110
      replace RC := RC.later g110
      replace RD := RD.later g110
      replace RX := RX.later g110
      replace R1 := R1.later g110
      replace R2 := R2.later g110
      clear C109 g110
      go_wp2_with fail
      refine (calls_two C110 (x18 _ _ _ _ _ RA RX _ HSA.out)).mono ?_
      rintro e w111 ⟨rfl, C111, g111⟩
      replace RA := RA.later g111
      replace RB := RB.later g111
      replace RC := RC.later g111
      replace RD := RD.later g111
      replace RX := RX.later g111
      replace R1 := R1.later g111
      replace R2 := R2.later g111
      clear C110 g111
      go_wp2_with fail
      go_roundw
      case rel => exact ⟨k + 1, by omega, by go_num, C111, RA, RB, RC, RD⟩
      case measure => simp [RowKit.intOf]; omega
    · obtain rfl : k = 4 := by omega
      go_wp2_with fail
      go_ret
      exact ⟨rfl, C0.low⟩
theorem checks_any (u v t : Value) (xs ys : List Int) (raw : List (Int × Int)) (w : World) (hu : RowN w u xs) (hv : RowN w v ys) (ht : RowP w t raw) :
    Calls Try.prog 3 #[u, v, t] w fun e w' => e = .returned (.bool true) ∧ Below w.heap.size w w' := checks_of chk_same u v t xs ys raw w hu hv ht

end Go.Proofs.Ytkejilomempogaa
