/- The reference: Check. -/
import Derived.Test.YtmldgjhecoeldaaCh
namespace Go.Proofs.Ytmldgjhecoeldaa
open Go.RowKit Go.Lib

/-- How often the segments i and j of a list meet; whether that is not what is wanted. -/
def mK (ps : List (Int × Int)) (i j : Nat) : Int := meetOf (pt ps i).1 (pt ps i).2 (pt ps (i + 1)).1 (pt ps (i + 1)).2 (pt ps j).1 (pt ps j).2 (pt ps (j + 1)).1 (pt ps (j + 1)).2
def badM2 (ps : List (Int × Int)) (j i : Nat) : Bool := decide (mK ps i j ≠ wantP ps i j)
def badS2 (ps : List (Int × Int)) (j : Nat) : Bool := decide (pt ps j = pt ps (j + 1)) || anyTo (badM2 ps j) j
def simpleR (ps : List (Int × Int)) : Bool := !anyTo (badS2 ps) (ps.length - 1)

set_option linter.unusedSimpArgs false in
set_option maxRecDepth 100000 in
set_option maxHeartbeats 16000000 in
theorem rcheck_any (v : Value) (ps : List (Int × Int)) (w : World) (hv : RowP w v ps) :
    Calls Try.prog 29 #[v] w fun e w' => e = .returned (.int .i64 (chkP ps (simpleR ps))) ∧ Below w.heap.size w w' := by
  have hv0 := hv
  obtain ⟨a, cap, rfl, hc1, hc2, -⟩ := hv0
  have HV := Lib.hid hv
  clear hv
  by_cases h1 : ps.length < 2
  · have HR := Lib.hid (show chkP ps (simpleR ps) = 2 by unfold chkP; rw [if_pos (.inl h1)])
    have e1 : decide ((ps.length : Int) < 2) = true := decide_eq_true (by omega)
    go_enter Try.func29, Try.ntmps29
    go_wp2_with fail
    go_ret
    exact ⟨ret_i HR.out.symm, by go_grown⟩
  · have e1 : decide ((ps.length : Int) < 2) = false := decide_eq_false (by omega)
    by_cases h2 : 40 < ps.length
    · have HR := Lib.hid (show chkP ps (simpleR ps) = 2 by unfold chkP; rw [if_pos (.inr h2)])
      have e2 : decide ((40 : Int) < (ps.length : Int)) = true := decide_eq_true (by omega)
      clear h1 h2
      go_enter Try.func29, Try.ntmps29
      go_wp2_with fail
      go_ret
      exact ⟨ret_i HR.out.symm, by go_grown⟩
    · have e2 : decide ((40 : Int) < (ps.length : Int)) = false := decide_eq_false (by omega)
      cases h3 : ps.all rtP
      · have HR := Lib.hid (show chkP ps (simpleR ps) = 10 by unfold chkP; rw [if_neg (by omega), if_pos h3])
        have H3 := Lib.hid h3
        clear h1 h2 h3
        go_enter Try.func29, Try.ntmps29
        go_wp2_with fail
        refine (fine_is _ ps w HV.out _ H3.out).mono ?_
        rintro e w1 ⟨rfl, g1⟩
        go_wp2_with fail
        go_ret
        exact ⟨ret_i HR.out.symm, g1⟩
      · obtain ⟨r, hr⟩ : ∃ r, anyTo (badS2 ps) (ps.length - 1) = r := ⟨_, rfl⟩
        have hR : chkP ps (simpleR ps) = if r = true then 11 else 0 := by
          unfold chkP simpleR
          rw [if_neg (by omega), if_neg (by rw [h3]; simp), hr]
          cases r <;> rfl
        obtain ⟨m, hm⟩ : ∃ m, ps.length = m + 2 := ⟨ps.length - 2, by omega⟩
        rw [hm] at e1 e2 hc1 hr HV ⊢
        rw [show m + 2 - 1 = m + 1 by omega] at hr
        have hm40 : m ≤ 38 := by omega
        have H3 := Lib.hid h3
        have HM := Lib.hid hm
        have HF := Lib.hid hr
        have HR := Lib.hid hR
        clear h1 h2 h3 hm hr hR
        have s2 : IntKind.i64.wrap ((m : Int) + 2 - 2) = (m : Int) := by rw [IntWalk.i64_in _ (by omega)]; omega
        go_enter Try.func29, Try.ntmps29
        go_wp2_with fail
        refine (fine_is _ ps w HV.out _ H3.out).mono ?_
        rintro e w1 ⟨rfl, g1⟩
        go_wp2_with fail
        go_loopw [4] (fun i wr => ∃ k : Nat, k ≤ m + 1 ∧ i = .int .i64 k ∧ Hid (anyTo (badS2 ps) k = false) ∧ Grows w wr) (fun i _ => m + 1 - (RowKit.intOf i).toNat)
        case atStart => exact ⟨0, Nat.zero_le _, rfl, Lib.hid rfl, g1⟩
        case round =>
          obtain ⟨k, hk, rfl, HA, hG⟩ := hrel
          clear e1 e2
          by_cases hlt : k < m + 1
          · have hR := HV.out.later hG
            obtain ⟨b, o, rfl, -⟩ := hR.spot (by rw [HM.out]; omega)
            have q0 : ps[k]? = some ((pt ps k).1, (pt ps k).2) := at_pt (by rw [HM.out]; omega)
            have q1 : ps[k + 1]? = some ((pt ps (k + 1)).1, (pt ps (k + 1)).2) := at_pt (by rw [HM.out]; omega)
            obtain ⟨c0, c1⟩ := hR.cells q0
            obtain ⟨c2, c3⟩ := hR.cells q1
            obtain ⟨q, hq⟩ : ∃ q, decide (pt ps k = pt ps (k + 1)) = q := ⟨_, rfl⟩
            have he := eq3 (pt ps k).1 (pt ps k).2 (pt ps (k + 1)).1 (pt ps (k + 1)).2
            rw [show decide (((pt ps k).1, (pt ps k).2) = ((pt ps (k + 1)).1, (pt ps (k + 1)).2)) = decide (pt ps k = pt ps (k + 1)) from rfl, hq] at he
            have HQ := Lib.hid hq
            have HQ0 := Lib.hid q0
            have HQ1 := Lib.hid q1
            clear hq q0 q1 hR
            generalize hy0 : (pt ps k).1 = y0 at *
            generalize hy1 : (pt ps k).2 = y1 at *
            generalize hy2 : (pt ps (k + 1)).1 = y2 at *
            generalize hy3 : (pt ps (k + 1)).2 = y3 at *
            have HY0 := Lib.hid hy0
            have HY1 := Lib.hid hy1
            have HY2 := Lib.hid hy2
            have HY3 := Lib.hid hy3
            clear hy0 hy1 hy2 hy3
            have ks : IntKind.i64.wrap ((k : Int) + 1) = ((k + 1 : Nat) : Int) := by rw [IntWalk.i64_in _ (by omega)]; rfl
            have b1 : (k : Int) < m + 2 := by omega
            have b3 : (k : Int) + 1 < m + 2 := by omega
            have b4 : (0 : Int) ≤ (k : Int) + 1 := by omega
            have b5 : ((k : Int) + 1).toNat = k + 1 := by omega
            have b6 : (0 : Int) ≤ k := by omega
            have b7 : (k : Int) ≤ m := by omega
            rcases he with ⟨e1, e2, e3⟩ | ⟨e1, e2, e3⟩ | ⟨e1, e3⟩
            · subst e3
              go_wp2_with fail
              go_region
              go_wp2_with fail
              go_ret
              exact ⟨ret_i (by rw [HR.out, if_pos]; rw [← HF.out]; exact (anyTo_yes (by unfold badS2; rw [HQ.out]; rfl) (show k < m + 1 by omega)).symm), hG.then ((Below.refl _ _).drew)⟩
            all_goals
              subst e3
              go_wp2_with fail
              go_region
              clear c0 c1 c2 c3 e1
              try clear e2
              have hG1 := hG.then ((Below.refl _ wr).drew)
              generalize wr.drew = wq at *
              go_wp2_with fail
              go_loopw [5] (fun z wz => ∃ i : Nat, i ≤ k ∧ z = .int .i64 i ∧ Hid (anyTo (badM2 ps k) i = false) ∧ Grows w wz) (fun z _ => k - (RowKit.intOf z).toNat)
              case atStart => exact ⟨0, Nat.zero_le _, rfl, Lib.hid rfl, hG1⟩
              case round =>
                clear hG1
                obtain ⟨i, hi, rfl, HB, hI⟩ := hrel
                by_cases hli : i < k
                · have p0 : ps[i]? = some ((pt ps i).1, (pt ps i).2) := at_pt (by rw [HM.out]; omega)
                  have p1 : ps[i + 1]? = some ((pt ps (i + 1)).1, (pt ps (i + 1)).2) := at_pt (by rw [HM.out]; omega)
                  have hm : mK ps i k = meetOf (pt ps i).1 (pt ps i).2 (pt ps (i + 1)).1 (pt ps (i + 1)).2 y0 y1 y2 y3 := by unfold mK; rw [HY0.out, HY1.out, HY2.out, HY3.out]
                  obtain ⟨X, hXX⟩ : ∃ X, mK ps i k = X := ⟨_, rfl⟩
                  obtain ⟨Wt, hWt⟩ : ∃ X, wantP ps i k = X := ⟨_, rfl⟩
                  have hb : badM2 ps k i = decide (X ≠ Wt) := by unfold badM2; rw [hXX, hWt]
                  rw [hXX] at hm
                  have HP0 := Lib.hid p0
                  have HP1 := Lib.hid p1
                  have HMe := Lib.hid hm.symm
                  have HW := Lib.hid hWt
                  have HBB := Lib.hid hb
                  clear p0 p1 hm hWt hb hXX
                  generalize (pt ps i).1 = x0 at *
                  generalize (pt ps i).2 = x1 at *
                  generalize (pt ps (i + 1)).1 = x2 at *
                  generalize (pt ps (i + 1)).2 = x3 at *
                  have js : IntKind.i64.wrap ((i : Int) + 1) = ((i + 1 : Nat) : Int) := by rw [IntWalk.i64_in _ (by omega)]; rfl
                  have d1 : (i : Int) < m + 2 := by omega
                  have d3 : (i : Int) + 1 < m + 2 := by omega
                  have d4 : (0 : Int) ≤ (i : Int) + 1 := by omega
                  have d5 : ((i : Int) + 1).toNat = i + 1 := by omega
                  have d6 : (0 : Int) ≤ i := by omega
                  have d7 : (i : Int) < k := by omega
                  go_upto_region 15 with fail
                  go_cut [57] (fun z wx => z = .bool (decide (Wt = 1)) ∧ Grows w wx)
                  case first =>
                    by_cases e1 : k = i + 1
                    · have HR2 := Lib.hid ((wantP_next (ps := ps) e1).trans HW.out)
                      have f1 : ((i : Int) + 1 == (k : Int)) = true := by rw [beq_iff_eq]; omega
                      clear e1
                      go_wp2_with fail
                      go_meet
                      exact ⟨by rw [← HR2.out]; rfl, hI⟩
                    · have f1 : ((i : Int) + 1 == (k : Int)) = false := by rw [beq_eq_false_iff_ne]; omega
                      cases hc : closedP ps
                      · have HR2 := Lib.hid ((wantP_open e1 hc).trans HW.out)
                        have HC := Lib.hid hc
                        clear e1 hc
                        go_wp2_with fail
                        refine (rclosed_is _ ps _ (HV.out.later hI) _ HC.out).mono ?_
                        rintro e w9 ⟨rfl, g9⟩
                        go_wp2_with fail
                        go_meet
                        exact ⟨by rw [← HR2.out]; rfl, hI.then g9⟩
                      · have HC := Lib.hid hc
                        by_cases e2 : i = 0
                        · subst e2
                          have f0 : ((1 : Int) == (k : Int)) = false := by rw [beq_eq_false_iff_ne]; omega
                          by_cases e3 : k + 2 = ps.length
                          · have HR2 := Lib.hid ((wantP_last (i := 0) (j := k) hc rfl e3).trans HW.out)
                            have f3 : ((k : Int) == (m : Int)) = true := by rw [beq_iff_eq]; have := HM.out; omega
                            clear e1 hc e3
                            go_wp2_with fail
                            refine (rclosed_is _ ps _ (HV.out.later hI) _ HC.out).mono ?_
                            rintro e w9 ⟨rfl, g9⟩
                            go_wp2_with fail
                            go_meet
                            exact ⟨by rw [← HR2.out]; rfl, hI.then g9⟩
                          · have HR2 := Lib.hid ((wantP_mid e1 e3).trans HW.out)
                            have f3 : ((k : Int) == (m : Int)) = false := by rw [beq_eq_false_iff_ne]; have := HM.out; omega
                            clear e1 hc e3
                            go_wp2_with fail
                            refine (rclosed_is _ ps _ (HV.out.later hI) _ HC.out).mono ?_
                            rintro e w9 ⟨rfl, g9⟩
                            go_wp2_with fail
                            go_meet
                            exact ⟨by rw [← HR2.out]; rfl, hI.then g9⟩
                        · have HR2 := Lib.hid ((wantP_far (ps := ps) e1 e2).trans HW.out)
                          have f2 : ((i : Int) == 0) = false := by rw [beq_eq_false_iff_ne]; omega
                          clear e1 hc e2
                          go_wp2_with fail
                          refine (rclosed_is _ ps _ (HV.out.later hI) _ HC.out).mono ?_
                          rintro e w9 ⟨rfl, g9⟩
                          go_wp2_with fail
                          go_meet
                          exact ⟨by rw [← HR2.out]; rfl, hI.then g9⟩
                  case rest =>
                    obtain ⟨rfl, hI2⟩ := hcut
                    clear hI
                    have XD := (Has.nil hI2).drew
                    have hW2 : Wt = 1 ∨ Wt = 0 := by have := HW.out; unfold wantP at this; split at this <;> omega
                    rcases hW2 with rfl | rfl
                    · go_wp2_with fail
                      by_cases hxw : X = 1
                      · subst hxw
                        have ms1 := Lib.hid (show ∀ w', Has w [] w' → (w'.cell? ⟨b, o + i * 2, none⟩ = some (.int .i64 x0) ∧ w'.cell? ⟨b, o + i * 2 + 1, none⟩ = some (.int .i64 x1) ∧ w'.cell? ⟨b, o + (i + 1) * 2, none⟩ = some (.int .i64 x2) ∧ w'.cell? ⟨b, o + (i + 1) * 2 + 1, none⟩ = some (.int .i64 x3) ∧ w'.cell? ⟨b, o + k * 2, none⟩ = some (.int .i64 y0) ∧ w'.cell? ⟨b, o + k * 2 + 1, none⟩ = some (.int .i64 y1) ∧ w'.cell? ⟨b, o + (k + 1) * 2, none⟩ = some (.int .i64 y2) ∧ w'.cell? ⟨b, o + (k + 1) * 2 + 1, none⟩ = some (.int .i64 y3)) ∧ Has w [] w' from fun w' h => by
                          have hRb := HV.out.later h.low
                          exact ⟨⟨(hRb.cells HP0.out).1, (hRb.cells HP0.out).2, (hRb.cells HP1.out).1, (hRb.cells HP1.out).2, (hRb.cells HQ0.out).1, (hRb.cells HQ0.out).2, (hRb.cells HQ1.out).1, (hRb.cells HQ1.out).2⟩, h⟩)
                        refine wp_region_held_drew (S := (fun w' => (w'.cell? ⟨b, o + i * 2, none⟩ = some (.int .i64 x0) ∧ w'.cell? ⟨b, o + i * 2 + 1, none⟩ = some (.int .i64 x1) ∧ w'.cell? ⟨b, o + (i + 1) * 2, none⟩ = some (.int .i64 x2) ∧ w'.cell? ⟨b, o + (i + 1) * 2 + 1, none⟩ = some (.int .i64 x3) ∧ w'.cell? ⟨b, o + k * 2, none⟩ = some (.int .i64 y0) ∧ w'.cell? ⟨b, o + k * 2 + 1, none⟩ = some (.int .i64 y1) ∧ w'.cell? ⟨b, o + (k + 1) * 2, none⟩ = some (.int .i64 y2) ∧ w'.cell? ⟨b, o + (k + 1) * 2 + 1, none⟩ = some (.int .i64 y3)) ∧ Has w [] w')) (by kernel_rfl) (ms1.out _ XD) (fun hHeld => ?_)
                        refine wpAnyT_begin [0, 1, 2, 3, 4, 5, 6, 7, 8, 9] (by kernel_rfl) (by kernel_rfl) ?_
                        refine wpAnyT_take (oi := ⟨some 58, Op.move (Operand.tmp 0), 25, _, _, none⟩) (v := .slice (some ⟨b, o, none⟩) (m + 2) cap) rfl (fun _ _ _ h => h) (by rfl) (by assumption) (fun wS hSw => ?_) ?_
                        · (try dsimp only at hSw); go_simp
                        simp only [Act.put, List.setIfInBounds_toArray, List.set_cons_zero, List.set_cons_succ]
                        refine wpAnyT_take (oi := ⟨some 59, Op.move (Operand.tmp 5), 3, _, _, none⟩) (v := .int .i64 i) rfl (fun _ _ _ h => h) (by rfl) (by assumption) (fun wS hSw => ?_) ?_
                        · (try dsimp only at hSw); go_simp
                        simp only [Act.put, List.setIfInBounds_toArray, List.set_cons_zero, List.set_cons_succ]
                        refine wpAnyT_take (oi := ⟨some 60, Op.indexAddr 25 (Operand.tmp 58) (Operand.tmp 59), 0, _, _, none⟩) (v := .pointer (some ⟨b, o + i * 2, none⟩)) rfl (fun _ _ _ h => h) (by rfl) (by assumption) (fun wS hSw => ?_) ?_
                        · (try dsimp only at hSw); go_simp
                        simp only [Act.put, List.setIfInBounds_toArray, List.set_cons_zero, List.set_cons_succ]
                        refine wpAnyT_take (oi := ⟨some 61, Op.load 24 (Operand.tmp 60), 24, _, _, none⟩) (v := .agg #[.int .i64 x0, .int .i64 x1]) rfl (fun _ _ _ h => h) (by rfl) (by assumption) (fun wS hSw => ?_) ?_
                        · (try dsimp only at hSw); go_simp
                        simp only [Act.put, List.setIfInBounds_toArray, List.set_cons_zero, List.set_cons_succ]
                        refine wpAnyT_take (oi := ⟨some 62, Op.move (Operand.tmp 0), 25, _, _, none⟩) (v := .slice (some ⟨b, o, none⟩) (m + 2) cap) rfl (fun _ _ _ h => h) (by rfl) (by assumption) (fun wS hSw => ?_) ?_
                        · (try dsimp only at hSw); go_simp
                        simp only [Act.put, List.setIfInBounds_toArray, List.set_cons_zero, List.set_cons_succ]
                        refine wpAnyT_take (oi := ⟨some 63, Op.move (Operand.tmp 5), 3, _, _, none⟩) (v := .int .i64 i) rfl (fun _ _ _ h => h) (by rfl) (by assumption) (fun wS hSw => ?_) ?_
                        · (try dsimp only at hSw); go_simp
                        simp only [Act.put, List.setIfInBounds_toArray, List.set_cons_zero, List.set_cons_succ]
                        refine wpAnyT_take (oi := ⟨some 64, Op.binOp BinOp.add 3 (Operand.tmp 63) (Operand.const (Value.int IntKind.i64 1)) 3, 3, _, _, none⟩) (v := .int .i64 ((i : Int) + 1)) rfl (fun _ _ _ h => h) (by rfl) (by assumption) (fun wS hSw => ?_) ?_
                        · (try dsimp only at hSw); go_simp
                        simp only [Act.put, List.setIfInBounds_toArray, List.set_cons_zero, List.set_cons_succ]
                        refine wpAnyT_take (oi := ⟨some 65, Op.indexAddr 25 (Operand.tmp 62) (Operand.tmp 64), 0, _, _, none⟩) (v := .pointer (some ⟨b, o + (i + 1) * 2, none⟩)) rfl (fun _ _ _ h => h) (by rfl) (by assumption) (fun wS hSw => ?_) ?_
                        · (try dsimp only at hSw); go_simp
                        simp only [Act.put, List.setIfInBounds_toArray, List.set_cons_zero, List.set_cons_succ]
                        refine wpAnyT_take (oi := ⟨some 66, Op.load 24 (Operand.tmp 65), 24, _, _, none⟩) (v := .agg #[.int .i64 x2, .int .i64 x3]) rfl (fun _ _ _ h => h) (by rfl) (by assumption) (fun wS hSw => ?_) ?_
                        · (try dsimp only at hSw); go_simp
                        simp only [Act.put, List.setIfInBounds_toArray, List.set_cons_zero, List.set_cons_succ]
                        refine wpAnyT_take (oi := ⟨some 67, Op.move (Operand.tmp 0), 25, _, _, none⟩) (v := .slice (some ⟨b, o, none⟩) (m + 2) cap) rfl (fun _ _ _ h => h) (by rfl) (by assumption) (fun wS hSw => ?_) ?_
                        · (try dsimp only at hSw); go_simp
                        simp only [Act.put, List.setIfInBounds_toArray, List.set_cons_zero, List.set_cons_succ]
                        refine wpAnyT_end ?_
                        refine wpAnyH_listed #[true, true, true, true, true, true, true, true, true, true, false, false, false, false, false, false, false, false, false, false, false] (by kernel_rfl) ?_
                        refine wpAnyT_begin [10, 11, 12, 13, 14, 15, 16, 17, 19] (by kernel_rfl) (by kernel_rfl) ?_
                        refine wpAnyT_take (oi := ⟨some 68, Op.move (Operand.tmp 4), 3, _, _, none⟩) (v := .int .i64 k) rfl (fun _ _ _ h => h) (by rfl) (by assumption) (fun wS hSw => ?_) ?_
                        · (try dsimp only at hSw); go_simp
                        simp only [Act.put, List.setIfInBounds_toArray, List.set_cons_zero, List.set_cons_succ]
                        refine wpAnyT_take (oi := ⟨some 69, Op.indexAddr 25 (Operand.tmp 67) (Operand.tmp 68), 0, _, _, none⟩) (v := .pointer (some ⟨b, o + k * 2, none⟩)) rfl (fun _ _ _ h => h) (by rfl) (by assumption) (fun wS hSw => ?_) ?_
                        · (try dsimp only at hSw); go_simp
                        simp only [Act.put, List.setIfInBounds_toArray, List.set_cons_zero, List.set_cons_succ]
                        refine wpAnyT_take (oi := ⟨some 70, Op.load 24 (Operand.tmp 69), 24, _, _, none⟩) (v := .agg #[.int .i64 y0, .int .i64 y1]) rfl (fun _ _ _ h => h) (by rfl) (by assumption) (fun wS hSw => ?_) ?_
                        · (try dsimp only at hSw); go_simp
                        simp only [Act.put, List.setIfInBounds_toArray, List.set_cons_zero, List.set_cons_succ]
                        refine wpAnyT_take (oi := ⟨some 71, Op.move (Operand.tmp 0), 25, _, _, none⟩) (v := .slice (some ⟨b, o, none⟩) (m + 2) cap) rfl (fun _ _ _ h => h) (by rfl) (by assumption) (fun wS hSw => ?_) ?_
                        · (try dsimp only at hSw); go_simp
                        simp only [Act.put, List.setIfInBounds_toArray, List.set_cons_zero, List.set_cons_succ]
                        refine wpAnyT_take (oi := ⟨some 72, Op.move (Operand.tmp 4), 3, _, _, none⟩) (v := .int .i64 k) rfl (fun _ _ _ h => h) (by rfl) (by assumption) (fun wS hSw => ?_) ?_
                        · (try dsimp only at hSw); go_simp
                        simp only [Act.put, List.setIfInBounds_toArray, List.set_cons_zero, List.set_cons_succ]
                        refine wpAnyT_take (oi := ⟨some 73, Op.binOp BinOp.add 3 (Operand.tmp 72) (Operand.const (Value.int IntKind.i64 1)) 3, 3, _, _, none⟩) (v := .int .i64 ((k : Int) + 1)) rfl (fun _ _ _ h => h) (by rfl) (by assumption) (fun wS hSw => ?_) ?_
                        · (try dsimp only at hSw); go_simp
                        simp only [Act.put, List.setIfInBounds_toArray, List.set_cons_zero, List.set_cons_succ]
                        refine wpAnyT_take (oi := ⟨some 74, Op.indexAddr 25 (Operand.tmp 71) (Operand.tmp 73), 0, _, _, none⟩) (v := .pointer (some ⟨b, o + (k + 1) * 2, none⟩)) rfl (fun _ _ _ h => h) (by rfl) (by assumption) (fun wS hSw => ?_) ?_
                        · (try dsimp only at hSw); go_simp
                        simp only [Act.put, List.setIfInBounds_toArray, List.set_cons_zero, List.set_cons_succ]
                        refine wpAnyT_take (oi := ⟨some 75, Op.load 24 (Operand.tmp 74), 24, _, _, none⟩) (v := .agg #[.int .i64 y2, .int .i64 y3]) rfl (fun _ _ _ h => h) (by rfl) (by assumption) (fun wS hSw => ?_) ?_
                        · (try dsimp only at hSw); go_simp
                        simp only [Act.put, List.setIfInBounds_toArray, List.set_cons_zero, List.set_cons_succ]
                        refine wpAnyT_take (oi := ⟨some 77, Op.move (Operand.tmp 6), 3, _, _, none⟩) (v := .int .i64 1) rfl (fun _ _ _ h => h) (by rfl) (by assumption) (fun wS hSw => ?_) ?_
                        · (try dsimp only at hSw); go_simp
                        simp only [Act.put, List.setIfInBounds_toArray, List.set_cons_zero, List.set_cons_succ]
                        refine wpAnyT_end ?_
                        refine wpAnyH_listed #[true, true, true, true, true, true, true, true, true, true, true, true, true, true, true, true, true, true, false, true, false] (by kernel_rfl) ?_
                        refine wpAnyH_ready (rs := [18]) (by kernel_rfl) (by simp) ?_
                        refine AllReadyH.cons (o := ⟨some 76, Op.call { callee := Callee.value (Operand.func 57), args := #[Operand.tmp 61, Operand.tmp 66, Operand.tmp 70, Operand.tmp 75], argTypes := #[24, 24, 24, 24] }, 3, _, _, none⟩) rfl (fun K hK => ?_) AllReadyH.nil
                        go_simp
                        go_at_call 57
                        refine (Has.call XD (rmeet_is _ _ _ _ _ _ _ _ _ HMe.out _)).mono ?_
                        rintro e A3 ⟨rfl, X1⟩
                        go_wp2_with fail
                        clear hHeld
                        refine hK.out _ _ (ms1.out _ X1) (fun hHeld => ?_)
                        clear hK K
                        try simp only [List.setIfInBounds_toArray, List.set_cons_zero, List.set_cons_succ]
                        refine wpAnyH_listed #[true, true, true, true, true, true, true, true, true, true, true, true, true, true, true, true, true, true, true, true, false] (by kernel_rfl) ?_
                        refine wpAnyT_begin [20] (by kernel_rfl) (by kernel_rfl) ?_
                        refine wpAnyT_take (oi := ⟨some 78, Op.binOp BinOp.neq 3 (Operand.tmp 76) (Operand.tmp 77) 3, 4, _, _, none⟩) (v := .bool false) rfl (fun _ _ _ h => h) (by rfl) (by assumption) (fun wS hSw => ?_) ?_
                        · (try dsimp only at hSw); go_simp
                        simp only [Act.put, List.setIfInBounds_toArray, List.set_cons_zero, List.set_cons_succ]
                        refine wpAnyT_end ?_
                        refine wpAnyH_listed #[true, true, true, true, true, true, true, true, true, true, true, true, true, true, true, true, true, true, true, true, true] (by kernel_rfl) ?_
                        refine wpAnyH_done (by kernel_rfl) ?_ _
                        clear hHeld
                        go_wp2_with fail
                        go_roundw
                        case rel => exact ⟨i + 1, by omega, by go_num, Lib.hid (anyTo_no HB.out (by rw [HBB.out]; simp)), X1.low⟩
                        case measure => simp [RowKit.intOf]; omega
                      · have g1 : (X == 1) = false := by rw [beq_eq_false_iff_ne]; exact hxw
                        have g2 : (X != 1) = true := by rw [bne_iff_ne]; exact hxw
                        have ms1 := Lib.hid (show ∀ w', Has w [] w' → (w'.cell? ⟨b, o + i * 2, none⟩ = some (.int .i64 x0) ∧ w'.cell? ⟨b, o + i * 2 + 1, none⟩ = some (.int .i64 x1) ∧ w'.cell? ⟨b, o + (i + 1) * 2, none⟩ = some (.int .i64 x2) ∧ w'.cell? ⟨b, o + (i + 1) * 2 + 1, none⟩ = some (.int .i64 x3) ∧ w'.cell? ⟨b, o + k * 2, none⟩ = some (.int .i64 y0) ∧ w'.cell? ⟨b, o + k * 2 + 1, none⟩ = some (.int .i64 y1) ∧ w'.cell? ⟨b, o + (k + 1) * 2, none⟩ = some (.int .i64 y2) ∧ w'.cell? ⟨b, o + (k + 1) * 2 + 1, none⟩ = some (.int .i64 y3)) ∧ Has w [] w' from fun w' h => by
                          have hRb := HV.out.later h.low
                          exact ⟨⟨(hRb.cells HP0.out).1, (hRb.cells HP0.out).2, (hRb.cells HP1.out).1, (hRb.cells HP1.out).2, (hRb.cells HQ0.out).1, (hRb.cells HQ0.out).2, (hRb.cells HQ1.out).1, (hRb.cells HQ1.out).2⟩, h⟩)
                        refine wp_region_held_drew (S := (fun w' => (w'.cell? ⟨b, o + i * 2, none⟩ = some (.int .i64 x0) ∧ w'.cell? ⟨b, o + i * 2 + 1, none⟩ = some (.int .i64 x1) ∧ w'.cell? ⟨b, o + (i + 1) * 2, none⟩ = some (.int .i64 x2) ∧ w'.cell? ⟨b, o + (i + 1) * 2 + 1, none⟩ = some (.int .i64 x3) ∧ w'.cell? ⟨b, o + k * 2, none⟩ = some (.int .i64 y0) ∧ w'.cell? ⟨b, o + k * 2 + 1, none⟩ = some (.int .i64 y1) ∧ w'.cell? ⟨b, o + (k + 1) * 2, none⟩ = some (.int .i64 y2) ∧ w'.cell? ⟨b, o + (k + 1) * 2 + 1, none⟩ = some (.int .i64 y3)) ∧ Has w [] w')) (by kernel_rfl) (ms1.out _ XD) (fun hHeld => ?_)
                        refine wpAnyT_begin [0, 1, 2, 3, 4, 5, 6, 7, 8, 9] (by kernel_rfl) (by kernel_rfl) ?_
                        refine wpAnyT_take (oi := ⟨some 58, Op.move (Operand.tmp 0), 25, _, _, none⟩) (v := .slice (some ⟨b, o, none⟩) (m + 2) cap) rfl (fun _ _ _ h => h) (by rfl) (by assumption) (fun wS hSw => ?_) ?_
                        · (try dsimp only at hSw); go_simp
                        simp only [Act.put, List.setIfInBounds_toArray, List.set_cons_zero, List.set_cons_succ]
                        refine wpAnyT_take (oi := ⟨some 59, Op.move (Operand.tmp 5), 3, _, _, none⟩) (v := .int .i64 i) rfl (fun _ _ _ h => h) (by rfl) (by assumption) (fun wS hSw => ?_) ?_
                        · (try dsimp only at hSw); go_simp
                        simp only [Act.put, List.setIfInBounds_toArray, List.set_cons_zero, List.set_cons_succ]
                        refine wpAnyT_take (oi := ⟨some 60, Op.indexAddr 25 (Operand.tmp 58) (Operand.tmp 59), 0, _, _, none⟩) (v := .pointer (some ⟨b, o + i * 2, none⟩)) rfl (fun _ _ _ h => h) (by rfl) (by assumption) (fun wS hSw => ?_) ?_
                        · (try dsimp only at hSw); go_simp
                        simp only [Act.put, List.setIfInBounds_toArray, List.set_cons_zero, List.set_cons_succ]
                        refine wpAnyT_take (oi := ⟨some 61, Op.load 24 (Operand.tmp 60), 24, _, _, none⟩) (v := .agg #[.int .i64 x0, .int .i64 x1]) rfl (fun _ _ _ h => h) (by rfl) (by assumption) (fun wS hSw => ?_) ?_
                        · (try dsimp only at hSw); go_simp
                        simp only [Act.put, List.setIfInBounds_toArray, List.set_cons_zero, List.set_cons_succ]
                        refine wpAnyT_take (oi := ⟨some 62, Op.move (Operand.tmp 0), 25, _, _, none⟩) (v := .slice (some ⟨b, o, none⟩) (m + 2) cap) rfl (fun _ _ _ h => h) (by rfl) (by assumption) (fun wS hSw => ?_) ?_
                        · (try dsimp only at hSw); go_simp
                        simp only [Act.put, List.setIfInBounds_toArray, List.set_cons_zero, List.set_cons_succ]
                        refine wpAnyT_take (oi := ⟨some 63, Op.move (Operand.tmp 5), 3, _, _, none⟩) (v := .int .i64 i) rfl (fun _ _ _ h => h) (by rfl) (by assumption) (fun wS hSw => ?_) ?_
                        · (try dsimp only at hSw); go_simp
                        simp only [Act.put, List.setIfInBounds_toArray, List.set_cons_zero, List.set_cons_succ]
                        refine wpAnyT_take (oi := ⟨some 64, Op.binOp BinOp.add 3 (Operand.tmp 63) (Operand.const (Value.int IntKind.i64 1)) 3, 3, _, _, none⟩) (v := .int .i64 ((i : Int) + 1)) rfl (fun _ _ _ h => h) (by rfl) (by assumption) (fun wS hSw => ?_) ?_
                        · (try dsimp only at hSw); go_simp
                        simp only [Act.put, List.setIfInBounds_toArray, List.set_cons_zero, List.set_cons_succ]
                        refine wpAnyT_take (oi := ⟨some 65, Op.indexAddr 25 (Operand.tmp 62) (Operand.tmp 64), 0, _, _, none⟩) (v := .pointer (some ⟨b, o + (i + 1) * 2, none⟩)) rfl (fun _ _ _ h => h) (by rfl) (by assumption) (fun wS hSw => ?_) ?_
                        · (try dsimp only at hSw); go_simp
                        simp only [Act.put, List.setIfInBounds_toArray, List.set_cons_zero, List.set_cons_succ]
                        refine wpAnyT_take (oi := ⟨some 66, Op.load 24 (Operand.tmp 65), 24, _, _, none⟩) (v := .agg #[.int .i64 x2, .int .i64 x3]) rfl (fun _ _ _ h => h) (by rfl) (by assumption) (fun wS hSw => ?_) ?_
                        · (try dsimp only at hSw); go_simp
                        simp only [Act.put, List.setIfInBounds_toArray, List.set_cons_zero, List.set_cons_succ]
                        refine wpAnyT_take (oi := ⟨some 67, Op.move (Operand.tmp 0), 25, _, _, none⟩) (v := .slice (some ⟨b, o, none⟩) (m + 2) cap) rfl (fun _ _ _ h => h) (by rfl) (by assumption) (fun wS hSw => ?_) ?_
                        · (try dsimp only at hSw); go_simp
                        simp only [Act.put, List.setIfInBounds_toArray, List.set_cons_zero, List.set_cons_succ]
                        refine wpAnyT_end ?_
                        refine wpAnyH_listed #[true, true, true, true, true, true, true, true, true, true, false, false, false, false, false, false, false, false, false, false, false] (by kernel_rfl) ?_
                        refine wpAnyT_begin [10, 11, 12, 13, 14, 15, 16, 17, 19] (by kernel_rfl) (by kernel_rfl) ?_
                        refine wpAnyT_take (oi := ⟨some 68, Op.move (Operand.tmp 4), 3, _, _, none⟩) (v := .int .i64 k) rfl (fun _ _ _ h => h) (by rfl) (by assumption) (fun wS hSw => ?_) ?_
                        · (try dsimp only at hSw); go_simp
                        simp only [Act.put, List.setIfInBounds_toArray, List.set_cons_zero, List.set_cons_succ]
                        refine wpAnyT_take (oi := ⟨some 69, Op.indexAddr 25 (Operand.tmp 67) (Operand.tmp 68), 0, _, _, none⟩) (v := .pointer (some ⟨b, o + k * 2, none⟩)) rfl (fun _ _ _ h => h) (by rfl) (by assumption) (fun wS hSw => ?_) ?_
                        · (try dsimp only at hSw); go_simp
                        simp only [Act.put, List.setIfInBounds_toArray, List.set_cons_zero, List.set_cons_succ]
                        refine wpAnyT_take (oi := ⟨some 70, Op.load 24 (Operand.tmp 69), 24, _, _, none⟩) (v := .agg #[.int .i64 y0, .int .i64 y1]) rfl (fun _ _ _ h => h) (by rfl) (by assumption) (fun wS hSw => ?_) ?_
                        · (try dsimp only at hSw); go_simp
                        simp only [Act.put, List.setIfInBounds_toArray, List.set_cons_zero, List.set_cons_succ]
                        refine wpAnyT_take (oi := ⟨some 71, Op.move (Operand.tmp 0), 25, _, _, none⟩) (v := .slice (some ⟨b, o, none⟩) (m + 2) cap) rfl (fun _ _ _ h => h) (by rfl) (by assumption) (fun wS hSw => ?_) ?_
                        · (try dsimp only at hSw); go_simp
                        simp only [Act.put, List.setIfInBounds_toArray, List.set_cons_zero, List.set_cons_succ]
                        refine wpAnyT_take (oi := ⟨some 72, Op.move (Operand.tmp 4), 3, _, _, none⟩) (v := .int .i64 k) rfl (fun _ _ _ h => h) (by rfl) (by assumption) (fun wS hSw => ?_) ?_
                        · (try dsimp only at hSw); go_simp
                        simp only [Act.put, List.setIfInBounds_toArray, List.set_cons_zero, List.set_cons_succ]
                        refine wpAnyT_take (oi := ⟨some 73, Op.binOp BinOp.add 3 (Operand.tmp 72) (Operand.const (Value.int IntKind.i64 1)) 3, 3, _, _, none⟩) (v := .int .i64 ((k : Int) + 1)) rfl (fun _ _ _ h => h) (by rfl) (by assumption) (fun wS hSw => ?_) ?_
                        · (try dsimp only at hSw); go_simp
                        simp only [Act.put, List.setIfInBounds_toArray, List.set_cons_zero, List.set_cons_succ]
                        refine wpAnyT_take (oi := ⟨some 74, Op.indexAddr 25 (Operand.tmp 71) (Operand.tmp 73), 0, _, _, none⟩) (v := .pointer (some ⟨b, o + (k + 1) * 2, none⟩)) rfl (fun _ _ _ h => h) (by rfl) (by assumption) (fun wS hSw => ?_) ?_
                        · (try dsimp only at hSw); go_simp
                        simp only [Act.put, List.setIfInBounds_toArray, List.set_cons_zero, List.set_cons_succ]
                        refine wpAnyT_take (oi := ⟨some 75, Op.load 24 (Operand.tmp 74), 24, _, _, none⟩) (v := .agg #[.int .i64 y2, .int .i64 y3]) rfl (fun _ _ _ h => h) (by rfl) (by assumption) (fun wS hSw => ?_) ?_
                        · (try dsimp only at hSw); go_simp
                        simp only [Act.put, List.setIfInBounds_toArray, List.set_cons_zero, List.set_cons_succ]
                        refine wpAnyT_take (oi := ⟨some 77, Op.move (Operand.tmp 6), 3, _, _, none⟩) (v := .int .i64 1) rfl (fun _ _ _ h => h) (by rfl) (by assumption) (fun wS hSw => ?_) ?_
                        · (try dsimp only at hSw); go_simp
                        simp only [Act.put, List.setIfInBounds_toArray, List.set_cons_zero, List.set_cons_succ]
                        refine wpAnyT_end ?_
                        refine wpAnyH_listed #[true, true, true, true, true, true, true, true, true, true, true, true, true, true, true, true, true, true, false, true, false] (by kernel_rfl) ?_
                        refine wpAnyH_ready (rs := [18]) (by kernel_rfl) (by simp) ?_
                        refine AllReadyH.cons (o := ⟨some 76, Op.call { callee := Callee.value (Operand.func 57), args := #[Operand.tmp 61, Operand.tmp 66, Operand.tmp 70, Operand.tmp 75], argTypes := #[24, 24, 24, 24] }, 3, _, _, none⟩) rfl (fun K hK => ?_) AllReadyH.nil
                        go_simp
                        go_at_call 57
                        refine (Has.call XD (rmeet_is _ _ _ _ _ _ _ _ _ HMe.out _)).mono ?_
                        rintro e A3 ⟨rfl, X1⟩
                        go_wp2_with fail
                        clear hHeld
                        refine hK.out _ _ (ms1.out _ X1) (fun hHeld => ?_)
                        clear hK K
                        try simp only [List.setIfInBounds_toArray, List.set_cons_zero, List.set_cons_succ]
                        refine wpAnyH_listed #[true, true, true, true, true, true, true, true, true, true, true, true, true, true, true, true, true, true, true, true, false] (by kernel_rfl) ?_
                        refine wpAnyT_begin [20] (by kernel_rfl) (by kernel_rfl) ?_
                        refine wpAnyT_take (oi := ⟨some 78, Op.binOp BinOp.neq 3 (Operand.tmp 76) (Operand.tmp 77) 3, 4, _, _, none⟩) (v := .bool true) rfl (fun _ _ _ h => h) (by rfl) (by assumption) (fun wS hSw => ?_) ?_
                        · (try dsimp only at hSw); go_simp
                        simp only [Act.put, List.setIfInBounds_toArray, List.set_cons_zero, List.set_cons_succ]
                        refine wpAnyT_end ?_
                        refine wpAnyH_listed #[true, true, true, true, true, true, true, true, true, true, true, true, true, true, true, true, true, true, true, true, true] (by kernel_rfl) ?_
                        refine wpAnyH_done (by kernel_rfl) ?_ _
                        clear hHeld
                        go_wp2_with fail
                        go_ret
                        exact ⟨ret_i (by rw [HR.out, if_pos]; rw [← HF.out]; exact (anyTo_yes (by unfold badS2; rw [HQ.out, ← anyTo_yes (f := badM2 ps k) (k := i) (n := k) (by rw [HBB.out]; simp [hxw]) hli]; rfl) (show k < m + 1 by omega)).symm), X1.low⟩
                    · go_wp2_with fail
                      by_cases hxw : X = 0
                      · subst hxw
                        have ms1 := Lib.hid (show ∀ w', Has w [] w' → (w'.cell? ⟨b, o + i * 2, none⟩ = some (.int .i64 x0) ∧ w'.cell? ⟨b, o + i * 2 + 1, none⟩ = some (.int .i64 x1) ∧ w'.cell? ⟨b, o + (i + 1) * 2, none⟩ = some (.int .i64 x2) ∧ w'.cell? ⟨b, o + (i + 1) * 2 + 1, none⟩ = some (.int .i64 x3) ∧ w'.cell? ⟨b, o + k * 2, none⟩ = some (.int .i64 y0) ∧ w'.cell? ⟨b, o + k * 2 + 1, none⟩ = some (.int .i64 y1) ∧ w'.cell? ⟨b, o + (k + 1) * 2, none⟩ = some (.int .i64 y2) ∧ w'.cell? ⟨b, o + (k + 1) * 2 + 1, none⟩ = some (.int .i64 y3)) ∧ Has w [] w' from fun w' h => by
                          have hRb := HV.out.later h.low
                          exact ⟨⟨(hRb.cells HP0.out).1, (hRb.cells HP0.out).2, (hRb.cells HP1.out).1, (hRb.cells HP1.out).2, (hRb.cells HQ0.out).1, (hRb.cells HQ0.out).2, (hRb.cells HQ1.out).1, (hRb.cells HQ1.out).2⟩, h⟩)
                        refine wp_region_held_drew (S := (fun w' => (w'.cell? ⟨b, o + i * 2, none⟩ = some (.int .i64 x0) ∧ w'.cell? ⟨b, o + i * 2 + 1, none⟩ = some (.int .i64 x1) ∧ w'.cell? ⟨b, o + (i + 1) * 2, none⟩ = some (.int .i64 x2) ∧ w'.cell? ⟨b, o + (i + 1) * 2 + 1, none⟩ = some (.int .i64 x3) ∧ w'.cell? ⟨b, o + k * 2, none⟩ = some (.int .i64 y0) ∧ w'.cell? ⟨b, o + k * 2 + 1, none⟩ = some (.int .i64 y1) ∧ w'.cell? ⟨b, o + (k + 1) * 2, none⟩ = some (.int .i64 y2) ∧ w'.cell? ⟨b, o + (k + 1) * 2 + 1, none⟩ = some (.int .i64 y3)) ∧ Has w [] w')) (by kernel_rfl) (ms1.out _ XD) (fun hHeld => ?_)
                        refine wpAnyT_begin [0, 1, 2, 3, 4, 5, 6, 7, 8, 9] (by kernel_rfl) (by kernel_rfl) ?_
                        refine wpAnyT_take (oi := ⟨some 58, Op.move (Operand.tmp 0), 25, _, _, none⟩) (v := .slice (some ⟨b, o, none⟩) (m + 2) cap) rfl (fun _ _ _ h => h) (by rfl) (by assumption) (fun wS hSw => ?_) ?_
                        · (try dsimp only at hSw); go_simp
                        simp only [Act.put, List.setIfInBounds_toArray, List.set_cons_zero, List.set_cons_succ]
                        refine wpAnyT_take (oi := ⟨some 59, Op.move (Operand.tmp 5), 3, _, _, none⟩) (v := .int .i64 i) rfl (fun _ _ _ h => h) (by rfl) (by assumption) (fun wS hSw => ?_) ?_
                        · (try dsimp only at hSw); go_simp
                        simp only [Act.put, List.setIfInBounds_toArray, List.set_cons_zero, List.set_cons_succ]
                        refine wpAnyT_take (oi := ⟨some 60, Op.indexAddr 25 (Operand.tmp 58) (Operand.tmp 59), 0, _, _, none⟩) (v := .pointer (some ⟨b, o + i * 2, none⟩)) rfl (fun _ _ _ h => h) (by rfl) (by assumption) (fun wS hSw => ?_) ?_
                        · (try dsimp only at hSw); go_simp
                        simp only [Act.put, List.setIfInBounds_toArray, List.set_cons_zero, List.set_cons_succ]
                        refine wpAnyT_take (oi := ⟨some 61, Op.load 24 (Operand.tmp 60), 24, _, _, none⟩) (v := .agg #[.int .i64 x0, .int .i64 x1]) rfl (fun _ _ _ h => h) (by rfl) (by assumption) (fun wS hSw => ?_) ?_
                        · (try dsimp only at hSw); go_simp
                        simp only [Act.put, List.setIfInBounds_toArray, List.set_cons_zero, List.set_cons_succ]
                        refine wpAnyT_take (oi := ⟨some 62, Op.move (Operand.tmp 0), 25, _, _, none⟩) (v := .slice (some ⟨b, o, none⟩) (m + 2) cap) rfl (fun _ _ _ h => h) (by rfl) (by assumption) (fun wS hSw => ?_) ?_
                        · (try dsimp only at hSw); go_simp
                        simp only [Act.put, List.setIfInBounds_toArray, List.set_cons_zero, List.set_cons_succ]
                        refine wpAnyT_take (oi := ⟨some 63, Op.move (Operand.tmp 5), 3, _, _, none⟩) (v := .int .i64 i) rfl (fun _ _ _ h => h) (by rfl) (by assumption) (fun wS hSw => ?_) ?_
                        · (try dsimp only at hSw); go_simp
                        simp only [Act.put, List.setIfInBounds_toArray, List.set_cons_zero, List.set_cons_succ]
                        refine wpAnyT_take (oi := ⟨some 64, Op.binOp BinOp.add 3 (Operand.tmp 63) (Operand.const (Value.int IntKind.i64 1)) 3, 3, _, _, none⟩) (v := .int .i64 ((i : Int) + 1)) rfl (fun _ _ _ h => h) (by rfl) (by assumption) (fun wS hSw => ?_) ?_
                        · (try dsimp only at hSw); go_simp
                        simp only [Act.put, List.setIfInBounds_toArray, List.set_cons_zero, List.set_cons_succ]
                        refine wpAnyT_take (oi := ⟨some 65, Op.indexAddr 25 (Operand.tmp 62) (Operand.tmp 64), 0, _, _, none⟩) (v := .pointer (some ⟨b, o + (i + 1) * 2, none⟩)) rfl (fun _ _ _ h => h) (by rfl) (by assumption) (fun wS hSw => ?_) ?_
                        · (try dsimp only at hSw); go_simp
                        simp only [Act.put, List.setIfInBounds_toArray, List.set_cons_zero, List.set_cons_succ]
                        refine wpAnyT_take (oi := ⟨some 66, Op.load 24 (Operand.tmp 65), 24, _, _, none⟩) (v := .agg #[.int .i64 x2, .int .i64 x3]) rfl (fun _ _ _ h => h) (by rfl) (by assumption) (fun wS hSw => ?_) ?_
                        · (try dsimp only at hSw); go_simp
                        simp only [Act.put, List.setIfInBounds_toArray, List.set_cons_zero, List.set_cons_succ]
                        refine wpAnyT_take (oi := ⟨some 67, Op.move (Operand.tmp 0), 25, _, _, none⟩) (v := .slice (some ⟨b, o, none⟩) (m + 2) cap) rfl (fun _ _ _ h => h) (by rfl) (by assumption) (fun wS hSw => ?_) ?_
                        · (try dsimp only at hSw); go_simp
                        simp only [Act.put, List.setIfInBounds_toArray, List.set_cons_zero, List.set_cons_succ]
                        refine wpAnyT_end ?_
                        refine wpAnyH_listed #[true, true, true, true, true, true, true, true, true, true, false, false, false, false, false, false, false, false, false, false, false] (by kernel_rfl) ?_
                        refine wpAnyT_begin [10, 11, 12, 13, 14, 15, 16, 17, 19] (by kernel_rfl) (by kernel_rfl) ?_
                        refine wpAnyT_take (oi := ⟨some 68, Op.move (Operand.tmp 4), 3, _, _, none⟩) (v := .int .i64 k) rfl (fun _ _ _ h => h) (by rfl) (by assumption) (fun wS hSw => ?_) ?_
                        · (try dsimp only at hSw); go_simp
                        simp only [Act.put, List.setIfInBounds_toArray, List.set_cons_zero, List.set_cons_succ]
                        refine wpAnyT_take (oi := ⟨some 69, Op.indexAddr 25 (Operand.tmp 67) (Operand.tmp 68), 0, _, _, none⟩) (v := .pointer (some ⟨b, o + k * 2, none⟩)) rfl (fun _ _ _ h => h) (by rfl) (by assumption) (fun wS hSw => ?_) ?_
                        · (try dsimp only at hSw); go_simp
                        simp only [Act.put, List.setIfInBounds_toArray, List.set_cons_zero, List.set_cons_succ]
                        refine wpAnyT_take (oi := ⟨some 70, Op.load 24 (Operand.tmp 69), 24, _, _, none⟩) (v := .agg #[.int .i64 y0, .int .i64 y1]) rfl (fun _ _ _ h => h) (by rfl) (by assumption) (fun wS hSw => ?_) ?_
                        · (try dsimp only at hSw); go_simp
                        simp only [Act.put, List.setIfInBounds_toArray, List.set_cons_zero, List.set_cons_succ]
                        refine wpAnyT_take (oi := ⟨some 71, Op.move (Operand.tmp 0), 25, _, _, none⟩) (v := .slice (some ⟨b, o, none⟩) (m + 2) cap) rfl (fun _ _ _ h => h) (by rfl) (by assumption) (fun wS hSw => ?_) ?_
                        · (try dsimp only at hSw); go_simp
                        simp only [Act.put, List.setIfInBounds_toArray, List.set_cons_zero, List.set_cons_succ]
                        refine wpAnyT_take (oi := ⟨some 72, Op.move (Operand.tmp 4), 3, _, _, none⟩) (v := .int .i64 k) rfl (fun _ _ _ h => h) (by rfl) (by assumption) (fun wS hSw => ?_) ?_
                        · (try dsimp only at hSw); go_simp
                        simp only [Act.put, List.setIfInBounds_toArray, List.set_cons_zero, List.set_cons_succ]
                        refine wpAnyT_take (oi := ⟨some 73, Op.binOp BinOp.add 3 (Operand.tmp 72) (Operand.const (Value.int IntKind.i64 1)) 3, 3, _, _, none⟩) (v := .int .i64 ((k : Int) + 1)) rfl (fun _ _ _ h => h) (by rfl) (by assumption) (fun wS hSw => ?_) ?_
                        · (try dsimp only at hSw); go_simp
                        simp only [Act.put, List.setIfInBounds_toArray, List.set_cons_zero, List.set_cons_succ]
                        refine wpAnyT_take (oi := ⟨some 74, Op.indexAddr 25 (Operand.tmp 71) (Operand.tmp 73), 0, _, _, none⟩) (v := .pointer (some ⟨b, o + (k + 1) * 2, none⟩)) rfl (fun _ _ _ h => h) (by rfl) (by assumption) (fun wS hSw => ?_) ?_
                        · (try dsimp only at hSw); go_simp
                        simp only [Act.put, List.setIfInBounds_toArray, List.set_cons_zero, List.set_cons_succ]
                        refine wpAnyT_take (oi := ⟨some 75, Op.load 24 (Operand.tmp 74), 24, _, _, none⟩) (v := .agg #[.int .i64 y2, .int .i64 y3]) rfl (fun _ _ _ h => h) (by rfl) (by assumption) (fun wS hSw => ?_) ?_
                        · (try dsimp only at hSw); go_simp
                        simp only [Act.put, List.setIfInBounds_toArray, List.set_cons_zero, List.set_cons_succ]
                        refine wpAnyT_take (oi := ⟨some 77, Op.move (Operand.tmp 6), 3, _, _, none⟩) (v := .int .i64 0) rfl (fun _ _ _ h => h) (by rfl) (by assumption) (fun wS hSw => ?_) ?_
                        · (try dsimp only at hSw); go_simp
                        simp only [Act.put, List.setIfInBounds_toArray, List.set_cons_zero, List.set_cons_succ]
                        refine wpAnyT_end ?_
                        refine wpAnyH_listed #[true, true, true, true, true, true, true, true, true, true, true, true, true, true, true, true, true, true, false, true, false] (by kernel_rfl) ?_
                        refine wpAnyH_ready (rs := [18]) (by kernel_rfl) (by simp) ?_
                        refine AllReadyH.cons (o := ⟨some 76, Op.call { callee := Callee.value (Operand.func 57), args := #[Operand.tmp 61, Operand.tmp 66, Operand.tmp 70, Operand.tmp 75], argTypes := #[24, 24, 24, 24] }, 3, _, _, none⟩) rfl (fun K hK => ?_) AllReadyH.nil
                        go_simp
                        go_at_call 57
                        refine (Has.call XD (rmeet_is _ _ _ _ _ _ _ _ _ HMe.out _)).mono ?_
                        rintro e A3 ⟨rfl, X1⟩
                        go_wp2_with fail
                        clear hHeld
                        refine hK.out _ _ (ms1.out _ X1) (fun hHeld => ?_)
                        clear hK K
                        try simp only [List.setIfInBounds_toArray, List.set_cons_zero, List.set_cons_succ]
                        refine wpAnyH_listed #[true, true, true, true, true, true, true, true, true, true, true, true, true, true, true, true, true, true, true, true, false] (by kernel_rfl) ?_
                        refine wpAnyT_begin [20] (by kernel_rfl) (by kernel_rfl) ?_
                        refine wpAnyT_take (oi := ⟨some 78, Op.binOp BinOp.neq 3 (Operand.tmp 76) (Operand.tmp 77) 3, 4, _, _, none⟩) (v := .bool false) rfl (fun _ _ _ h => h) (by rfl) (by assumption) (fun wS hSw => ?_) ?_
                        · (try dsimp only at hSw); go_simp
                        simp only [Act.put, List.setIfInBounds_toArray, List.set_cons_zero, List.set_cons_succ]
                        refine wpAnyT_end ?_
                        refine wpAnyH_listed #[true, true, true, true, true, true, true, true, true, true, true, true, true, true, true, true, true, true, true, true, true] (by kernel_rfl) ?_
                        refine wpAnyH_done (by kernel_rfl) ?_ _
                        clear hHeld
                        go_wp2_with fail
                        go_roundw
                        case rel => exact ⟨i + 1, by omega, by go_num, Lib.hid (anyTo_no HB.out (by rw [HBB.out]; simp)), X1.low⟩
                        case measure => simp [RowKit.intOf]; omega
                      · have g1 : (X == 0) = false := by rw [beq_eq_false_iff_ne]; exact hxw
                        have g2 : (X != 0) = true := by rw [bne_iff_ne]; exact hxw
                        have ms1 := Lib.hid (show ∀ w', Has w [] w' → (w'.cell? ⟨b, o + i * 2, none⟩ = some (.int .i64 x0) ∧ w'.cell? ⟨b, o + i * 2 + 1, none⟩ = some (.int .i64 x1) ∧ w'.cell? ⟨b, o + (i + 1) * 2, none⟩ = some (.int .i64 x2) ∧ w'.cell? ⟨b, o + (i + 1) * 2 + 1, none⟩ = some (.int .i64 x3) ∧ w'.cell? ⟨b, o + k * 2, none⟩ = some (.int .i64 y0) ∧ w'.cell? ⟨b, o + k * 2 + 1, none⟩ = some (.int .i64 y1) ∧ w'.cell? ⟨b, o + (k + 1) * 2, none⟩ = some (.int .i64 y2) ∧ w'.cell? ⟨b, o + (k + 1) * 2 + 1, none⟩ = some (.int .i64 y3)) ∧ Has w [] w' from fun w' h => by
                          have hRb := HV.out.later h.low
                          exact ⟨⟨(hRb.cells HP0.out).1, (hRb.cells HP0.out).2, (hRb.cells HP1.out).1, (hRb.cells HP1.out).2, (hRb.cells HQ0.out).1, (hRb.cells HQ0.out).2, (hRb.cells HQ1.out).1, (hRb.cells HQ1.out).2⟩, h⟩)
                        refine wp_region_held_drew (S := (fun w' => (w'.cell? ⟨b, o + i * 2, none⟩ = some (.int .i64 x0) ∧ w'.cell? ⟨b, o + i * 2 + 1, none⟩ = some (.int .i64 x1) ∧ w'.cell? ⟨b, o + (i + 1) * 2, none⟩ = some (.int .i64 x2) ∧ w'.cell? ⟨b, o + (i + 1) * 2 + 1, none⟩ = some (.int .i64 x3) ∧ w'.cell? ⟨b, o + k * 2, none⟩ = some (.int .i64 y0) ∧ w'.cell? ⟨b, o + k * 2 + 1, none⟩ = some (.int .i64 y1) ∧ w'.cell? ⟨b, o + (k + 1) * 2, none⟩ = some (.int .i64 y2) ∧ w'.cell? ⟨b, o + (k + 1) * 2 + 1, none⟩ = some (.int .i64 y3)) ∧ Has w [] w')) (by kernel_rfl) (ms1.out _ XD) (fun hHeld => ?_)
                        refine wpAnyT_begin [0, 1, 2, 3, 4, 5, 6, 7, 8, 9] (by kernel_rfl) (by kernel_rfl) ?_
                        refine wpAnyT_take (oi := ⟨some 58, Op.move (Operand.tmp 0), 25, _, _, none⟩) (v := .slice (some ⟨b, o, none⟩) (m + 2) cap) rfl (fun _ _ _ h => h) (by rfl) (by assumption) (fun wS hSw => ?_) ?_
                        · (try dsimp only at hSw); go_simp
                        simp only [Act.put, List.setIfInBounds_toArray, List.set_cons_zero, List.set_cons_succ]
                        refine wpAnyT_take (oi := ⟨some 59, Op.move (Operand.tmp 5), 3, _, _, none⟩) (v := .int .i64 i) rfl (fun _ _ _ h => h) (by rfl) (by assumption) (fun wS hSw => ?_) ?_
                        · (try dsimp only at hSw); go_simp
                        simp only [Act.put, List.setIfInBounds_toArray, List.set_cons_zero, List.set_cons_succ]
                        refine wpAnyT_take (oi := ⟨some 60, Op.indexAddr 25 (Operand.tmp 58) (Operand.tmp 59), 0, _, _, none⟩) (v := .pointer (some ⟨b, o + i * 2, none⟩)) rfl (fun _ _ _ h => h) (by rfl) (by assumption) (fun wS hSw => ?_) ?_
                        · (try dsimp only at hSw); go_simp
                        simp only [Act.put, List.setIfInBounds_toArray, List.set_cons_zero, List.set_cons_succ]
                        refine wpAnyT_take (oi := ⟨some 61, Op.load 24 (Operand.tmp 60), 24, _, _, none⟩) (v := .agg #[.int .i64 x0, .int .i64 x1]) rfl (fun _ _ _ h => h) (by rfl) (by assumption) (fun wS hSw => ?_) ?_
                        · (try dsimp only at hSw); go_simp
                        simp only [Act.put, List.setIfInBounds_toArray, List.set_cons_zero, List.set_cons_succ]
                        refine wpAnyT_take (oi := ⟨some 62, Op.move (Operand.tmp 0), 25, _, _, none⟩) (v := .slice (some ⟨b, o, none⟩) (m + 2) cap) rfl (fun _ _ _ h => h) (by rfl) (by assumption) (fun wS hSw => ?_) ?_
                        · (try dsimp only at hSw); go_simp
                        simp only [Act.put, List.setIfInBounds_toArray, List.set_cons_zero, List.set_cons_succ]
                        refine wpAnyT_take (oi := ⟨some 63, Op.move (Operand.tmp 5), 3, _, _, none⟩) (v := .int .i64 i) rfl (fun _ _ _ h => h) (by rfl) (by assumption) (fun wS hSw => ?_) ?_
                        · (try dsimp only at hSw); go_simp
                        simp only [Act.put, List.setIfInBounds_toArray, List.set_cons_zero, List.set_cons_succ]
                        refine wpAnyT_take (oi := ⟨some 64, Op.binOp BinOp.add 3 (Operand.tmp 63) (Operand.const (Value.int IntKind.i64 1)) 3, 3, _, _, none⟩) (v := .int .i64 ((i : Int) + 1)) rfl (fun _ _ _ h => h) (by rfl) (by assumption) (fun wS hSw => ?_) ?_
                        · (try dsimp only at hSw); go_simp
                        simp only [Act.put, List.setIfInBounds_toArray, List.set_cons_zero, List.set_cons_succ]
                        refine wpAnyT_take (oi := ⟨some 65, Op.indexAddr 25 (Operand.tmp 62) (Operand.tmp 64), 0, _, _, none⟩) (v := .pointer (some ⟨b, o + (i + 1) * 2, none⟩)) rfl (fun _ _ _ h => h) (by rfl) (by assumption) (fun wS hSw => ?_) ?_
                        · (try dsimp only at hSw); go_simp
                        simp only [Act.put, List.setIfInBounds_toArray, List.set_cons_zero, List.set_cons_succ]
                        refine wpAnyT_take (oi := ⟨some 66, Op.load 24 (Operand.tmp 65), 24, _, _, none⟩) (v := .agg #[.int .i64 x2, .int .i64 x3]) rfl (fun _ _ _ h => h) (by rfl) (by assumption) (fun wS hSw => ?_) ?_
                        · (try dsimp only at hSw); go_simp
                        simp only [Act.put, List.setIfInBounds_toArray, List.set_cons_zero, List.set_cons_succ]
                        refine wpAnyT_take (oi := ⟨some 67, Op.move (Operand.tmp 0), 25, _, _, none⟩) (v := .slice (some ⟨b, o, none⟩) (m + 2) cap) rfl (fun _ _ _ h => h) (by rfl) (by assumption) (fun wS hSw => ?_) ?_
                        · (try dsimp only at hSw); go_simp
                        simp only [Act.put, List.setIfInBounds_toArray, List.set_cons_zero, List.set_cons_succ]
                        refine wpAnyT_end ?_
                        refine wpAnyH_listed #[true, true, true, true, true, true, true, true, true, true, false, false, false, false, false, false, false, false, false, false, false] (by kernel_rfl) ?_
                        refine wpAnyT_begin [10, 11, 12, 13, 14, 15, 16, 17, 19] (by kernel_rfl) (by kernel_rfl) ?_
                        refine wpAnyT_take (oi := ⟨some 68, Op.move (Operand.tmp 4), 3, _, _, none⟩) (v := .int .i64 k) rfl (fun _ _ _ h => h) (by rfl) (by assumption) (fun wS hSw => ?_) ?_
                        · (try dsimp only at hSw); go_simp
                        simp only [Act.put, List.setIfInBounds_toArray, List.set_cons_zero, List.set_cons_succ]
                        refine wpAnyT_take (oi := ⟨some 69, Op.indexAddr 25 (Operand.tmp 67) (Operand.tmp 68), 0, _, _, none⟩) (v := .pointer (some ⟨b, o + k * 2, none⟩)) rfl (fun _ _ _ h => h) (by rfl) (by assumption) (fun wS hSw => ?_) ?_
                        · (try dsimp only at hSw); go_simp
                        simp only [Act.put, List.setIfInBounds_toArray, List.set_cons_zero, List.set_cons_succ]
                        refine wpAnyT_take (oi := ⟨some 70, Op.load 24 (Operand.tmp 69), 24, _, _, none⟩) (v := .agg #[.int .i64 y0, .int .i64 y1]) rfl (fun _ _ _ h => h) (by rfl) (by assumption) (fun wS hSw => ?_) ?_
                        · (try dsimp only at hSw); go_simp
                        simp only [Act.put, List.setIfInBounds_toArray, List.set_cons_zero, List.set_cons_succ]
                        refine wpAnyT_take (oi := ⟨some 71, Op.move (Operand.tmp 0), 25, _, _, none⟩) (v := .slice (some ⟨b, o, none⟩) (m + 2) cap) rfl (fun _ _ _ h => h) (by rfl) (by assumption) (fun wS hSw => ?_) ?_
                        · (try dsimp only at hSw); go_simp
                        simp only [Act.put, List.setIfInBounds_toArray, List.set_cons_zero, List.set_cons_succ]
                        refine wpAnyT_take (oi := ⟨some 72, Op.move (Operand.tmp 4), 3, _, _, none⟩) (v := .int .i64 k) rfl (fun _ _ _ h => h) (by rfl) (by assumption) (fun wS hSw => ?_) ?_
                        · (try dsimp only at hSw); go_simp
                        simp only [Act.put, List.setIfInBounds_toArray, List.set_cons_zero, List.set_cons_succ]
                        refine wpAnyT_take (oi := ⟨some 73, Op.binOp BinOp.add 3 (Operand.tmp 72) (Operand.const (Value.int IntKind.i64 1)) 3, 3, _, _, none⟩) (v := .int .i64 ((k : Int) + 1)) rfl (fun _ _ _ h => h) (by rfl) (by assumption) (fun wS hSw => ?_) ?_
                        · (try dsimp only at hSw); go_simp
                        simp only [Act.put, List.setIfInBounds_toArray, List.set_cons_zero, List.set_cons_succ]
                        refine wpAnyT_take (oi := ⟨some 74, Op.indexAddr 25 (Operand.tmp 71) (Operand.tmp 73), 0, _, _, none⟩) (v := .pointer (some ⟨b, o + (k + 1) * 2, none⟩)) rfl (fun _ _ _ h => h) (by rfl) (by assumption) (fun wS hSw => ?_) ?_
                        · (try dsimp only at hSw); go_simp
                        simp only [Act.put, List.setIfInBounds_toArray, List.set_cons_zero, List.set_cons_succ]
                        refine wpAnyT_take (oi := ⟨some 75, Op.load 24 (Operand.tmp 74), 24, _, _, none⟩) (v := .agg #[.int .i64 y2, .int .i64 y3]) rfl (fun _ _ _ h => h) (by rfl) (by assumption) (fun wS hSw => ?_) ?_
                        · (try dsimp only at hSw); go_simp
                        simp only [Act.put, List.setIfInBounds_toArray, List.set_cons_zero, List.set_cons_succ]
                        refine wpAnyT_take (oi := ⟨some 77, Op.move (Operand.tmp 6), 3, _, _, none⟩) (v := .int .i64 0) rfl (fun _ _ _ h => h) (by rfl) (by assumption) (fun wS hSw => ?_) ?_
                        · (try dsimp only at hSw); go_simp
                        simp only [Act.put, List.setIfInBounds_toArray, List.set_cons_zero, List.set_cons_succ]
                        refine wpAnyT_end ?_
                        refine wpAnyH_listed #[true, true, true, true, true, true, true, true, true, true, true, true, true, true, true, true, true, true, false, true, false] (by kernel_rfl) ?_
                        refine wpAnyH_ready (rs := [18]) (by kernel_rfl) (by simp) ?_
                        refine AllReadyH.cons (o := ⟨some 76, Op.call { callee := Callee.value (Operand.func 57), args := #[Operand.tmp 61, Operand.tmp 66, Operand.tmp 70, Operand.tmp 75], argTypes := #[24, 24, 24, 24] }, 3, _, _, none⟩) rfl (fun K hK => ?_) AllReadyH.nil
                        go_simp
                        go_at_call 57
                        refine (Has.call XD (rmeet_is _ _ _ _ _ _ _ _ _ HMe.out _)).mono ?_
                        rintro e A3 ⟨rfl, X1⟩
                        go_wp2_with fail
                        clear hHeld
                        refine hK.out _ _ (ms1.out _ X1) (fun hHeld => ?_)
                        clear hK K
                        try simp only [List.setIfInBounds_toArray, List.set_cons_zero, List.set_cons_succ]
                        refine wpAnyH_listed #[true, true, true, true, true, true, true, true, true, true, true, true, true, true, true, true, true, true, true, true, false] (by kernel_rfl) ?_
                        refine wpAnyT_begin [20] (by kernel_rfl) (by kernel_rfl) ?_
                        refine wpAnyT_take (oi := ⟨some 78, Op.binOp BinOp.neq 3 (Operand.tmp 76) (Operand.tmp 77) 3, 4, _, _, none⟩) (v := .bool true) rfl (fun _ _ _ h => h) (by rfl) (by assumption) (fun wS hSw => ?_) ?_
                        · (try dsimp only at hSw); go_simp
                        simp only [Act.put, List.setIfInBounds_toArray, List.set_cons_zero, List.set_cons_succ]
                        refine wpAnyT_end ?_
                        refine wpAnyH_listed #[true, true, true, true, true, true, true, true, true, true, true, true, true, true, true, true, true, true, true, true, true] (by kernel_rfl) ?_
                        refine wpAnyH_done (by kernel_rfl) ?_ _
                        clear hHeld
                        go_wp2_with fail
                        go_ret
                        exact ⟨ret_i (by rw [HR.out, if_pos]; rw [← HF.out]; exact (anyTo_yes (by unfold badS2; rw [HQ.out, ← anyTo_yes (f := badM2 ps k) (k := i) (n := k) (by rw [HBB.out]; simp [hxw]) hli]; rfl) (show k < m + 1 by omega)).symm), X1.low⟩
                · obtain rfl : i = k := by omega
                  go_wp2_with fail
                  go_roundw
                  case rel => exact ⟨i + 1, by omega, by go_num, Lib.hid (anyTo_no HA.out (by unfold badS2; rw [HQ.out, HB.out]; rfl)), hI⟩
                  case measure => simp [RowKit.intOf]; omega
          · obtain rfl : k = m + 1 := by omega
            go_wp2_with fail
            go_ret
            exact ⟨ret_i (by rw [HR.out, if_neg]; rw [← HF.out, HA.out]; simp), hG⟩

end Go.Proofs.Ytmldgjhecoeldaa
