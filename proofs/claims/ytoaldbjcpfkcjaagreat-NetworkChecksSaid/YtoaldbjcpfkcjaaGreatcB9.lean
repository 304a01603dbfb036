/- The reference: Check. ring.segments: what it hands back hands out the segments of a ring. ring.Area2. The reference: next and Area2. ring.Check. Check and Cross are the reference's. The reference: Check of a ring. -/
import Derived.Test.YtoaldbjcpfkcjaaGreatcB8
import Derived.Test.YtoaldbjcpfkcjaaGreatcB6
import Derived.Test.YtoaldbjcpfkcjaaGreatcB5
import Derived.Test.YtoaldbjcpfkcjaaGreatcB7
namespace Go.Proofs.YtoaldbjcpfkcjaaGreat
open Go.RowKit Go.Lib

/-- How often the segments i and j of a list meet; whether that is not what is wanted. -/
def mK (ps : List (Int × Int)) (i j : Nat) : Int := meetOf (pt ps i).1 (pt ps i).2 (pt ps (i + 1)).1 (pt ps (i + 1)).2 (pt ps j).1 (pt ps j).2 (pt ps (j + 1)).1 (pt ps (j + 1)).2
def badM2 (ps : List (Int × Int)) (j i : Nat) : Bool := decide (mK ps i j ≠ wantP ps i j)
def badS2 (ps : List (Int × Int)) (j : Nat) : Bool := decide (pt ps j = pt ps (j + 1)) || anyTo (badM2 ps j) j
def simpleR (ps : List (Int × Int)) : Bool := !anyTo (badS2 ps) (ps.length - 1)

set_option linter.unusedSimpArgs false in
set_option maxRecDepth 100000 in
set_option maxHeartbeats 16000000 in
theorem rcheck_any (v : Value) (ps : List (Int × Int)) (w : World) (hv : RowP w v ps) :
  Calls Tryz.prog 34 #[v] w fun e w' => e = .returned (.int .i64 (chkP ps (simpleR ps))) ∧ Below w.heap.size w w' := by
 have hv0 := hv
 obtain ⟨a, cap, rfl, hc1, hc2, -⟩ := hv0
 have HV := Lib.hid hv
 clear hv
 by_cases h1 : ps.length < 2
 ·have HR := Lib.hid (show chkP ps (simpleR ps) = 2 by unfold chkP; rw [if_pos (.inl h1)])
  have e1 : decide ((ps.length : Int) < 2) = true := decide_eq_true (by omega)
  go_enter Tryz.func34, Tryz.ntmps34
  go_wp2_with fail
  go_ret
  exact ⟨ret_i HR.out.symm, by go_grown⟩
 ·have e1 : decide ((ps.length : Int) < 2) = false := decide_eq_false (by omega)
  by_cases h2 : 40 < ps.length
  ·have HR := Lib.hid (show chkP ps (simpleR ps) = 2 by unfold chkP; rw [if_pos (.inr h2)])
   have e2 : decide ((40 : Int) < (ps.length : Int)) = true := decide_eq_true (by omega)
   clear h1 h2
   go_enter Tryz.func34, Tryz.ntmps34
   go_wp2_with fail
   go_ret
   exact ⟨ret_i HR.out.symm, by go_grown⟩
  ·have e2 : decide ((40 : Int) < (ps.length : Int)) = false := decide_eq_false (by omega)
   cases h3 : ps.all rtP
   ·have HR := Lib.hid (show chkP ps (simpleR ps) = 10 by unfold chkP; rw [if_neg (by omega), if_pos h3])
    have H3 := Lib.hid h3
    clear h1 h2 h3
    go_enter Tryz.func34, Tryz.ntmps34
    go_wp2_with fail
    refine (fine_is _ ps w HV.out _ H3.out).mono ?_
    rintro e w1 ⟨rfl, g1⟩
    go_wp2_with fail
    go_ret
    exact ⟨ret_i HR.out.symm, g1⟩
   ·obtain ⟨r, hr⟩ : ∃ r, anyTo (badS2 ps) (ps.length - 1) = r := ⟨_, rfl⟩
    have hR : chkP ps (simpleR ps) = if r = true then 11 else 0 := by
     unfold chkP simpleR
     rw [if_neg (by omega), if_neg (by rw [h3]; simp), hr]
     cases r <;> rfl
    obtain ⟨m, hm⟩ : ∃ m, ps.length = m + 2 := ⟨ps.length - 2, by omega⟩
    rw [hm] at e1 e2 hc1 hr HV ⊢
    rw [show m + 2 - 1 = m + 1 by omega] at hr
    have hm40 : m ≤ 38 := by omega
    have H3 := Lib.hid h3
    have HM := Lib.hid hm
    have HF := Lib.hid hr
    have HR := Lib.hid hR
    clear h1 h2 h3 hm hr hR
    have s2 : IntKind.i64.wrap ((m : Int) + 2 - 2) = (m : Int) := by rw [IntWalk.i64_in _ (by omega)]; omega
    go_enter Tryz.func34, Tryz.ntmps34
    go_wp2_with fail
    refine (fine_is _ ps w HV.out _ H3.out).mono ?_
    rintro e w1 ⟨rfl, g1⟩
    go_wp2_with fail
    go_loopw [4] (fun i wr => ∃ k : Nat, k ≤ m + 1 ∧ i = .int .i64 k ∧ Hid (anyTo (badS2 ps) k = false) ∧ Grows w wr) (fun i _ => m + 1 - (RowKit.intOf i).toNat)
    case atStart => exact ⟨0, Nat.zero_le _, rfl, Lib.hid rfl, g1⟩
    case round =>
     obtain ⟨k, hk, rfl, HA, hG⟩ := hrel
     clear e1 e2
     by_cases hlt : k < m + 1
     ·have hR := HV.out.later hG
      obtain ⟨b, o, rfl, -⟩ := hR.spot (by rw [HM.out]; omega)
      have q0 : ps[k]? = some ((pt ps k).1, (pt ps k).2) := at_pt (by rw [HM.out]; omega)
      have q1 : ps[k + 1]? = some ((pt ps (k + 1)).1, (pt ps (k + 1)).2) := at_pt (by rw [HM.out]; omega)
      obtain ⟨c0, c1⟩ := hR.cells q0
      obtain ⟨c2, c3⟩ := hR.cells q1
      obtain ⟨q, hq⟩ : ∃ q, decide (pt ps k = pt ps (k + 1)) = q := ⟨_, rfl⟩
      have he := eq3 (pt ps k).1 (pt ps k).2 (pt ps (k + 1)).1 (pt ps (k + 1)).2
      rw [show decide (((pt ps k).1, (pt ps k).2) = ((pt ps (k + 1)).1, (pt ps (k + 1)).2)) = decide (pt ps k = pt ps (k + 1)) from rfl, hq] at he
      have HQ := Lib.hid hq
      have HQ0 := Lib.hid q0
      have HQ1 := Lib.hid q1
      clear hq q0 q1 hR
      generalize hy0 : (pt ps k).1 = y0 at *
      generalize hy1 : (pt ps k).2 = y1 at *
      generalize hy2 : (pt ps (k + 1)).1 = y2 at *
      generalize hy3 : (pt ps (k + 1)).2 = y3 at *
      have HY0 := Lib.hid hy0
      have HY1 := Lib.hid hy1
      have HY2 := Lib.hid hy2
      have HY3 := Lib.hid hy3
      clear hy0 hy1 hy2 hy3
      have ks : IntKind.i64.wrap ((k : Int) + 1) = ((k + 1 : Nat) : Int) := by rw [IntWalk.i64_in _ (by omega)]; rfl
      have b1 : (k : Int) < m + 2 := by omega
      have b3 : (k : Int) + 1 < m + 2 := by omega
      have b4 : (0 : Int) ≤ (k : Int) + 1 := by omega
      have b5 : ((k : Int) + 1).toNat = k + 1 := by omega
      have b6 : (0 : Int) ≤ k := by omega
      have b7 : (k : Int) ≤ m := by omega
      rcases he with ⟨e1, e2, e3⟩ | ⟨e1, e2, e3⟩ | ⟨e1, e3⟩
      ·subst e3
       go_wp2_with fail
       go_region
       go_wp2_with fail
       go_ret
       exact ⟨ret_i (by rw [HR.out, if_pos]; rw [← HF.out]; exact (anyTo_yes (by unfold badS2; rw [HQ.out]; rfl) (show k < m + 1 by omega)).symm), hG.then ((Below.refl _ _).drew)⟩
      all_goals
       subst e3
       go_wp2_with fail
       go_region
       clear c0 c1 c2 c3 e1
       try clear e2
       have hG1 := hG.then ((Below.refl _ wr).drew)
       generalize wr.drew = wq at *
       go_wp2_with fail
       go_loopw [5] (fun z wz => ∃ i : Nat, i ≤ k ∧ z = .int .i64 i ∧ Hid (anyTo (badM2 ps k) i = false) ∧ Grows w wz) (fun z _ => k - (RowKit.intOf z).toNat)
       case atStart => exact ⟨0, Nat.zero_le _, rfl, Lib.hid rfl, hG1⟩
       case round =>
        clear hG1
        obtain ⟨i, hi, rfl, HB, hI⟩ := hrel
        by_cases hli : i < k
        ·have p0 : ps[i]? = some ((pt ps i).1, (pt ps i).2) := at_pt (by rw [HM.out]; omega)
         have p1 : ps[i + 1]? = some ((pt ps (i + 1)).1, (pt ps (i + 1)).2) := at_pt (by rw [HM.out]; omega)
         have hm : mK ps i k = meetOf (pt ps i).1 (pt ps i).2 (pt ps (i + 1)).1 (pt ps (i + 1)).2 y0 y1 y2 y3 := by unfold mK; rw [HY0.out, HY1.out, HY2.out, HY3.out]
         obtain ⟨X, hXX⟩ : ∃ X, mK ps i k = X := ⟨_, rfl⟩
         obtain ⟨Wt, hWt⟩ : ∃ X, wantP ps i k = X := ⟨_, rfl⟩
         have hb : badM2 ps k i = decide (X ≠ Wt) := by unfold badM2; rw [hXX, hWt]
         rw [hXX] at hm
         have HP0 := Lib.hid p0
         have HP1 := Lib.hid p1
         have HMe := Lib.hid hm.symm
         have HW := Lib.hid hWt
         have HBB := Lib.hid hb
         clear p0 p1 hm hWt hb hXX
         generalize (pt ps i).1 = x0 at *
         generalize (pt ps i).2 = x1 at *
         generalize (pt ps (i + 1)).1 = x2 at *
         generalize (pt ps (i + 1)).2 = x3 at *
         have js : IntKind.i64.wrap ((i : Int) + 1) = ((i + 1 : Nat) : Int) := by rw [IntWalk.i64_in _ (by omega)]; rfl
         have d1 : (i : Int) < m + 2 := by omega
         have d3 : (i : Int) + 1 < m + 2 := by omega
         have d4 : (0 : Int) ≤ (i : Int) + 1 := by omega
         have d5 : ((i : Int) + 1).toNat = i + 1 := by omega
         have d6 : (0 : Int) ≤ i := by omega
         have d7 : (i : Int) < k := by omega
         go_upto_region 15 with fail
         go_cut [57] (fun z wx => z = .bool (decide (Wt = 1)) ∧ Grows w wx)
         case first =>
          by_cases e1 : k = i + 1
          ·have HR2 := Lib.hid ((wantP_next (ps := ps) e1).trans HW.out)
           have f1 : ((i : Int) + 1 == (k : Int)) = true := by rw [beq_iff_eq]; omega
           clear e1
           go_wp2_with fail
           go_meet
           exact ⟨by rw [← HR2.out]; rfl, hI⟩
          ·have f1 : ((i : Int) + 1 == (k : Int)) = false := by rw [beq_eq_false_iff_ne]; omega
           cases hc : closedP ps
           ·have HR2 := Lib.hid ((wantP_open e1 hc).trans HW.out)
            have HC := Lib.hid hc
            clear e1 hc
            go_wp2_with fail
            refine (rclosed_is _ ps _ (HV.out.later hI) _ HC.out).mono ?_
            rintro e w9 ⟨rfl, g9⟩
            go_wp2_with fail
            go_meet
            exact ⟨by rw [← HR2.out]; rfl, hI.then g9⟩
           ·have HC := Lib.hid hc
            by_cases e2 : i = 0
            ·subst e2
             have f0 : ((1 : Int) == (k : Int)) = false := by rw [beq_eq_false_iff_ne]; omega
             by_cases e3 : k + 2 = ps.length
             ·have HR2 := Lib.hid ((wantP_last (i := 0) (j := k) hc rfl e3).trans HW.out)
              have f3 : ((k : Int) == (m : Int)) = true := by rw [beq_iff_eq]; have := HM.out; omega
              clear e1 hc e3
              go_wp2_with fail
              refine (rclosed_is _ ps _ (HV.out.later hI) _ HC.out).mono ?_
              rintro e w9 ⟨rfl, g9⟩
              go_wp2_with fail
              go_meet
              exact ⟨by rw [← HR2.out]; rfl, hI.then g9⟩
             ·have HR2 := Lib.hid ((wantP_mid e1 e3).trans HW.out)
              have f3 : ((k : Int) == (m : Int)) = false := by rw [beq_eq_false_iff_ne]; have := HM.out; omega
              clear e1 hc e3
              go_wp2_with fail
              refine (rclosed_is _ ps _ (HV.out.later hI) _ HC.out).mono ?_
              rintro e w9 ⟨rfl, g9⟩
              go_wp2_with fail
              go_meet
              exact ⟨by rw [← HR2.out]; rfl, hI.then g9⟩
            ·have HR2 := Lib.hid ((wantP_far (ps := ps) e1 e2).trans HW.out)
             have f2 : ((i : Int) == 0) = false := by rw [beq_eq_false_iff_ne]; omega
             clear e1 hc e2
             go_wp2_with fail
             refine (rclosed_is _ ps _ (HV.out.later hI) _ HC.out).mono ?_
             rintro e w9 ⟨rfl, g9⟩
             go_wp2_with fail
             go_meet
             exact ⟨by rw [← HR2.out]; rfl, hI.then g9⟩
         case rest =>
          obtain ⟨rfl, hI2⟩ := hcut
          clear hI
          have XD := (Has.nil hI2).drew
          have hW2 : Wt = 1 ∨ Wt = 0 := by have := HW.out; unfold wantP at this; split at this <;> omega
          rcases hW2 with rfl | rfl
          ·go_wp2_with fail
           by_cases hxw : X = 1
           ·subst hxw
            have ms1 := Lib.hid (show ∀ w', Has w [] w' → (w'.cell? ⟨b, o + i * 2, none⟩ = some (.int .i64 x0) ∧ w'.cell? ⟨b, o + i * 2 + 1, none⟩ = some (.int .i64 x1) ∧ w'.cell? ⟨b, o + (i + 1) * 2, none⟩ = some (.int .i64 x2) ∧ w'.cell? ⟨b, o + (i + 1) * 2 + 1, none⟩ = some (.int .i64 x3) ∧ w'.cell? ⟨b, o + k * 2, none⟩ = some (.int .i64 y0) ∧ w'.cell? ⟨b, o + k * 2 + 1, none⟩ = some (.int .i64 y1) ∧ w'.cell? ⟨b, o + (k + 1) * 2, none⟩ = some (.int .i64 y2) ∧ w'.cell? ⟨b, o + (k + 1) * 2 + 1, none⟩ = some (.int .i64 y3)) ∧ Has w [] w' from fun w' h => by
             have hRb := HV.out.later h.low
             exact ⟨⟨(hRb.cells HP0.out).1, (hRb.cells HP0.out).2, (hRb.cells HP1.out).1, (hRb.cells HP1.out).2, (hRb.cells HQ0.out).1, (hRb.cells HQ0.out).2, (hRb.cells HQ1.out).1, (hRb.cells HQ1.out).2⟩, h⟩)
            refine wp_region_held_drew (S := (fun w' => (w'.cell? ⟨b, o + i * 2, none⟩ = some (.int .i64 x0) ∧ w'.cell? ⟨b, o + i * 2 + 1, none⟩ = some (.int .i64 x1) ∧ w'.cell? ⟨b, o + (i + 1) * 2, none⟩ = some (.int .i64 x2) ∧ w'.cell? ⟨b, o + (i + 1) * 2 + 1, none⟩ = some (.int .i64 x3) ∧ w'.cell? ⟨b, o + k * 2, none⟩ = some (.int .i64 y0) ∧ w'.cell? ⟨b, o + k * 2 + 1, none⟩ = some (.int .i64 y1) ∧ w'.cell? ⟨b, o + (k + 1) * 2, none⟩ = some (.int .i64 y2) ∧ w'.cell? ⟨b, o + (k + 1) * 2 + 1, none⟩ = some (.int .i64 y3)) ∧ Has w [] w')) (by kernel_rfl) (ms1.out _ XD) (fun hHeld => ?_)
            refine tbA [0, 1, 2, 3, 4, 5, 6, 7, 8, 9] ?_
            refine tkA (.slice (some ⟨b, o, none⟩) (m + 2) cap) (oi := ⟨some 58, .move (.tmp 0), 42, _, _, none⟩) ?_
            simp only [Act.put, pA, pB, pC]
            refine tkA (.int .i64 i) (oi := ⟨some 59, .move (.tmp 5), 3, _, _, none⟩) ?_
            simp only [Act.put, pA, pB, pC]
            refine tkA (.pointer (some ⟨b, o + i * 2, none⟩)) (oi := ⟨some 60, .indexAddr 42 (.tmp 58) (.tmp 59), 0, _, _, none⟩) ?_
            simp only [Act.put, pA, pB, pC]
            refine tkA (.agg #[.int .i64 x0, .int .i64 x1]) (oi := ⟨some 61, .load 37 (.tmp 60), 37, _, _, none⟩) ?_
            simp only [Act.put, pA, pB, pC]
            refine tkA (.slice (some ⟨b, o, none⟩) (m + 2) cap) (oi := ⟨some 62, .move (.tmp 0), 42, _, _, none⟩) ?_
            simp only [Act.put, pA, pB, pC]
            refine tkA (.int .i64 i) (oi := ⟨some 63, .move (.tmp 5), 3, _, _, none⟩) ?_
            simp only [Act.put, pA, pB, pC]
            refine tkA (.int .i64 ((i : Int) + 1)) (oi := ⟨some 64, .binOp .add 3 (.tmp 63) (.const (.int .i64 1)) 3, 3, _, _, none⟩) ?_
            simp only [Act.put, pA, pB, pC]
            refine tkA (.pointer (some ⟨b, o + (i + 1) * 2, none⟩)) (oi := ⟨some 65, .indexAddr 42 (.tmp 62) (.tmp 64), 0, _, _, none⟩) ?_
            simp only [Act.put, pA, pB, pC]
            refine tkA (.agg #[.int .i64 x2, .int .i64 x3]) (oi := ⟨some 66, .load 37 (.tmp 65), 37, _, _, none⟩) ?_
            simp only [Act.put, pA, pB, pC]
            refine tkA (.slice (some ⟨b, o, none⟩) (m + 2) cap) (oi := ⟨some 67, .move (.tmp 0), 42, _, _, none⟩) ?_
            simp only [Act.put, pA, pB, pC]
            refine teA ?_
            refine tlA #[true, true, true, true, true, true, true, true, true, true, false, false, false, false, false, false, false, false, false, false, false] ?_
            refine tbA [10, 11, 12, 13, 14, 15, 16, 17, 19] ?_
            refine tkA (.int .i64 k) (oi := ⟨some 68, .move (.tmp 4), 3, _, _, none⟩) ?_
            simp only [Act.put, pA, pB, pC]
            refine tkA (.pointer (some ⟨b, o + k * 2, none⟩)) (oi := ⟨some 69, .indexAddr 42 (.tmp 67) (.tmp 68), 0, _, _, none⟩) ?_
            simp only [Act.put, pA, pB, pC]
            refine tkA (.agg #[.int .i64 y0, .int .i64 y1]) (oi := ⟨some 70, .load 37 (.tmp 69), 37, _, _, none⟩) ?_
            simp only [Act.put, pA, pB, pC]
            refine tkA (.slice (some ⟨b, o, none⟩) (m + 2) cap) (oi := ⟨some 71, .move (.tmp 0), 42, _, _, none⟩) ?_
            simp only [Act.put, pA, pB, pC]
            refine tkA (.int .i64 k) (oi := ⟨some 72, .move (.tmp 4), 3, _, _, none⟩) ?_
            simp only [Act.put, pA, pB, pC]
            refine tkA (.int .i64 ((k : Int) + 1)) (oi := ⟨some 73, .binOp .add 3 (.tmp 72) (.const (.int .i64 1)) 3, 3, _, _, none⟩) ?_
            simp only [Act.put, pA, pB, pC]
            refine tkA (.pointer (some ⟨b, o + (k + 1) * 2, none⟩)) (oi := ⟨some 74, .indexAddr 42 (.tmp 71) (.tmp 73), 0, _, _, none⟩) ?_
            simp only [Act.put, pA, pB, pC]
            refine tkA (.agg #[.int .i64 y2, .int .i64 y3]) (oi := ⟨some 75, .load 37 (.tmp 74), 37, _, _, none⟩) ?_
            simp only [Act.put, pA, pB, pC]
            refine tkA (.int .i64 1) (oi := ⟨some 77, .move (.tmp 6), 3, _, _, none⟩) ?_
            simp only [Act.put, pA, pB, pC]
            refine teA ?_
            refine tlA #[true, true, true, true, true, true, true, true, true, true, true, true, true, true, true, true, true, true, false, true, false] ?_
            refine trA [18] ?_
            refine AllReadyH.cons (o := ⟨some 76, .call { callee := .value (.func 49), args := #[.tmp 61, .tmp 66, .tmp 70, .tmp 75], argTypes := #[37, 37, 37, 37] }, 3, _, _, none⟩) rfl (fun K hK => ?_) AllReadyH.nil
            go_simp
            go_at_call 49
            refine (Has.call XD (rmeet_is _ _ _ _ _ _ _ _ _ HMe.out _)).mono ?_
            rintro e A3 ⟨rfl, X1⟩
            go_wp2_with fail
            clear hHeld
            refine hK.out _ _ (ms1.out _ X1) (fun hHeld => ?_)
            clear hK K
            try simp only [pA, pB, pC]
            refine tlA #[true, true, true, true, true, true, true, true, true, true, true, true, true, true, true, true, true, true, true, true, false] ?_
            refine tbA [20] ?_
            refine tkA (.bool false) (oi := ⟨some 78, .binOp .neq 3 (.tmp 76) (.tmp 77) 3, 4, _, _, none⟩) ?_
            simp only [Act.put, pA, pB, pC]
            refine teA ?_
            refine tlA #[true, true, true, true, true, true, true, true, true, true, true, true, true, true, true, true, true, true, true, true, true] ?_
            refine wpAnyH_done (by kernel_rfl) ?_ _
            clear hHeld
            go_wp2_with fail
            go_roundw
            case rel => exact ⟨i + 1, by omega, by go_num, Lib.hid (anyTo_no HB.out (by rw [HBB.out]; simp)), X1.low⟩
            case measure => simp [RowKit.intOf]; omega
           ·have g1 : (X == 1) = false := by rw [beq_eq_false_iff_ne]; exact hxw
            have g2 : (X != 1) = true := by rw [bne_iff_ne]; exact hxw
            have ms1 := Lib.hid (show ∀ w', Has w [] w' → (w'.cell? ⟨b, o + i * 2, none⟩ = some (.int .i64 x0) ∧ w'.cell? ⟨b, o + i * 2 + 1, none⟩ = some (.int .i64 x1) ∧ w'.cell? ⟨b, o + (i + 1) * 2, none⟩ = some (.int .i64 x2) ∧ w'.cell? ⟨b, o + (i + 1) * 2 + 1, none⟩ = some (.int .i64 x3) ∧ w'.cell? ⟨b, o + k * 2, none⟩ = some (.int .i64 y0) ∧ w'.cell? ⟨b, o + k * 2 + 1, none⟩ = some (.int .i64 y1) ∧ w'.cell? ⟨b, o + (k + 1) * 2, none⟩ = some (.int .i64 y2) ∧ w'.cell? ⟨b, o + (k + 1) * 2 + 1, none⟩ = some (.int .i64 y3)) ∧ Has w [] w' from fun w' h => by
             have hRb := HV.out.later h.low
             exact ⟨⟨(hRb.cells HP0.out).1, (hRb.cells HP0.out).2, (hRb.cells HP1.out).1, (hRb.cells HP1.out).2, (hRb.cells HQ0.out).1, (hRb.cells HQ0.out).2, (hRb.cells HQ1.out).1, (hRb.cells HQ1.out).2⟩, h⟩)
            refine wp_region_held_drew (S := (fun w' => (w'.cell? ⟨b, o + i * 2, none⟩ = some (.int .i64 x0) ∧ w'.cell? ⟨b, o + i * 2 + 1, none⟩ = some (.int .i64 x1) ∧ w'.cell? ⟨b, o + (i + 1) * 2, none⟩ = some (.int .i64 x2) ∧ w'.cell? ⟨b, o + (i + 1) * 2 + 1, none⟩ = some (.int .i64 x3) ∧ w'.cell? ⟨b, o + k * 2, none⟩ = some (.int .i64 y0) ∧ w'.cell? ⟨b, o + k * 2 + 1, none⟩ = some (.int .i64 y1) ∧ w'.cell? ⟨b, o + (k + 1) * 2, none⟩ = some (.int .i64 y2) ∧ w'.cell? ⟨b, o + (k + 1) * 2 + 1, none⟩ = some (.int .i64 y3)) ∧ Has w [] w')) (by kernel_rfl) (ms1.out _ XD) (fun hHeld => ?_)
            refine tbA [0, 1, 2, 3, 4, 5, 6, 7, 8, 9] ?_
            refine tkA (.slice (some ⟨b, o, none⟩) (m + 2) cap) (oi := ⟨some 58, .move (.tmp 0), 42, _, _, none⟩) ?_
            simp only [Act.put, pA, pB, pC]
            refine tkA (.int .i64 i) (oi := ⟨some 59, .move (.tmp 5), 3, _, _, none⟩) ?_
            simp only [Act.put, pA, pB, pC]
            refine tkA (.pointer (some ⟨b, o + i * 2, none⟩)) (oi := ⟨some 60, .indexAddr 42 (.tmp 58) (.tmp 59), 0, _, _, none⟩) ?_
            simp only [Act.put, pA, pB, pC]
            refine tkA (.agg #[.int .i64 x0, .int .i64 x1]) (oi := ⟨some 61, .load 37 (.tmp 60), 37, _, _, none⟩) ?_
            simp only [Act.put, pA, pB, pC]
            refine tkA (.slice (some ⟨b, o, none⟩) (m + 2) cap) (oi := ⟨some 62, .move (.tmp 0), 42, _, _, none⟩) ?_
            simp only [Act.put, pA, pB, pC]
            refine tkA (.int .i64 i) (oi := ⟨some 63, .move (.tmp 5), 3, _, _, none⟩) ?_
            simp only [Act.put, pA, pB, pC]
            refine tkA (.int .i64 ((i : Int) + 1)) (oi := ⟨some 64, .binOp .add 3 (.tmp 63) (.const (.int .i64 1)) 3, 3, _, _, none⟩) ?_
            simp only [Act.put, pA, pB, pC]
            refine tkA (.pointer (some ⟨b, o + (i + 1) * 2, none⟩)) (oi := ⟨some 65, .indexAddr 42 (.tmp 62) (.tmp 64), 0, _, _, none⟩) ?_
            simp only [Act.put, pA, pB, pC]
            refine tkA (.agg #[.int .i64 x2, .int .i64 x3]) (oi := ⟨some 66, .load 37 (.tmp 65), 37, _, _, none⟩) ?_
            simp only [Act.put, pA, pB, pC]
            refine tkA (.slice (some ⟨b, o, none⟩) (m + 2) cap) (oi := ⟨some 67, .move (.tmp 0), 42, _, _, none⟩) ?_
            simp only [Act.put, pA, pB, pC]
            refine teA ?_
            refine tlA #[true, true, true, true, true, true, true, true, true, true, false, false, false, false, false, false, false, false, false, false, false] ?_
            refine tbA [10, 11, 12, 13, 14, 15, 16, 17, 19] ?_
            refine tkA (.int .i64 k) (oi := ⟨some 68, .move (.tmp 4), 3, _, _, none⟩) ?_
            simp only [Act.put, pA, pB, pC]
            refine tkA (.pointer (some ⟨b, o + k * 2, none⟩)) (oi := ⟨some 69, .indexAddr 42 (.tmp 67) (.tmp 68), 0, _, _, none⟩) ?_
            simp only [Act.put, pA, pB, pC]
            refine tkA (.agg #[.int .i64 y0, .int .i64 y1]) (oi := ⟨some 70, .load 37 (.tmp 69), 37, _, _, none⟩) ?_
            simp only [Act.put, pA, pB, pC]
            refine tkA (.slice (some ⟨b, o, none⟩) (m + 2) cap) (oi := ⟨some 71, .move (.tmp 0), 42, _, _, none⟩) ?_
            simp only [Act.put, pA, pB, pC]
            refine tkA (.int .i64 k) (oi := ⟨some 72, .move (.tmp 4), 3, _, _, none⟩) ?_
            simp only [Act.put, pA, pB, pC]
            refine tkA (.int .i64 ((k : Int) + 1)) (oi := ⟨some 73, .binOp .add 3 (.tmp 72) (.const (.int .i64 1)) 3, 3, _, _, none⟩) ?_
            simp only [Act.put, pA, pB, pC]
            refine tkA (.pointer (some ⟨b, o + (k + 1) * 2, none⟩)) (oi := ⟨some 74, .indexAddr 42 (.tmp 71) (.tmp 73), 0, _, _, none⟩) ?_
            simp only [Act.put, pA, pB, pC]
            refine tkA (.agg #[.int .i64 y2, .int .i64 y3]) (oi := ⟨some 75, .load 37 (.tmp 74), 37, _, _, none⟩) ?_
            simp only [Act.put, pA, pB, pC]
            refine tkA (.int .i64 1) (oi := ⟨some 77, .move (.tmp 6), 3, _, _, none⟩) ?_
            simp only [Act.put, pA, pB, pC]
            refine teA ?_
            refine tlA #[true, true, true, true, true, true, true, true, true, true, true, true, true, true, true, true, true, true, false, true, false] ?_
            refine trA [18] ?_
            refine AllReadyH.cons (o := ⟨some 76, .call { callee := .value (.func 49), args := #[.tmp 61, .tmp 66, .tmp 70, .tmp 75], argTypes := #[37, 37, 37, 37] }, 3, _, _, none⟩) rfl (fun K hK => ?_) AllReadyH.nil
            go_simp
            go_at_call 49
            refine (Has.call XD (rmeet_is _ _ _ _ _ _ _ _ _ HMe.out _)).mono ?_
            rintro e A3 ⟨rfl, X1⟩
            go_wp2_with fail
            clear hHeld
            refine hK.out _ _ (ms1.out _ X1) (fun hHeld => ?_)
            clear hK K
            try simp only [pA, pB, pC]
            refine tlA #[true, true, true, true, true, true, true, true, true, true, true, true, true, true, true, true, true, true, true, true, false] ?_
            refine tbA [20] ?_
            refine tkA (.bool true) (oi := ⟨some 78, .binOp .neq 3 (.tmp 76) (.tmp 77) 3, 4, _, _, none⟩) ?_
            simp only [Act.put, pA, pB, pC]
            refine teA ?_
            refine tlA #[true, true, true, true, true, true, true, true, true, true, true, true, true, true, true, true, true, true, true, true, true] ?_
            refine wpAnyH_done (by kernel_rfl) ?_ _
            clear hHeld
            go_wp2_with fail
            go_ret
            exact ⟨ret_i (by rw [HR.out, if_pos]; rw [← HF.out]; exact (anyTo_yes (by unfold badS2; rw [HQ.out, ← anyTo_yes (f := badM2 ps k) (k := i) (n := k) (by rw [HBB.out]; simp [hxw]) hli]; rfl) (show k < m + 1 by omega)).symm), X1.low⟩
          ·go_wp2_with fail
           by_cases hxw : X = 0
           ·subst hxw
            have ms1 := Lib.hid (show ∀ w', Has w [] w' → (w'.cell? ⟨b, o + i * 2, none⟩ = some (.int .i64 x0) ∧ w'.cell? ⟨b, o + i * 2 + 1, none⟩ = some (.int .i64 x1) ∧ w'.cell? ⟨b, o + (i + 1) * 2, none⟩ = some (.int .i64 x2) ∧ w'.cell? ⟨b, o + (i + 1) * 2 + 1, none⟩ = some (.int .i64 x3) ∧ w'.cell? ⟨b, o + k * 2, none⟩ = some (.int .i64 y0) ∧ w'.cell? ⟨b, o + k * 2 + 1, none⟩ = some (.int .i64 y1) ∧ w'.cell? ⟨b, o + (k + 1) * 2, none⟩ = some (.int .i64 y2) ∧ w'.cell? ⟨b, o + (k + 1) * 2 + 1, none⟩ = some (.int .i64 y3)) ∧ Has w [] w' from fun w' h => by
             have hRb := HV.out.later h.low
             exact ⟨⟨(hRb.cells HP0.out).1, (hRb.cells HP0.out).2, (hRb.cells HP1.out).1, (hRb.cells HP1.out).2, (hRb.cells HQ0.out).1, (hRb.cells HQ0.out).2, (hRb.cells HQ1.out).1, (hRb.cells HQ1.out).2⟩, h⟩)
            refine wp_region_held_drew (S := (fun w' => (w'.cell? ⟨b, o + i * 2, none⟩ = some (.int .i64 x0) ∧ w'.cell? ⟨b, o + i * 2 + 1, none⟩ = some (.int .i64 x1) ∧ w'.cell? ⟨b, o + (i + 1) * 2, none⟩ = some (.int .i64 x2) ∧ w'.cell? ⟨b, o + (i + 1) * 2 + 1, none⟩ = some (.int .i64 x3) ∧ w'.cell? ⟨b, o + k * 2, none⟩ = some (.int .i64 y0) ∧ w'.cell? ⟨b, o + k * 2 + 1, none⟩ = some (.int .i64 y1) ∧ w'.cell? ⟨b, o + (k + 1) * 2, none⟩ = some (.int .i64 y2) ∧ w'.cell? ⟨b, o + (k + 1) * 2 + 1, none⟩ = some (.int .i64 y3)) ∧ Has w [] w')) (by kernel_rfl) (ms1.out _ XD) (fun hHeld => ?_)
            refine tbA [0, 1, 2, 3, 4, 5, 6, 7, 8, 9] ?_
            refine tkA (.slice (some ⟨b, o, none⟩) (m + 2) cap) (oi := ⟨some 58, .move (.tmp 0), 42, _, _, none⟩) ?_
            simp only [Act.put, pA, pB, pC]
            refine tkA (.int .i64 i) (oi := ⟨some 59, .move (.tmp 5), 3, _, _, none⟩) ?_
            simp only [Act.put, pA, pB, pC]
            refine tkA (.pointer (some ⟨b, o + i * 2, none⟩)) (oi := ⟨some 60, .indexAddr 42 (.tmp 58) (.tmp 59), 0, _, _, none⟩) ?_
            simp only [Act.put, pA, pB, pC]
            refine tkA (.agg #[.int .i64 x0, .int .i64 x1]) (oi := ⟨some 61, .load 37 (.tmp 60), 37, _, _, none⟩) ?_
            simp only [Act.put, pA, pB, pC]
            refine tkA (.slice (some ⟨b, o, none⟩) (m + 2) cap) (oi := ⟨some 62, .move (.tmp 0), 42, _, _, none⟩) ?_
            simp only [Act.put, pA, pB, pC]
            refine tkA (.int .i64 i) (oi := ⟨some 63, .move (.tmp 5), 3, _, _, none⟩) ?_
            simp only [Act.put, pA, pB, pC]
            refine tkA (.int .i64 ((i : Int) + 1)) (oi := ⟨some 64, .binOp .add 3 (.tmp 63) (.const (.int .i64 1)) 3, 3, _, _, none⟩) ?_
            simp only [Act.put, pA, pB, pC]
            refine tkA (.pointer (some ⟨b, o + (i + 1) * 2, none⟩)) (oi := ⟨some 65, .indexAddr 42 (.tmp 62) (.tmp 64), 0, _, _, none⟩) ?_
            simp only [Act.put, pA, pB, pC]
            refine tkA (.agg #[.int .i64 x2, .int .i64 x3]) (oi := ⟨some 66, .load 37 (.tmp 65), 37, _, _, none⟩) ?_
            simp only [Act.put, pA, pB, pC]
            refine tkA (.slice (some ⟨b, o, none⟩) (m + 2) cap) (oi := ⟨some 67, .move (.tmp 0), 42, _, _, none⟩) ?_
            simp only [Act.put, pA, pB, pC]
            refine teA ?_
            refine tlA #[true, true, true, true, true, true, true, true, true, true, false, false, false, false, false, false, false, false, false, false, false] ?_
            refine tbA [10, 11, 12, 13, 14, 15, 16, 17, 19] ?_
            refine tkA (.int .i64 k) (oi := ⟨some 68, .move (.tmp 4), 3, _, _, none⟩) ?_
            simp only [Act.put, pA, pB, pC]
            refine tkA (.pointer (some ⟨b, o + k * 2, none⟩)) (oi := ⟨some 69, .indexAddr 42 (.tmp 67) (.tmp 68), 0, _, _, none⟩) ?_
            simp only [Act.put, pA, pB, pC]
            refine tkA (.agg #[.int .i64 y0, .int .i64 y1]) (oi := ⟨some 70, .load 37 (.tmp 69), 37, _, _, none⟩) ?_
            simp only [Act.put, pA, pB, pC]
            refine tkA (.slice (some ⟨b, o, none⟩) (m + 2) cap) (oi := ⟨some 71, .move (.tmp 0), 42, _, _, none⟩) ?_
            simp only [Act.put, pA, pB, pC]
            refine tkA (.int .i64 k) (oi := ⟨some 72, .move (.tmp 4), 3, _, _, none⟩) ?_
            simp only [Act.put, pA, pB, pC]
            refine tkA (.int .i64 ((k : Int) + 1)) (oi := ⟨some 73, .binOp .add 3 (.tmp 72) (.const (.int .i64 1)) 3, 3, _, _, none⟩) ?_
            simp only [Act.put, pA, pB, pC]
            refine tkA (.pointer (some ⟨b, o + (k + 1) * 2, none⟩)) (oi := ⟨some 74, .indexAddr 42 (.tmp 71) (.tmp 73), 0, _, _, none⟩) ?_
            simp only [Act.put, pA, pB, pC]
            refine tkA (.agg #[.int .i64 y2, .int .i64 y3]) (oi := ⟨some 75, .load 37 (.tmp 74), 37, _, _, none⟩) ?_
            simp only [Act.put, pA, pB, pC]
            refine tkA (.int .i64 0) (oi := ⟨some 77, .move (.tmp 6), 3, _, _, none⟩) ?_
            simp only [Act.put, pA, pB, pC]
            refine teA ?_
            refine tlA #[true, true, true, true, true, true, true, true, true, true, true, true, true, true, true, true, true, true, false, true, false] ?_
            refine trA [18] ?_
            refine AllReadyH.cons (o := ⟨some 76, .call { callee := .value (.func 49), args := #[.tmp 61, .tmp 66, .tmp 70, .tmp 75], argTypes := #[37, 37, 37, 37] }, 3, _, _, none⟩) rfl (fun K hK => ?_) AllReadyH.nil
            go_simp
            go_at_call 49
            refine (Has.call XD (rmeet_is _ _ _ _ _ _ _ _ _ HMe.out _)).mono ?_
            rintro e A3 ⟨rfl, X1⟩
            go_wp2_with fail
            clear hHeld
            refine hK.out _ _ (ms1.out _ X1) (fun hHeld => ?_)
            clear hK K
            try simp only [pA, pB, pC]
            refine tlA #[true, true, true, true, true, true, true, true, true, true, true, true, true, true, true, true, true, true, true, true, false] ?_
            refine tbA [20] ?_
            refine tkA (.bool false) (oi := ⟨some 78, .binOp .neq 3 (.tmp 76) (.tmp 77) 3, 4, _, _, none⟩) ?_
            simp only [Act.put, pA, pB, pC]
            refine teA ?_
            refine tlA #[true, true, true, true, true, true, true, true, true, true, true, true, true, true, true, true, true, true, true, true, true] ?_
            refine wpAnyH_done (by kernel_rfl) ?_ _
            clear hHeld
            go_wp2_with fail
            go_roundw
            case rel => exact ⟨i + 1, by omega, by go_num, Lib.hid (anyTo_no HB.out (by rw [HBB.out]; simp)), X1.low⟩
            case measure => simp [RowKit.intOf]; omega
           ·have g1 : (X == 0) = false := by rw [beq_eq_false_iff_ne]; exact hxw
            have g2 : (X != 0) = true := by rw [bne_iff_ne]; exact hxw
            have ms1 := Lib.hid (show ∀ w', Has w [] w' → (w'.cell? ⟨b, o + i * 2, none⟩ = some (.int .i64 x0) ∧ w'.cell? ⟨b, o + i * 2 + 1, none⟩ = some (.int .i64 x1) ∧ w'.cell? ⟨b, o + (i + 1) * 2, none⟩ = some (.int .i64 x2) ∧ w'.cell? ⟨b, o + (i + 1) * 2 + 1, none⟩ = some (.int .i64 x3) ∧ w'.cell? ⟨b, o + k * 2, none⟩ = some (.int .i64 y0) ∧ w'.cell? ⟨b, o + k * 2 + 1, none⟩ = some (.int .i64 y1) ∧ w'.cell? ⟨b, o + (k + 1) * 2, none⟩ = some (.int .i64 y2) ∧ w'.cell? ⟨b, o + (k + 1) * 2 + 1, none⟩ = some (.int .i64 y3)) ∧ Has w [] w' from fun w' h => by
             have hRb := HV.out.later h.low
             exact ⟨⟨(hRb.cells HP0.out).1, (hRb.cells HP0.out).2, (hRb.cells HP1.out).1, (hRb.cells HP1.out).2, (hRb.cells HQ0.out).1, (hRb.cells HQ0.out).2, (hRb.cells HQ1.out).1, (hRb.cells HQ1.out).2⟩, h⟩)
            refine wp_region_held_drew (S := (fun w' => (w'.cell? ⟨b, o + i * 2, none⟩ = some (.int .i64 x0) ∧ w'.cell? ⟨b, o + i * 2 + 1, none⟩ = some (.int .i64 x1) ∧ w'.cell? ⟨b, o + (i + 1) * 2, none⟩ = some (.int .i64 x2) ∧ w'.cell? ⟨b, o + (i + 1) * 2 + 1, none⟩ = some (.int .i64 x3) ∧ w'.cell? ⟨b, o + k * 2, none⟩ = some (.int .i64 y0) ∧ w'.cell? ⟨b, o + k * 2 + 1, none⟩ = some (.int .i64 y1) ∧ w'.cell? ⟨b, o + (k + 1) * 2, none⟩ = some (.int .i64 y2) ∧ w'.cell? ⟨b, o + (k + 1) * 2 + 1, none⟩ = some (.int .i64 y3)) ∧ Has w [] w')) (by kernel_rfl) (ms1.out _ XD) (fun hHeld => ?_)
            refine tbA [0, 1, 2, 3, 4, 5, 6, 7, 8, 9] ?_
            refine tkA (.slice (some ⟨b, o, none⟩) (m + 2) cap) (oi := ⟨some 58, .move (.tmp 0), 42, _, _, none⟩) ?_
            simp only [Act.put, pA, pB, pC]
            refine tkA (.int .i64 i) (oi := ⟨some 59, .move (.tmp 5), 3, _, _, none⟩) ?_
            simp only [Act.put, pA, pB, pC]
            refine tkA (.pointer (some ⟨b, o + i * 2, none⟩)) (oi := ⟨some 60, .indexAddr 42 (.tmp 58) (.tmp 59), 0, _, _, none⟩) ?_
            simp only [Act.put, pA, pB, pC]
            refine tkA (.agg #[.int .i64 x0, .int .i64 x1]) (oi := ⟨some 61, .load 37 (.tmp 60), 37, _, _, none⟩) ?_
            simp only [Act.put, pA, pB, pC]
            refine tkA (.slice (some ⟨b, o, none⟩) (m + 2) cap) (oi := ⟨some 62, .move (.tmp 0), 42, _, _, none⟩) ?_
            simp only [Act.put, pA, pB, pC]
            refine tkA (.int .i64 i) (oi := ⟨some 63, .move (.tmp 5), 3, _, _, none⟩) ?_
            simp only [Act.put, pA, pB, pC]
            refine tkA (.int .i64 ((i : Int) + 1)) (oi := ⟨some 64, .binOp .add 3 (.tmp 63) (.const (.int .i64 1)) 3, 3, _, _, none⟩) ?_
            simp only [Act.put, pA, pB, pC]
            refine tkA (.pointer (some ⟨b, o + (i + 1) * 2, none⟩)) (oi := ⟨some 65, .indexAddr 42 (.tmp 62) (.tmp 64), 0, _, _, none⟩) ?_
            simp only [Act.put, pA, pB, pC]
            refine tkA (.agg #[.int .i64 x2, .int .i64 x3]) (oi := ⟨some 66, .load 37 (.tmp 65), 37, _, _, none⟩) ?_
            simp only [Act.put, pA, pB, pC]
            refine tkA (.slice (some ⟨b, o, none⟩) (m + 2) cap) (oi := ⟨some 67, .move (.tmp 0), 42, _, _, none⟩) ?_
            simp only [Act.put, pA, pB, pC]
            refine teA ?_
            refine tlA #[true, true, true, true, true, true, true, true, true, true, false, false, false, false, false, false, false, false, false, false, false] ?_
            refine tbA [10, 11, 12, 13, 14, 15, 16, 17, 19] ?_
            refine tkA (.int .i64 k) (oi := ⟨some 68, .move (.tmp 4), 3, _, _, none⟩) ?_
            simp only [Act.put, pA, pB, pC]
            refine tkA (.pointer (some ⟨b, o + k * 2, none⟩)) (oi := ⟨some 69, .indexAddr 42 (.tmp 67) (.tmp 68), 0, _, _, none⟩) ?_
            simp only [Act.put, pA, pB, pC]
            refine tkA (.agg #[.int .i64 y0, .int .i64 y1]) (oi := ⟨some 70, .load 37 (.tmp 69), 37, _, _, none⟩) ?_
            simp only [Act.put, pA, pB, pC]
            refine tkA (.slice (some ⟨b, o, none⟩) (m + 2) cap) (oi := ⟨some 71, .move (.tmp 0), 42, _, _, none⟩) ?_
            simp only [Act.put, pA, pB, pC]
            refine tkA (.int .i64 k) (oi := ⟨some 72, .move (.tmp 4), 3, _, _, none⟩) ?_
            simp only [Act.put, pA, pB, pC]
            refine tkA (.int .i64 ((k : Int) + 1)) (oi := ⟨some 73, .binOp .add 3 (.tmp 72) (.const (.int .i64 1)) 3, 3, _, _, none⟩) ?_
            simp only [Act.put, pA, pB, pC]
            refine tkA (.pointer (some ⟨b, o + (k + 1) * 2, none⟩)) (oi := ⟨some 74, .indexAddr 42 (.tmp 71) (.tmp 73), 0, _, _, none⟩) ?_
            simp only [Act.put, pA, pB, pC]
            refine tkA (.agg #[.int .i64 y2, .int .i64 y3]) (oi := ⟨some 75, .load 37 (.tmp 74), 37, _, _, none⟩) ?_
            simp only [Act.put, pA, pB, pC]
            refine tkA (.int .i64 0) (oi := ⟨some 77, .move (.tmp 6), 3, _, _, none⟩) ?_
            simp only [Act.put, pA, pB, pC]
            refine teA ?_
            refine tlA #[true, true, true, true, true, true, true, true, true, true, true, true, true, true, true, true, true, true, false, true, false] ?_
            refine trA [18] ?_
            refine AllReadyH.cons (o := ⟨some 76, .call { callee := .value (.func 49), args := #[.tmp 61, .tmp 66, .tmp 70, .tmp 75], argTypes := #[37, 37, 37, 37] }, 3, _, _, none⟩) rfl (fun K hK => ?_) AllReadyH.nil
            go_simp
            go_at_call 49
            refine (Has.call XD (rmeet_is _ _ _ _ _ _ _ _ _ HMe.out _)).mono ?_
            rintro e A3 ⟨rfl, X1⟩
            go_wp2_with fail
            clear hHeld
            refine hK.out _ _ (ms1.out _ X1) (fun hHeld => ?_)
            clear hK K
            try simp only [pA, pB, pC]
            refine tlA #[true, true, true, true, true, true, true, true, true, true, true, true, true, true, true, true, true, true, true, true, false] ?_
            refine tbA [20] ?_
            refine tkA (.bool true) (oi := ⟨some 78, .binOp .neq 3 (.tmp 76) (.tmp 77) 3, 4, _, _, none⟩) ?_
            simp only [Act.put, pA, pB, pC]
            refine teA ?_
            refine tlA #[true, true, true, true, true, true, true, true, true, true, true, true, true, true, true, true, true, true, true, true, true] ?_
            refine wpAnyH_done (by kernel_rfl) ?_ _
            clear hHeld
            go_wp2_with fail
            go_ret
            exact ⟨ret_i (by rw [HR.out, if_pos]; rw [← HF.out]; exact (anyTo_yes (by unfold badS2; rw [HQ.out, ← anyTo_yes (f := badM2 ps k) (k := i) (n := k) (by rw [HBB.out]; simp [hxw]) hli]; rfl) (show k < m + 1 by omega)).symm), X1.low⟩
        ·obtain rfl : i = k := by omega
         go_wp2_with fail
         go_roundw
         case rel => exact ⟨i + 1, by omega, by go_num, Lib.hid (anyTo_no HA.out (by unfold badS2; rw [HQ.out, HB.out]; rfl)), hI⟩
         case measure => simp [RowKit.intOf]; omega
     ·obtain rfl : k = m + 1 := by omega
      go_wp2_with fail
      go_ret
      exact ⟨ret_i (by rw [HR.out, if_neg]; rw [← HF.out, HA.out]; simp), hG⟩

end Go.Proofs.YtoaldbjcpfkcjaaGreat

namespace Go.Proofs.YtoaldbjcpfkcjaaGreat
open Go.RowKit Go.Lib

end Go.Proofs.YtoaldbjcpfkcjaaGreat

namespace Go.Proofs.YtoaldbjcpfkcjaaGreat
open Go.RowKit Go.Lib

end Go.Proofs.YtoaldbjcpfkcjaaGreat

namespace Go.Proofs.YtoaldbjcpfkcjaaGreat
open Go.RowKit Go.Lib

end Go.Proofs.YtoaldbjcpfkcjaaGreat

namespace Go.Proofs.YtoaldbjcpfkcjaaGreat
open Go.RowKit Go.Lib

theorem RowP.cells0 {w : World} {b o n c : Nat} {ps : List (Int × Int)} (h : RowP w (.slice (some ⟨b, o, none⟩) n c) ps) {x y : Int} (hi : ps[0]? = some (x, y)) :
  w.cell? ⟨b, o, none⟩ = some (.int .i64 x) ∧ w.cell? ⟨b, o + 1, none⟩ = some (.int .i64 y) := by
 have := h.cells hi
 rwa [Nat.zero_mul, Nat.add_zero] at this
theorem own_low {b c : Nat} {w : World} {v : Value} {ps : List (Int × Int)} (h : Own b w v ps) (hc : c ≤ b) : Own c w v ps := by
 refine ⟨h.1, ?_⟩
 rcases h.2 with h2 | ⟨k, cap, cur, h1, h2, h3⟩
 ·exact .inl h2
 ·exact .inr ⟨k, cap, cur, h1, Nat.le_trans hc h2, h3⟩
end Go.Proofs.YtoaldbjcpfkcjaaGreat

namespace Go.Proofs.YtoaldbjcpfkcjaaGreat
open Go.RowKit Go.Lib Geo

theorem lo_le {sel : Int × Int → Int} {ps : List (Int × Int)} : ∀ {n k : Nat}, n ≤ ps.length → k < n → lo sel ps n ≤ sel (pt ps k) := by
 intro n
 induction n with
 | zero => intro k _ h; omega
 | succ n ih =>
  intro k hn hk
  rw [lo_next (by omega)]
  by_cases h : k = n
  ·subst h; exact Int.min_le_right _ _
  ·exact Int.le_trans (Int.min_le_left _ _) (ih (by omega) (by omega))
theorem hi_ge {sel : Int × Int → Int} {ps : List (Int × Int)} : ∀ {n k : Nat}, n ≤ ps.length → k < n → sel (pt ps k) ≤ hi sel ps n := by
 intro n
 induction n with
 | zero => intro k _ h; omega
 | succ n ih =>
  intro k hn hk
  rw [hi_next (by omega)]
  by_cases h : k = n
  ·subst h; exact Int.le_max_right _ _
  ·exact Int.le_trans (ih (by omega) (by omega)) (Int.le_max_left _ _)
/-- The boxes of lists are near, if those of two segments of theirs are. -/
theorem near_of {l m : List (Int × Int)} {i j : Nat} (hi' : i + 1 < l.length) (hj : j + 1 < m.length) (h : bnear (pt l i).1 (pt l i).2 (pt l (i + 1)).1 (pt l (i + 1)).2 (pt m j).1 (pt m j).2 (pt m (j + 1)).1 (pt m (j + 1)).2) : nearP l m = true := by
 obtain ⟨h1, h2, h3, h4⟩ := h
 have a1 := lo_le (sel := Prod.fst) (ps := l) (Nat.le_refl _) (show i < l.length by omega)
 have a2 := lo_le (sel := Prod.fst) (ps := l) (Nat.le_refl _) hi'
 have a3 := lo_le (sel := Prod.snd) (ps := l) (Nat.le_refl _) (show i < l.length by omega)
 have a4 := lo_le (sel := Prod.snd) (ps := l) (Nat.le_refl _) hi'
 have b1 := hi_ge (sel := Prod.fst) (ps := l) (Nat.le_refl _) (show i < l.length by omega)
 have b2 := hi_ge (sel := Prod.fst) (ps := l) (Nat.le_refl _) hi'
 have b3 := hi_ge (sel := Prod.snd) (ps := l) (Nat.le_refl _) (show i < l.length by omega)
 have b4 := hi_ge (sel := Prod.snd) (ps := l) (Nat.le_refl _) hi'
 have c1 := lo_le (sel := Prod.fst) (ps := m) (Nat.le_refl _) (show j < m.length by omega)
 have c2 := lo_le (sel := Prod.fst) (ps := m) (Nat.le_refl _) hj
 have c3 := lo_le (sel := Prod.snd) (ps := m) (Nat.le_refl _) (show j < m.length by omega)
 have c4 := lo_le (sel := Prod.snd) (ps := m) (Nat.le_refl _) hj
 have d1 := hi_ge (sel := Prod.fst) (ps := m) (Nat.le_refl _) (show j < m.length by omega)
 have d2 := hi_ge (sel := Prod.fst) (ps := m) (Nat.le_refl _) hj
 have d3 := hi_ge (sel := Prod.snd) (ps := m) (Nat.le_refl _) (show j < m.length by omega)
 have d4 := hi_ge (sel := Prod.snd) (ps := m) (Nat.le_refl _) hj
 unfold nearP bxo
 rw [if_neg (by omega), if_neg (by omega)]
 exact near_yes (by simp only; omega) (by simp only; omega) (by simp only; omega) (by simp only; omega)
theorem rt_in {p : Int × Int} (h : rtP p = true) : In p.1 p.2 := by
 unfold rtP at h
 rw [inl_iff] at h
 rw [in_iff]
 omega
theorem lmeet_same {a0 a1 b0 b1 c0 c1 d0 d1 : Int} (ha : rtP (a0, a1) = true) (hb : rtP (b0, b1) = true) (hc : rtP (c0, c1) = true) (hd : rtP (d0, d1) = true) : lmeet a0 a1 b0 b1 c0 c1 d0 d1 = meetOf a0 a1 b0 b1 c0 c1 d0 d1 := by
 unfold lmeet
 split
 ·rfl
 ·rename_i hn
  refine Eq.symm (Decidable.byContradiction fun h => hn ?_)
  exact near_of (l := [(a0, a1), (b0, b1)]) (m := [(c0, c1), (d0, d1)]) (i := 0) (j := 0) (by simp) (by simp) (bnear_of_meet (rt_in ha) (rt_in hb) (rt_in hc) (rt_in hd) h)
theorem lmeet_pt {p q r s : Int × Int} (ha : rtP p = true) (hb : rtP q = true) (hc : rtP r = true) (hd : rtP s = true) : lmeet p.1 p.2 q.1 q.2 r.1 r.2 s.1 s.2 = meetOf p.1 p.2 q.1 q.2 r.1 r.2 s.1 s.2 := lmeet_same ha hb hc hd
theorem rtp_at {ps : List (Int × Int)} {k : Nat} (h : ps.all rtP = true) (hk : k < ps.length) : rtP (pt ps k) = true := (List.all_eq_true.1 h) (pt ps k) (List.mem_of_getElem? (at_pt hk))
theorem anyTo_congr {f g : Nat → Bool} : ∀ {n : Nat}, (∀ k, k < n → f k = g k) → anyTo f n = anyTo g n := by
 intro n
 induction n with
 | zero => intro _; rfl
 | succ n ih => intro h; rw [anyTo, anyTo, ih (fun k hk => h k (by omega)), h n (by omega)]
theorem simple_same {ps : List (Int × Int)} (h : ps.all rtP = true) : simpleP ps = simpleR ps := by
 unfold simpleP simpleR
 rw [anyTo_congr (g := badS2 ps)]
 intro j hj
 unfold badS badS2
 rw [anyTo_congr (g := badM2 ps j)]
 intro i hi
 unfold badM badM2 lmK mK
 rw [lmeet_pt (rtp_at h (by omega)) (rtp_at h (by omega)) (rtp_at h (by omega)) (rtp_at h (by omega))]
theorem chk_same (ps : List (Int × Int)) : chkP ps (simpleP ps) = chkP ps (simpleR ps) := by
 cases h : ps.all rtP
 ·unfold chkP; rw [h]; simp only [if_true]
 ·rw [simple_same h]
end Go.Proofs.YtoaldbjcpfkcjaaGreat

namespace Go.Proofs.YtoaldbjcpfkcjaaGreat
open Go.RowKit Go.Lib

theorem own_empty {b : Nat} (w : World) (hb : b ≤ w.heap.size) : Own b (w.alloc (.cells #[] 37)) (.slice (some ⟨w.heap.size, 0, none⟩) 0 0) [] := own_low (World.ownsRow_lit w #[] 0 (Nat.le_refl _) (by simp [maxLen]) rfl) hb
theorem row_one {w W : World} {T : Nat} {x y : Int} {bs : List (Nat × List Value)} (h : Has w ((T, [.int .i64 x, .int .i64 y]) :: bs) W) : RowP W (.slice (some ⟨T, 0, none⟩) 1 1) [(x, y)] :=
 RowP.block (ps := [(x, y)]) h.cells (Nat.le_refl _) (by simp)

end Go.Proofs.YtoaldbjcpfkcjaaGreat
