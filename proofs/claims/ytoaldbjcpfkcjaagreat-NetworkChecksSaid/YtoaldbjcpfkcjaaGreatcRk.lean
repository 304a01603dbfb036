/- The reference's Check. -/
import Derived.Test.YtoaldbjcpfkcjaaGreatcTx
import Derived.Test.YtoaldbjcpfkcjaaGreatcFi
namespace Go.Proofs.YtoaldbjcpfkcjaaGreat
open Go.RowKit Go.Lib

theorem rcross_is14 (u v : Value) (l m : List (Int × Int)) (r : Bool) (h : crossP l m = r) (w : World) (hu : RowP w u l) (hv : RowP w v m) :
  Calls Tryz.prog 35 #[u, v] w fun e w' => e = .returned (.bool r) ∧ Below w.heap.size w w' := by
 rw [cross_same] at h
 exact h ▸ rcrosses_any u v l m w hu hv
theorem rcheck_is14 (v : Value) (ps : List (Int × Int)) (r : Int) (h : chkP ps (simpleP ps) = r) (w : World) (hv : RowP w v ps) :
  Calls Tryz.prog 34 #[v] w fun e w' => e = .returned (.int .i64 r) ∧ Below w.heap.size w w' := by
 rw [chk_same] at h
 exact h ▸ rcheck_any v ps w hv
theorem check_at {ws : List Wy} {i : Nat} {t : Wy} {e : Int} (h6 : ws.length ≤ 80) (h0 : chkTo ws i = 0) (ht : ws[i]? = some t) (he : chkW t (ws.take i) = e) (hne : e ≠ 0) : checkN ws = e := by
 have h1 : chkTo ws (i + 1) = e := by rw [chkTo_next h0 ht, he]
 unfold checkN
 rw [if_neg (by omega), chkTo_stays (k := i + 1) (by rw [h1]; exact hne) (by have := (List.getElem?_eq_some_iff.1 ht).1; omega), h1]
set_option linter.unusedSimpArgs false in
set_option maxRecDepth 100000 in
set_option maxHeartbeats 8000000 in
theorem rchk14_any (v : Value) (ws : List Wy) (w : World) (hv : RowW w v ws) :
  Calls Tryz.prog 14 #[v] w fun e w' => e = .returned (.int .i64 (checkN ws)) ∧ Below w.heap.size w w' := by
 obtain ⟨wa, n, wc, rfl, hn, hc1, hc2, RW⟩ := hv.form
 have HN := Lib.hid hn
 have HW := Lib.hid RW
 by_cases h80 : 80 < n
 ·have HE := Lib.hid (show checkN ws = 2 by unfold checkN; rw [if_pos (by omega)])
  have z1 : decide ((n : Int) > 80) = true := decide_eq_true (by omega)
  have z2 : (n : Int) > 80 := by omega
  clear hn RW hv
  go_enter Tryz.func14, Tryz.ntmps14
  go_wp2_with fail
  go_ret
  exact ⟨by rw [HE.out]; rfl, Below.refl _ _⟩
 have z1 : ¬ (n : Int) > 80 := by omega
 have hn80 : n ≤ 80 := by omega
 clear hn RW hv h80
 go_enter Tryz.func14, Tryz.ntmps14
 go_wp2_with fail
 go_loopw [3] (fun r wr => ∃ i : Nat, i ≤ n ∧ r = .int .i64 i ∧ Below w.heap.size w wr ∧ Hid (chkTo ws i = 0)) (fun r _ => n - (RowKit.intOf r).toNat)
 case atStart => exact ⟨0, Nat.zero_le _, rfl, Below.refl _ _, Lib.hid rfl⟩
 case round =>
  obtain ⟨i, hi, rfl, hG, H0⟩ := hrel
  by_cases hin : i < n
  ·have b1 : (i : Int) < n := by omega
   have b2 : (0 : Int) ≤ i := by omega
   obtain ⟨bb, oo, rfl, hcell⟩ := HW.out.spot (by rw [HN.out]; omega)
   obtain ⟨ti, hti⟩ : ∃ t, ws[i]? = some t := ⟨_, List.getElem?_eq_getElem (by rw [HN.out]; omega)⟩
   obtain ⟨ui, ri, ai⟩ := hcell i ti hti
   have HTI := Lib.hid hti
   have HRL := Lib.hid ri
   have HCELL := Lib.hid hcell
   have HG0 := Lib.hid hG
   obtain ⟨la, ln, lc, rfl, hln, ri⟩ := ri.form
   obtain ⟨a0, a1, a2, a3, a4, a5, a6, a7⟩ := ai
   have k : ∀ {ad : Addr} {v : Value}, w.cell? ad = some v → wr.cell? ad = some v := fun {_ _} q => (Below.cell hG (World.block_lt_of_cell? w _ q)).trans q
   replace a0 := k a0
   replace a1 := k a1
   replace a2 := k a2
   replace a3 := k a3
   replace a4 := k a4
   replace a5 := k a5
   replace a6 := k a6
   replace a7 := k a7
   clear hti hcell k ri hln
   have C1 := has1 (w := wr) [.int .i64 ti.id, .slice la ln lc, .int .i64 ti.lv, .string ti.cl, .string ti.nm, .bool ti.st, .int .i64 ti.wt, .int .i64 ti.ds] 44
   change Has wr _ (wr.alloc (.cells #[.int .i64 ti.id, .slice la ln lc, .int .i64 ti.lv, .string ti.cl, .string ti.nm, .bool ti.st, .int .i64 ti.wt, .int .i64 ti.ds] 44)) at C1
   go_upto_region 7 with fail
   generalize wr.alloc (.cells #[.int .i64 ti.id, .slice la ln lc, .int .i64 ti.lv, .string ti.cl, .string ti.nm, .bool ti.st, .int .i64 ti.wt, .int .i64 ti.ds] 44) = w4 at *
   clear a0 a1 a2 a3 a4 a5 a6 a7
   obtain ⟨M, hM⟩ : ∃ M, wr.heap.size = M := ⟨_, rfl⟩
   rw [hM] at C1
   simp only [hM]
   obtain ⟨wb, rfl⟩ : ∃ W, W = wr := ⟨wr, rfl⟩
   have k0 := C1.fact (.head _) (i := 0) rfl
   have iw : IntKind.i64.wrap ((i : Int) + 1) = (i : Int) + 1 := by rw [IntKind.wrap_i64]; omega
   have BW : ∀ {W : World}, Has wb [(M, [.int .i64 ti.id, .slice la ln lc, .int .i64 ti.lv, .string ti.cl, .string ti.nm, .bool ti.st, .int .i64 ti.wt, .int .i64 ti.ds])] W → Below w.heap.size w W := fun {_} h => HG0.out.trans (h.low.mono HG0.out.size)
   have HBW := Lib.hid (fun (W : World) (h : Has wb [(M, [.int .i64 ti.id, .slice la ln lc, .int .i64 ti.lv, .string ti.cl, .string ti.nm, .bool ti.st, .int .i64 ti.wt, .int .i64 ti.ds])] W) => BW h)
   clear BW hG
   by_cases hid1 : ti.id < 1
   ·have d1 : decide (ti.id < 1) = true := decide_eq_true hid1
    have HE := Lib.hid (check_at (e := 1) (by rw [HN.out]; omega) H0.out HTI.out (by unfold chkW; rw [if_pos hid1]) (by decide))
    go_wp2_with fail
    go_ret
    exact ⟨by rw [HE.out]; rfl, HBW.out _ C1⟩
   ·have d1 : decide (ti.id < 1) = false := decide_eq_false hid1
    have HID := Lib.hid (show (ti.id < 1) = False from eq_false hid1)
    clear hid1
    go_wp2_with fail
    go_loopw [5] (fun r W => ∃ k : Nat, k ≤ i ∧ r = .int .i64 k ∧ Has wb [(M, [.int .i64 ti.id, .slice la ln lc, .int .i64 ti.lv, .string ti.cl, .string ti.nm, .bool ti.st, .int .i64 ti.wt, .int .i64 ti.ds])] W ∧ Hid ((ws.take k).any (sameId ti.id) = false)) (fun r _ => i - (RowKit.intOf r).toNat)
    case atStart => exact ⟨0, Nat.zero_le _, rfl, C1, Lib.hid rfl⟩
    case round =>
     clear C1 k0
     obtain ⟨k, hk, rfl, hC, HL⟩ := hrel
     by_cases hki : k < i
     ·have b5 : (k : Int) < i := by omega
      have b6 : (0 : Int) ≤ k := by omega
      have b7 : (k : Int) < n := by omega
      obtain ⟨tk, htk⟩ : ∃ t, ws[k]? = some t := ⟨_, List.getElem?_eq_getElem (by rw [HN.out]; omega)⟩
      obtain ⟨-, -, ck, -⟩ := HCELL.out k tk htk
      have c1 := (Below.cell (HBW.out _ hC) (World.block_lt_of_cell? w _ ck)).trans ck
      have k0 := hC.fact (.head _) (i := 0) rfl
      have kw : IntKind.i64.wrap ((k : Int) + 1) = (k : Int) + 1 := by rw [IntKind.wrap_i64]; omega
      have HTK := Lib.hid htk
      clear ck htk
      by_cases he : tk.id = ti.id
      ·have z : (tk.id == ti.id) = true := by rw [he]; simp
       have HE := Lib.hid (check_at (e := 6) (by rw [HN.out]; omega) H0.out HTI.out (by
        unfold chkW
        rw [if_neg (by rw [HID.out]; exact fun h => h), if_pos (List.any_eq_true.2 ⟨tk, List.mem_of_getElem? (by rw [List.getElem?_take, if_pos hki]; exact HTK.out), by unfold sameId; exact decide_eq_true he⟩)]) (by decide))
       clear he
       go_upto_region 12 with fail
       go_quiet (fail)
       have C2 := hC.drewN nq
       generalize wr.drewN nq = w6 at *
       clear k0 c1 hC
       go_wp2_with fail
       go_ret
       exact ⟨by rw [HE.out]; rfl, HBW.out _ C2⟩
      ·have z : (tk.id == ti.id) = false := by rw [beq_eq_false_iff_ne]; exact he
       have HL2 := Lib.hid (show (ws.take (k + 1)).any (sameId ti.id) = false by
        rw [take_snoc HTK.out, List.any_append, HL.out]
        simp only [List.any_cons, List.any_nil, Bool.or_false, Bool.false_or]
        unfold sameId
        exact decide_eq_false he)
       clear he
       go_upto_region 12 with fail
       go_quiet (fail)
       have C2 := hC.drewN nq
       generalize wr.drewN nq = w6 at *
       clear k0 c1 hC
       go_wp2_with fail
       go_roundw
       case rel => exact ⟨k + 1, by omega, by go_num, C2, HL2⟩
       case measure => simp [RowKit.intOf]; omega
     ·obtain rfl : i = k := by omega
      have c1 := hC.fact (.head _) (i := 1) rfl
      obtain ⟨e, he⟩ : ∃ e, chkP ti.ln (simpleP ti.ln) = e := ⟨_, rfl⟩
      have HE0 := Lib.hid he
      clear he
      go_wp2_with fail
      refine (Has.call hC (rcheck_is14 _ _ e HE0.out _ (HRL.out.later (HBW.out _ hC)))).mono ?_
      rintro e' w6 ⟨rfl, C2⟩
      clear c1 hC
      by_cases hz : e = 0
      ·subst hz
       obtain ⟨d0, d1, d2, d3, d4, d5, d6, d7⟩ := C2.wy
       clear d0 d1 d3 d4 d5 d7
       by_cases hr : (ti.lv < -2 ∨ 2 < ti.lv) ∨ (ti.wt < 1 ∨ 255 < ti.wt)
       ·have HE := Lib.hid (check_at (e := 3) (by rw [HN.out]; omega) H0.out HTI.out (by
         unfold chkW
         rw [if_neg (by rw [HID.out]; exact fun h => h), if_neg (by rw [HL.out]; simp), if_neg (by rw [HE0.out]; simp), if_pos hr]) (by decide))
        have BE := HBW.out _ C2
        by_cases r1 : ti.lv < -2
        ·have s1 : decide (ti.lv < -2) = true := decide_eq_true r1
         go_wp2_with fail
         go_ret
         exact ⟨by rw [HE.out]; rfl, BE⟩
        ·have s1 : decide (ti.lv < -2) = false := decide_eq_false r1
         by_cases r2 : ti.lv > 2
         ·have s2 : decide (ti.lv > 2) = true := decide_eq_true r2
          go_wp2_with fail
          go_ret
          exact ⟨by rw [HE.out]; rfl, BE⟩
         ·have s2 : decide (ti.lv > 2) = false := decide_eq_false r2
          by_cases r3 : ti.wt < 1
          ·have s3 : decide (ti.wt < 1) = true := decide_eq_true r3
           go_wp2_with fail
           go_ret
           exact ⟨by rw [HE.out]; rfl, BE⟩
          ·have s3 : decide (ti.wt < 1) = false := decide_eq_false r3
           have r4 : ti.wt > 255 := by omega
           have s4 : decide (ti.wt > 255) = true := decide_eq_true r4
           go_wp2_with fail
           go_ret
           exact ⟨by rw [HE.out]; rfl, BE⟩
       ·have r1 : ¬ ti.lv < -2 := by omega
        have r2 : ¬ ti.lv > 2 := by omega
        have r3 : ¬ ti.wt < 1 := by omega
        have r4 : ¬ ti.wt > 255 := by omega
        have HRR := Lib.hid (show ((ti.lv < -2 ∨ 2 < ti.lv) ∨ (ti.wt < 1 ∨ 255 < ti.wt)) = False from eq_false hr)
        clear hr
        go_wp2_with fail
        go_loopw [7] (fun r W => ∃ k : Nat, k ≤ i ∧ r = .int .i64 k ∧ Has wb [(M, [.int .i64 ti.id, .slice la ln lc, .int .i64 ti.lv, .string ti.cl, .string ti.nm, .bool ti.st, .int .i64 ti.wt, .int .i64 ti.ds])] W ∧ Hid ((ws.take k).any (sameLv ti.lv ti.ln) = false)) (fun r _ => i - (RowKit.intOf r).toNat)
        case atStart => exact ⟨0, Nat.zero_le _, rfl, C2, Lib.hid rfl⟩
        case round =>
         clear C2
         obtain ⟨k, hk', rfl, hC, HV⟩ := hrel
         by_cases hki : k < i
         ·have b5 : (k : Int) < i := by omega
          have b6 : (0 : Int) ≤ k := by omega
          have b7 : (k : Int) < n := by omega
          obtain ⟨tk, htk⟩ : ∃ t, ws[k]? = some t := ⟨_, List.getElem?_eq_getElem (by rw [HN.out]; omega)⟩
          obtain ⟨uk, rk, ck⟩ := HCELL.out k tk htk
          have HRK := Lib.hid rk
          obtain ⟨ka, kn, kc, rfl, hkn, -⟩ := rk.form
          have HK1 := Lib.hid ck.2.1
          have HK2 := Lib.hid ck.2.2.1
          have HTK := Lib.hid htk
          have kw : IntKind.i64.wrap ((k : Int) + 1) = (k : Int) + 1 := by rw [IntKind.wrap_i64]; omega
          obtain ⟨cb, hcb⟩ : ∃ cb, crossP tk.ln ti.ln = cb := ⟨_, rfl⟩
          have HCB := Lib.hid hcb
          clear ck htk rk hkn
          by_cases he : tk.lv = ti.lv
          ·have z : (tk.lv == ti.lv) = true := by rw [he]; simp
           have HSV := Lib.hid (show sameLv ti.lv ti.ln tk = cb by unfold sameLv; rw [hcb, he]; simp)
           clear he hcb
           cases cb
           ·have HL2 := Lib.hid (show (ws.take (k + 1)).any (sameLv ti.lv ti.ln) = false by
             rw [take_snoc HTK.out, List.any_append, HV.out]
             simp only [List.any_cons, List.any_nil, Bool.or_false, Bool.false_or]
             exact HSV.out)
            have HS2 := Lib.hid (show ∀ w', Has wb [(M, [.int .i64 ti.id, .slice la ln lc, .int .i64 ti.lv, .string ti.cl, .string ti.nm, .bool ti.st, .int .i64 ti.wt, .int .i64 ti.ds])] w' → (w'.cell? ⟨bb, oo + k * 8 + 2, none⟩ = some (.int .i64 tk.lv) ∧ w'.cell? ⟨bb, oo + k * 8 + 1, none⟩ = some (.slice ka kn kc) ∧ w'.cell? ⟨M, 2, none⟩ = some (.int .i64 ti.lv) ∧ w'.cell? ⟨M, 1, none⟩ = some (.slice la ln lc)) ∧ Has wb [(M, [.int .i64 ti.id, .slice la ln lc, .int .i64 ti.lv, .string ti.cl, .string ti.nm, .bool ti.st, .int .i64 ti.wt, .int .i64 ti.ds])] w' from fun w' h => ⟨⟨(Below.cell (HG0.out.trans (h.low.mono HG0.out.size)) (World.block_lt_of_cell? w _ HK2.out)).trans HK2.out, (Below.cell (HG0.out.trans (h.low.mono HG0.out.size)) (World.block_lt_of_cell? w _ HK1.out)).trans HK1.out, h.fact (.head _) (i := 2) rfl, h.fact (.head _) (i := 1) rfl⟩, h⟩)
            go_upto_region 22 with fail
            have X0 := hC.drew
            refine wp_region_held_drew (S := (fun w' => (w'.cell? ⟨bb, oo + k * 8 + 2, none⟩ = some (.int .i64 tk.lv) ∧ w'.cell? ⟨bb, oo + k * 8 + 1, none⟩ = some (.slice ka kn kc) ∧ w'.cell? ⟨M, 2, none⟩ = some (.int .i64 ti.lv) ∧ w'.cell? ⟨M, 1, none⟩ = some (.slice la ln lc)) ∧ Has wb [(M, [.int .i64 ti.id, .slice la ln lc, .int .i64 ti.lv, .string ti.cl, .string ti.nm, .bool ti.st, .int .i64 ti.wt, .int .i64 ti.ds])] w')) (by kernel_rfl) (HS2.out _ X0) (fun hHeld => ?_)
            generalize wr.drew = v0 at *
            clear hC
            refine tbA [0, 1, 2, 3] ?_
            refine tkA (.slice (some ⟨bb, oo, none⟩) n wc) (oi := ⟨some 66, .move (.tmp 0), 23, _, _, none⟩) ?_
            simp only [Act.put, pA, pB, pC]
            refine tkA (.int .i64 k) (oi := ⟨some 67, .move (.tmp 7), 3, _, _, none⟩) ?_
            simp only [Act.put, pA, pB, pC]
            refine tkA (.pointer (some ⟨bb, oo + k * 8, none⟩)) (oi := ⟨some 68, .indexAddr 23 (.tmp 66) (.tmp 67), 0, _, _, none⟩) ?_
            simp only [Act.put, pA, pB, pC]
            refine tkA (.pointer (some ⟨bb, oo + k * 8 + 2, none⟩)) (oi := ⟨some 69, .fieldAddr 44 (.tmp 68) 2, 0, _, _, none⟩) ?_
            simp only [Act.put, pA, pB, pC]
            refine teA ?_
            refine tlA #[true, true, true, true, false, false, false, false, false, false, false, false, false, false, false, false, false, false] ?_
            refine tbA [4, 5, 6] ?_
            refine tkA (.int .i64 tk.lv) (oi := ⟨some 70, .load 3 (.tmp 69), 3, _, _, none⟩) ?_
            simp only [Act.put, pA, pB, pC]
            refine tkA (.pointer (some ⟨M, 2, none⟩)) (oi := ⟨some 71, .fieldAddr 44 (.tmp 4) 2, 0, _, _, none⟩) ?_
            simp only [Act.put, pA, pB, pC]
            refine tkA (.int .i64 ti.lv) (oi := ⟨some 72, .load 3 (.tmp 71), 3, _, _, none⟩) ?_
            simp only [Act.put, pA, pB, pC]
            refine teA ?_
            refine tlA #[true, true, true, true, true, true, true, false, false, false, false, false, false, false, false, false, false, false] ?_
            refine tbA [7, 8] ?_
            refine tkA (.bool true) (oi := ⟨some 73, .binOp .eql 3 (.tmp 70) (.tmp 72) 3, 4, _, _, none⟩) ?_
            simp only [Act.put, pA, pB, pC]
            refine tkA (.bool true) (oi := ⟨some 74, .move (.tmp 73), 4, _, _, none⟩) ?_
            simp only [Act.put, pA, pB, pC]
            refine teA ?_
            refine tlA #[true, true, true, true, true, true, true, true, true, false, false, false, false, false, false, false, false, false] ?_
            refine tbA [9, 10, 11, 12] ?_
            refine tkA (.slice (some ⟨bb, oo, none⟩) n wc) (oi := ⟨some 75, .move (.tmp 0), 23, _, _, some (8, true)⟩) ?_
            simp only [Act.put, pA, pB, pC]
            refine tkA (.int .i64 k) (oi := ⟨some 76, .move (.tmp 7), 3, _, _, some (8, true)⟩) ?_
            simp only [Act.put, pA, pB, pC]
            refine tkA (.pointer (some ⟨bb, oo + k * 8, none⟩)) (oi := ⟨some 77, .indexAddr 23 (.tmp 75) (.tmp 76), 0, _, _, some (8, true)⟩) ?_
            simp only [Act.put, pA, pB, pC]
            refine tkA (.pointer (some ⟨bb, oo + k * 8 + 1, none⟩)) (oi := ⟨some 78, .fieldAddr 44 (.tmp 77) 1, 0, _, _, some (8, true)⟩) ?_
            simp only [Act.put, pA, pB, pC]
            refine teA ?_
            refine tlA #[true, true, true, true, true, true, true, true, true, true, true, true, true, false, false, false, false, false] ?_
            refine tbA [13, 14, 15] ?_
            refine tkA (.slice ka kn kc) (oi := ⟨some 79, .load 42 (.tmp 78), 42, _, _, some (8, true)⟩) ?_
            simp only [Act.put, pA, pB, pC]
            refine tkA (.pointer (some ⟨M, 1, none⟩)) (oi := ⟨some 80, .fieldAddr 44 (.tmp 4) 1, 0, _, _, some (8, true)⟩) ?_
            simp only [Act.put, pA, pB, pC]
            refine tkA (.slice la ln lc) (oi := ⟨some 81, .load 42 (.tmp 80), 42, _, _, some (8, true)⟩) ?_
            simp only [Act.put, pA, pB, pC]
            refine teA ?_
            refine tlA #[true, true, true, true, true, true, true, true, true, true, true, true, true, true, true, true, false, false] ?_
            refine trA [16] ?_
            refine AllReadyH.cons (o := ⟨some 82, .call { callee := .value (.func 35), args := #[.tmp 79, .tmp 81], argTypes := #[42, 42] }, 4, _, _, some (8, true)⟩) rfl (fun K hK => ?_) AllReadyH.nil
            go_simp
            go_at_call 35
            refine (Has.call X0 (rcross_is14 _ _ tk.ln ti.ln false HCB.out _ (HRK.out.later (HG0.out.trans (X0.low.mono HG0.out.size))) (HRL.out.later (HG0.out.trans (X0.low.mono HG0.out.size))))).mono ?_
            rintro e v1 ⟨rfl, X1⟩
            go_wp2_with fail
            clear hHeld
            refine hK.out _ _ (HS2.out _ X1) (fun hHeld => ?_)
            clear hK K
            try simp only [pA, pB, pC]
            refine tlA #[true, true, true, true, true, true, true, true, true, true, true, true, true, true, true, true, true, false] ?_
            clear X0
            refine tbA [17] ?_
            refine tkA (.bool false) (oi := ⟨some 83, .pick (.tmp 74) (.tmp 82) (.const (.bool false)), 4, _, _, none⟩) ?_
            simp only [Act.put, pA, pB, pC]
            refine teA ?_
            refine tlA #[true, true, true, true, true, true, true, true, true, true, true, true, true, true, true, true, true, true] ?_
            refine wpAnyH_done (by kernel_rfl) ?_ _
            clear hHeld HS2
            go_wp2_with fail
            go_roundw
            case rel => exact ⟨k + 1, by omega, by go_num, X1, HL2⟩
            case measure => simp [RowKit.intOf]; omega
           ·have HE := Lib.hid (check_at (e := 16) (by rw [HN.out]; omega) H0.out HTI.out (by
             unfold chkW
             rw [if_neg (by rw [HID.out]; exact fun h => h), if_neg (by rw [HL.out]; simp), if_neg (by rw [HE0.out]; simp), if_neg (by rw [HRR.out]; exact fun h => h), if_pos (List.any_eq_true.2 ⟨tk, List.mem_of_getElem? (by rw [List.getElem?_take, if_pos hki]; exact HTK.out), HSV.out⟩)]) (by decide))
            have HS2 := Lib.hid (show ∀ w', Has wb [(M, [.int .i64 ti.id, .slice la ln lc, .int .i64 ti.lv, .string ti.cl, .string ti.nm, .bool ti.st, .int .i64 ti.wt, .int .i64 ti.ds])] w' → (w'.cell? ⟨bb, oo + k * 8 + 2, none⟩ = some (.int .i64 tk.lv) ∧ w'.cell? ⟨bb, oo + k * 8 + 1, none⟩ = some (.slice ka kn kc) ∧ w'.cell? ⟨M, 2, none⟩ = some (.int .i64 ti.lv) ∧ w'.cell? ⟨M, 1, none⟩ = some (.slice la ln lc)) ∧ Has wb [(M, [.int .i64 ti.id, .slice la ln lc, .int .i64 ti.lv, .string ti.cl, .string ti.nm, .bool ti.st, .int .i64 ti.wt, .int .i64 ti.ds])] w' from fun w' h => ⟨⟨(Below.cell (HG0.out.trans (h.low.mono HG0.out.size)) (World.block_lt_of_cell? w _ HK2.out)).trans HK2.out, (Below.cell (HG0.out.trans (h.low.mono HG0.out.size)) (World.block_lt_of_cell? w _ HK1.out)).trans HK1.out, h.fact (.head _) (i := 2) rfl, h.fact (.head _) (i := 1) rfl⟩, h⟩)
            go_upto_region 22 with fail
            have X0 := hC.drew
            refine wp_region_held_drew (S := (fun w' => (w'.cell? ⟨bb, oo + k * 8 + 2, none⟩ = some (.int .i64 tk.lv) ∧ w'.cell? ⟨bb, oo + k * 8 + 1, none⟩ = some (.slice ka kn kc) ∧ w'.cell? ⟨M, 2, none⟩ = some (.int .i64 ti.lv) ∧ w'.cell? ⟨M, 1, none⟩ = some (.slice la ln lc)) ∧ Has wb [(M, [.int .i64 ti.id, .slice la ln lc, .int .i64 ti.lv, .string ti.cl, .string ti.nm, .bool ti.st, .int .i64 ti.wt, .int .i64 ti.ds])] w')) (by kernel_rfl) (HS2.out _ X0) (fun hHeld => ?_)
            generalize wr.drew = v0 at *
            clear hC
            refine tbA [0, 1, 2, 3] ?_
            refine tkA (.slice (some ⟨bb, oo, none⟩) n wc) (oi := ⟨some 66, .move (.tmp 0), 23, _, _, none⟩) ?_
            simp only [Act.put, pA, pB, pC]
            refine tkA (.int .i64 k) (oi := ⟨some 67, .move (.tmp 7), 3, _, _, none⟩) ?_
            simp only [Act.put, pA, pB, pC]
            refine tkA (.pointer (some ⟨bb, oo + k * 8, none⟩)) (oi := ⟨some 68, .indexAddr 23 (.tmp 66) (.tmp 67), 0, _, _, none⟩) ?_
            simp only [Act.put, pA, pB, pC]
            refine tkA (.pointer (some ⟨bb, oo + k * 8 + 2, none⟩)) (oi := ⟨some 69, .fieldAddr 44 (.tmp 68) 2, 0, _, _, none⟩) ?_
            simp only [Act.put, pA, pB, pC]
            refine teA ?_
            refine tlA #[true, true, true, true, false, false, false, false, false, false, false, false, false, false, false, false, false, false] ?_
            refine tbA [4, 5, 6] ?_
            refine tkA (.int .i64 tk.lv) (oi := ⟨some 70, .load 3 (.tmp 69), 3, _, _, none⟩) ?_
            simp only [Act.put, pA, pB, pC]
            refine tkA (.pointer (some ⟨M, 2, none⟩)) (oi := ⟨some 71, .fieldAddr 44 (.tmp 4) 2, 0, _, _, none⟩) ?_
            simp only [Act.put, pA, pB, pC]
            refine tkA (.int .i64 ti.lv) (oi := ⟨some 72, .load 3 (.tmp 71), 3, _, _, none⟩) ?_
            simp only [Act.put, pA, pB, pC]
            refine teA ?_
            refine tlA #[true, true, true, true, true, true, true, false, false, false, false, false, false, false, false, false, false, false] ?_
            refine tbA [7, 8] ?_
            refine tkA (.bool true) (oi := ⟨some 73, .binOp .eql 3 (.tmp 70) (.tmp 72) 3, 4, _, _, none⟩) ?_
            simp only [Act.put, pA, pB, pC]
            refine tkA (.bool true) (oi := ⟨some 74, .move (.tmp 73), 4, _, _, none⟩) ?_
            simp only [Act.put, pA, pB, pC]
            refine teA ?_
            refine tlA #[true, true, true, true, true, true, true, true, true, false, false, false, false, false, false, false, false, false] ?_
            refine tbA [9, 10, 11, 12] ?_
            refine tkA (.slice (some ⟨bb, oo, none⟩) n wc) (oi := ⟨some 75, .move (.tmp 0), 23, _, _, some (8, true)⟩) ?_
            simp only [Act.put, pA, pB, pC]
            refine tkA (.int .i64 k) (oi := ⟨some 76, .move (.tmp 7), 3, _, _, some (8, true)⟩) ?_
            simp only [Act.put, pA, pB, pC]
            refine tkA (.pointer (some ⟨bb, oo + k * 8, none⟩)) (oi := ⟨some 77, .indexAddr 23 (.tmp 75) (.tmp 76), 0, _, _, some (8, true)⟩) ?_
            simp only [Act.put, pA, pB, pC]
            refine tkA (.pointer (some ⟨bb, oo + k * 8 + 1, none⟩)) (oi := ⟨some 78, .fieldAddr 44 (.tmp 77) 1, 0, _, _, some (8, true)⟩) ?_
            simp only [Act.put, pA, pB, pC]
            refine teA ?_
            refine tlA #[true, true, true, true, true, true, true, true, true, true, true, true, true, false, false, false, false, false] ?_
            refine tbA [13, 14, 15] ?_
            refine tkA (.slice ka kn kc) (oi := ⟨some 79, .load 42 (.tmp 78), 42, _, _, some (8, true)⟩) ?_
            simp only [Act.put, pA, pB, pC]
            refine tkA (.pointer (some ⟨M, 1, none⟩)) (oi := ⟨some 80, .fieldAddr 44 (.tmp 4) 1, 0, _, _, some (8, true)⟩) ?_
            simp only [Act.put, pA, pB, pC]
            refine tkA (.slice la ln lc) (oi := ⟨some 81, .load 42 (.tmp 80), 42, _, _, some (8, true)⟩) ?_
            simp only [Act.put, pA, pB, pC]
            refine teA ?_
            refine tlA #[true, true, true, true, true, true, true, true, true, true, true, true, true, true, true, true, false, false] ?_
            refine trA [16] ?_
            refine AllReadyH.cons (o := ⟨some 82, .call { callee := .value (.func 35), args := #[.tmp 79, .tmp 81], argTypes := #[42, 42] }, 4, _, _, some (8, true)⟩) rfl (fun K hK => ?_) AllReadyH.nil
            go_simp
            go_at_call 35
            refine (Has.call X0 (rcross_is14 _ _ tk.ln ti.ln true HCB.out _ (HRK.out.later (HG0.out.trans (X0.low.mono HG0.out.size))) (HRL.out.later (HG0.out.trans (X0.low.mono HG0.out.size))))).mono ?_
            rintro e v1 ⟨rfl, X1⟩
            go_wp2_with fail
            clear hHeld
            refine hK.out _ _ (HS2.out _ X1) (fun hHeld => ?_)
            clear hK K
            try simp only [pA, pB, pC]
            refine tlA #[true, true, true, true, true, true, true, true, true, true, true, true, true, true, true, true, true, false] ?_
            clear X0
            refine tbA [17] ?_
            refine tkA (.bool true) (oi := ⟨some 83, .pick (.tmp 74) (.tmp 82) (.const (.bool false)), 4, _, _, none⟩) ?_
            simp only [Act.put, pA, pB, pC]
            refine teA ?_
            refine tlA #[true, true, true, true, true, true, true, true, true, true, true, true, true, true, true, true, true, true] ?_
            refine wpAnyH_done (by kernel_rfl) ?_ _
            clear hHeld HS2
            go_wp2_with fail
            go_ret
            exact ⟨by rw [HE.out]; rfl, HBW.out _ X1⟩
          ·have z : (tk.lv == ti.lv) = false := by rw [beq_eq_false_iff_ne]; exact he
           have HL2 := Lib.hid (show (ws.take (k + 1)).any (sameLv ti.lv ti.ln) = false by
            rw [take_snoc HTK.out, List.any_append, HV.out]
            simp only [List.any_cons, List.any_nil, Bool.or_false, Bool.false_or]
            unfold sameLv
            rw [decide_eq_false he]; rfl)
           clear he hcb
           have HS2 := Lib.hid (show ∀ w', Has wb [(M, [.int .i64 ti.id, .slice la ln lc, .int .i64 ti.lv, .string ti.cl, .string ti.nm, .bool ti.st, .int .i64 ti.wt, .int .i64 ti.ds])] w' → (w'.cell? ⟨bb, oo + k * 8 + 2, none⟩ = some (.int .i64 tk.lv) ∧ w'.cell? ⟨bb, oo + k * 8 + 1, none⟩ = some (.slice ka kn kc) ∧ w'.cell? ⟨M, 2, none⟩ = some (.int .i64 ti.lv) ∧ w'.cell? ⟨M, 1, none⟩ = some (.slice la ln lc)) ∧ Has wb [(M, [.int .i64 ti.id, .slice la ln lc, .int .i64 ti.lv, .string ti.cl, .string ti.nm, .bool ti.st, .int .i64 ti.wt, .int .i64 ti.ds])] w' from fun w' h => ⟨⟨(Below.cell (HG0.out.trans (h.low.mono HG0.out.size)) (World.block_lt_of_cell? w _ HK2.out)).trans HK2.out, (Below.cell (HG0.out.trans (h.low.mono HG0.out.size)) (World.block_lt_of_cell? w _ HK1.out)).trans HK1.out, h.fact (.head _) (i := 2) rfl, h.fact (.head _) (i := 1) rfl⟩, h⟩)
           go_upto_region 22 with fail
           have X0 := hC.drew
           refine wp_region_held_drew (S := (fun w' => (w'.cell? ⟨bb, oo + k * 8 + 2, none⟩ = some (.int .i64 tk.lv) ∧ w'.cell? ⟨bb, oo + k * 8 + 1, none⟩ = some (.slice ka kn kc) ∧ w'.cell? ⟨M, 2, none⟩ = some (.int .i64 ti.lv) ∧ w'.cell? ⟨M, 1, none⟩ = some (.slice la ln lc)) ∧ Has wb [(M, [.int .i64 ti.id, .slice la ln lc, .int .i64 ti.lv, .string ti.cl, .string ti.nm, .bool ti.st, .int .i64 ti.wt, .int .i64 ti.ds])] w')) (by kernel_rfl) (HS2.out _ X0) (fun hHeld => ?_)
           generalize wr.drew = v0 at *
           clear hC
           refine tbA [0, 1, 2, 3] ?_
           refine tkA (.slice (some ⟨bb, oo, none⟩) n wc) (oi := ⟨some 66, .move (.tmp 0), 23, _, _, none⟩) ?_
           simp only [Act.put, pA, pB, pC]
           refine tkA (.int .i64 k) (oi := ⟨some 67, .move (.tmp 7), 3, _, _, none⟩) ?_
           simp only [Act.put, pA, pB, pC]
           refine tkA (.pointer (some ⟨bb, oo + k * 8, none⟩)) (oi := ⟨some 68, .indexAddr 23 (.tmp 66) (.tmp 67), 0, _, _, none⟩) ?_
           simp only [Act.put, pA, pB, pC]
           refine tkA (.pointer (some ⟨bb, oo + k * 8 + 2, none⟩)) (oi := ⟨some 69, .fieldAddr 44 (.tmp 68) 2, 0, _, _, none⟩) ?_
           simp only [Act.put, pA, pB, pC]
           refine teA ?_
           refine tlA #[true, true, true, true, false, false, false, false, false, false, false, false, false, false, false, false, false, false] ?_
           refine tbA [4, 5, 6] ?_
           refine tkA (.int .i64 tk.lv) (oi := ⟨some 70, .load 3 (.tmp 69), 3, _, _, none⟩) ?_
           simp only [Act.put, pA, pB, pC]
           refine tkA (.pointer (some ⟨M, 2, none⟩)) (oi := ⟨some 71, .fieldAddr 44 (.tmp 4) 2, 0, _, _, none⟩) ?_
           simp only [Act.put, pA, pB, pC]
           refine tkA (.int .i64 ti.lv) (oi := ⟨some 72, .load 3 (.tmp 71), 3, _, _, none⟩) ?_
           simp only [Act.put, pA, pB, pC]
           refine teA ?_
           refine tlA #[true, true, true, true, true, true, true, false, false, false, false, false, false, false, false, false, false, false] ?_
           refine tbA [7, 8] ?_
           refine tkA (.bool false) (oi := ⟨some 73, .binOp .eql 3 (.tmp 70) (.tmp 72) 3, 4, _, _, none⟩) ?_
           simp only [Act.put, pA, pB, pC]
           refine tkA (.bool false) (oi := ⟨some 74, .move (.tmp 73), 4, _, _, none⟩) ?_
           simp only [Act.put, pA, pB, pC]
           refine teA ?_
           refine tlA #[true, true, true, true, true, true, true, true, true, false, false, false, false, false, false, false, false, false] ?_
           refine tbA [9, 10, 11, 12, 13, 14] ?_
           refine wpAnyT_skip (oi := ⟨some 75, .move (.tmp 0), 23, _, _, some (8, true)⟩) rfl (fun _ _ _ h => h) (by rfl) (by assumption) ?_
           simp only [Act.put, pA, pB, pC]
           refine wpAnyT_skip (oi := ⟨some 76, .move (.tmp 7), 3, _, _, some (8, true)⟩) rfl (fun _ _ _ h => h) (by rfl) (by assumption) ?_
           simp only [Act.put, pA, pB, pC]
           refine wpAnyT_skip (oi := ⟨some 77, .indexAddr 23 (.tmp 75) (.tmp 76), 0, _, _, some (8, true)⟩) rfl (fun _ _ _ h => h) (by rfl) (by assumption) ?_
           simp only [Act.put, pA, pB, pC]
           refine wpAnyT_skip (oi := ⟨some 78, .fieldAddr 44 (.tmp 77) 1, 0, _, _, some (8, true)⟩) rfl (fun _ _ _ h => h) (by rfl) (by assumption) ?_
           simp only [Act.put, pA, pB, pC]
           refine wpAnyT_skip (oi := ⟨some 79, .load 42 (.tmp 78), 42, _, _, some (8, true)⟩) rfl (fun _ _ _ h => h) (by rfl) (by assumption) ?_
           simp only [Act.put, pA, pB, pC]
           refine wpAnyT_skip (oi := ⟨some 80, .fieldAddr 44 (.tmp 4) 1, 0, _, _, some (8, true)⟩) rfl (fun _ _ _ h => h) (by rfl) (by assumption) ?_
           simp only [Act.put, pA, pB, pC]
           refine teA ?_
           refine tlA #[true, true, true, true, true, true, true, true, true, true, true, true, true, true, true, false, false, false] ?_
           refine tbA [15] ?_
           refine wpAnyT_skip (oi := ⟨some 81, .load 42 (.tmp 80), 42, _, _, some (8, true)⟩) rfl (fun _ _ _ h => h) (by rfl) (by assumption) ?_
           simp only [Act.put, pA, pB, pC]
           refine teA ?_
           refine tlA #[true, true, true, true, true, true, true, true, true, true, true, true, true, true, true, true, false, false] ?_
           refine tbA [16] ?_
           refine wpAnyT_skip (oi := ⟨some 82, .call { callee := .value (.func 35), args := #[.tmp 79, .tmp 81], argTypes := #[42, 42] }, 4, _, _, some (8, true)⟩) rfl (fun _ _ _ h => h) (by rfl) (by assumption) ?_
           simp only [Act.put, pA, pB, pC]
           refine teA ?_
           refine tlA #[true, true, true, true, true, true, true, true, true, true, true, true, true, true, true, true, true, false] ?_
           refine tbA [17] ?_
           refine tkA (.bool false) (oi := ⟨some 83, .pick (.tmp 74) (.tmp 82) (.const (.bool false)), 4, _, _, none⟩) ?_
           simp only [Act.put, pA, pB, pC]
           refine teA ?_
           refine tlA #[true, true, true, true, true, true, true, true, true, true, true, true, true, true, true, true, true, true] ?_
           refine wpAnyH_done (by kernel_rfl) ?_ _
           clear hHeld HS2
           go_wp2_with fail
           go_roundw
           case rel => exact ⟨k + 1, by omega, by go_num, X0, HL2⟩
           case measure => simp [RowKit.intOf]; omega
         ·obtain rfl : k = i := by omega
          have H1 := Lib.hid (show chkTo ws (k + 1) = 0 by
           rw [chkTo_next H0.out HTI.out]
           unfold chkW
           rw [if_neg (by rw [HID.out]; exact fun h => h), if_neg (by rw [HL.out]; simp), if_neg (by rw [HE0.out]; simp), if_neg (by rw [HRR.out]; exact fun h => h), if_neg (by rw [HV.out]; simp)])
          have BE := HBW.out _ hC
          go_wp2_with fail
          go_roundw
          case rel => exact ⟨k + 1, by omega, by go_num, BE, H1⟩
          case measure => simp [RowKit.intOf]; omega
      ·have z : (e != 0) = true := by simp [bne, hz]
       have HE := Lib.hid (check_at (e := e) (by rw [HN.out]; omega) H0.out HTI.out (by
        unfold chkW
        rw [if_neg (by rw [HID.out]; exact fun h => h), if_neg (by rw [HL.out]; simp), if_pos (by rw [HE0.out]; exact hz), HE0.out]) hz)
       have BE := HBW.out _ C2
       clear hz
       go_wp2_with fail
       go_ret
       exact ⟨by rw [HE.out]; rfl, BE⟩
  ·obtain rfl : i = n := by omega
   have b4 : ¬ (i : Int) < i := by omega
   have HE := Lib.hid (show checkN ws = 0 by unfold checkN; rw [if_neg (by rw [HN.out]; omega), HN.out]; exact H0.out)
   go_wp2_with fail
   go_ret
   exact ⟨by rw [HE.out]; rfl, hG⟩

end Go.Proofs.YtoaldbjcpfkcjaaGreat
