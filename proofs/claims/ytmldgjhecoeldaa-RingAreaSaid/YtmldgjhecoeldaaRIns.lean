/- The reference: Inside. -/
import Derived.Test.YtmldgjhecoeldaaIns
import Derived.Test.YtmldgjhecoeldaaRCk
import Derived.Test.YtmldgjhecoeldaaRRy
import Derived.Test.YtmldgjhecoeldaaKit
namespace Go.Proofs.Ytmldgjhecoeldaa
open Go.RowKit Go.Lib

theorem rringcheck_is (v : Value) (ps : List (Int × Int)) (w : World) (hv : RowP w v ps) (r : Int) (h : rchkP ps = r) :
    Calls Try.prog 15 #[v] w fun e w' => e = .returned (.int .i64 r) ∧ Below w.heap.size w w' := h ▸ rringcheck_any v ps w hv
set_option linter.unusedSimpArgs false in
set_option maxRecDepth 100000 in
set_option maxHeartbeats 16000000 in
theorem rinside_any (v : Value) (ps : List (Int × Int)) (p0 p1 : Int) (w : World) (hv : RowP w v ps) :
    Calls Try.prog 19 #[v, .agg #[.int .i64 p0, .int .i64 p1]] w fun e w' => e = .returned (.int .i64 (insP ps (p0, p1))) ∧ Below w.heap.size w w' := by
  have C0 := has1 (w := w) [.int .i64 p0, .int .i64 p1] 24
  change Has w _ (w.alloc (.cells #[.int .i64 p0, .int .i64 p1] 24)) at C0
  obtain ⟨c, hc⟩ : ∃ c, rchkP ps = c := ⟨_, rfl⟩
  have HC := Lib.hid hc
  have HV0 := Lib.hid hv
  by_cases hc0 : c = 0
  case neg =>
    have HR := Lib.hid (show (-1 : Int) = insP ps (p0, p1) by unfold insP; rw [if_pos (by rw [hc]; exact hc0)])
    have hcb : (c == 0) = false := by rw [beq_eq_false_iff_ne]; exact hc0
    clear hc hv
    go_enter Try.func19, Try.ntmps19
    go_wp2_with fail
    generalize w.alloc (.cells #[.int .i64 p0, .int .i64 p1] 24) = w1 at *
    refine (Has.call C0 (rringcheck_is v ps _ (HV0.out.later C0.low) _ HC.out)).mono ?_
    rintro e w2 ⟨rfl, C1⟩
    go_wp2_with fail
    go_ret
    exact ⟨ret_i HR.out, C1.low⟩
  subst hc0
  have hlen : ps.length < 40 := by
    rcases Nat.lt_or_ge ps.length 40 with h | h
    · exact h
    · have := rchk_many h; omega
  have hv0 := hv
  obtain ⟨a, cap, rfl, hc1, hc2, -⟩ := hv0
  obtain ⟨r, hr⟩ : ∃ r, insV ps (p0, p1) = r := ⟨_, rfl⟩
  have HR := Lib.hid (show r = insP ps (p0, p1) by unfold insP; rw [if_neg (by rw [hc]; simp), hr])
  obtain ⟨m, hm⟩ : ∃ m, ps.length = m := ⟨_, rfl⟩
  rw [hm] at hc1 hv HV0 hlen
  have HM := Lib.hid hm
  have HV := Lib.hid hv
  have HF := Lib.hid hr
  clear hr hm hv hc
  rw [HM.out]
  go_enter Try.func19, Try.ntmps19
  go_wp2_with fail
  generalize w.alloc (.cells #[.int .i64 p0, .int .i64 p1] 24) = w1 at *
  refine (Has.call C0 (rringcheck_is _ ps _ (HV.out.later C0.low) _ HC.out)).mono ?_
  rintro e w2 ⟨rfl, C1⟩
  go_wp2_with fail
  go_loopw [6, 5] (fun i s wr => ∃ k : Nat, k ≤ m ∧ i = .int .i64 k ∧ s = .int .i64 (sumT (rayK ps (p0, p1)) k) ∧ Hid (anyTo (onK ps (p0, p1)) k = false) ∧ Has w [(w.heap.size, [.int .i64 p0, .int .i64 p1])] wr) (fun i _ _ => m - (RowKit.intOf i).toNat)
  case atStart => exact ⟨0, Nat.zero_le _, rfl, rfl, Lib.hid rfl, C1⟩
  case round =>
    clear C0 C1
    obtain ⟨k, hk, rfl, rfl, hX, hI⟩ := hrel
    by_cases hlt : k < m
    · have ks : IntKind.i64.wrap ((k : Int) + 1) = ((k + 1 : Nat) : Int) := by rw [IntWalk.i64_in _ (by omega)]; rfl
      have hR := HV.out.later hI.low
      obtain ⟨b, o, rfl, -⟩ := hR.spot (by rw [HM.out]; omega)
      have e0 : ps[k]? = some ((pt ps k).1, (pt ps k).2) := at_pt (by rw [HM.out]; omega)
      obtain ⟨z, hz⟩ : ∃ z, onK ps (p0, p1) k = z := ⟨_, rfl⟩
      have HZ := Lib.hid hz
      obtain ⟨rr, hrr⟩ : ∃ z, rayK ps (p0, p1) k = z := ⟨_, rfl⟩
      have hsum := raysum_bd ps (p0, p1) k
      have hrb : -1 ≤ rr ∧ rr ≤ 1 := by rw [← hrr]; exact rayOf_bd _ _ _ _ _ _
      have HS2 := Lib.hid (show sumT (rayK ps (p0, p1)) (k + 1) = sumT (rayK ps (p0, p1)) k + rr by rw [sumT, hrr])
      unfold onK at hz
      unfold rayK at hrr
      simp only at hz hrr
      have HN := Lib.hid (fun W (hW : RowP W (.slice (some ⟨b, o, none⟩) m cap) ps) => rnext_any _ ps k W hW (by rw [HM.out]; omega))
      generalize (pt ps k).1 = x0 at *
      generalize (pt ps k).2 = x1 at *
      generalize (pt ps (nx ps.length k)).1 = x2 at *
      generalize (pt ps (nx ps.length k)).2 = x3 at *
      generalize sumT (rayK ps (p0, p1)) k = SUM at *
      have HZZ := Lib.hid hz
      have HRR := Lib.hid hrr
      have wS : IntKind.i64.wrap (SUM + rr) = SUM + rr := IntWalk.i64_in _ (by omega)
      have HX0 := Lib.hid e0
      clear hz hrr e0 hR
      have b1 : (k : Int) < m := by omega
      have b6 : (0 : Int) ≤ k := by omega
      go_wp2_with fail
      have ms1 := Lib.hid (show ∀ w', Has w [(w.heap.size, [.int .i64 p0, .int .i64 p1])] w' → (w'.cell? ⟨b, o + k * 2, none⟩ = some (.int .i64 x0) ∧ w'.cell? ⟨b, o + k * 2 + 1, none⟩ = some (.int .i64 x1) ∧ w'.cell? ⟨w.heap.size, 0, none⟩ = some (.int .i64 p0) ∧ w'.cell? ⟨w.heap.size, 1, none⟩ = some (.int .i64 p1)) ∧ Has w [(w.heap.size, [.int .i64 p0, .int .i64 p1])] w' from fun w' h => by
        have hRb := HV.out.later h.low
        exact ⟨⟨(hRb.cells HX0.out).1, (hRb.cells HX0.out).2, h.fact (.head _) (i := 0) rfl, h.fact (.head _) (i := 1) rfl⟩, h⟩)
      have X0 := hI.drew
      refine wp_region_held_drew (S := (fun w' => (w'.cell? ⟨b, o + k * 2, none⟩ = some (.int .i64 x0) ∧ w'.cell? ⟨b, o + k * 2 + 1, none⟩ = some (.int .i64 x1) ∧ w'.cell? ⟨w.heap.size, 0, none⟩ = some (.int .i64 p0) ∧ w'.cell? ⟨w.heap.size, 1, none⟩ = some (.int .i64 p1)) ∧ Has w [(w.heap.size, [.int .i64 p0, .int .i64 p1])] w')) (by kernel_rfl) (ms1.out _ X0) (fun hHeld => ?_)
      refine wpAnyT_begin [0, 1, 2, 3, 4, 5] (by kernel_rfl) (by kernel_rfl) ?_
      refine wpAnyT_take (oi := ⟨some 17, Op.move (Operand.tmp 0), 25, _, _, none⟩) (v := .slice (some ⟨b, o, none⟩) m cap) rfl (fun _ _ _ h => h) (by rfl) (by assumption) (fun wS hSw => ?_) ?_
      · (try dsimp only at hSw); go_simp
      simp only [Act.put, List.setIfInBounds_toArray, List.set_cons_zero, List.set_cons_succ]
      refine wpAnyT_take (oi := ⟨some 18, Op.move (Operand.tmp 6), 3, _, _, none⟩) (v := .int .i64 k) rfl (fun _ _ _ h => h) (by rfl) (by assumption) (fun wS hSw => ?_) ?_
      · (try dsimp only at hSw); go_simp
      simp only [Act.put, List.setIfInBounds_toArray, List.set_cons_zero, List.set_cons_succ]
      refine wpAnyT_take (oi := ⟨some 19, Op.indexAddr 25 (Operand.tmp 17) (Operand.tmp 18), 0, _, _, none⟩) (v := .pointer (some ⟨b, o + k * 2, none⟩)) rfl (fun _ _ _ h => h) (by rfl) (by assumption) (fun wS hSw => ?_) ?_
      · (try dsimp only at hSw); go_simp
      simp only [Act.put, List.setIfInBounds_toArray, List.set_cons_zero, List.set_cons_succ]
      refine wpAnyT_take (oi := ⟨some 20, Op.load 24 (Operand.tmp 19), 24, _, _, none⟩) (v := .agg #[.int .i64 x0, .int .i64 x1]) rfl (fun _ _ _ h => h) (by rfl) (by assumption) (fun wS hSw => ?_) ?_
      · (try dsimp only at hSw); go_simp
      simp only [Act.put, List.setIfInBounds_toArray, List.set_cons_zero, List.set_cons_succ]
      refine wpAnyT_take (oi := ⟨some 21, Op.move (Operand.tmp 0), 25, _, _, none⟩) (v := .slice (some ⟨b, o, none⟩) m cap) rfl (fun _ _ _ h => h) (by rfl) (by assumption) (fun wS hSw => ?_) ?_
      · (try dsimp only at hSw); go_simp
      simp only [Act.put, List.setIfInBounds_toArray, List.set_cons_zero, List.set_cons_succ]
      refine wpAnyT_take (oi := ⟨some 22, Op.move (Operand.tmp 6), 3, _, _, none⟩) (v := .int .i64 k) rfl (fun _ _ _ h => h) (by rfl) (by assumption) (fun wS hSw => ?_) ?_
      · (try dsimp only at hSw); go_simp
      simp only [Act.put, List.setIfInBounds_toArray, List.set_cons_zero, List.set_cons_succ]
      refine wpAnyT_end ?_
      refine wpAnyH_listed #[true, true, true, true, true, true, false, false, false, false] (by kernel_rfl) ?_
      refine wpAnyT_begin [7] (by kernel_rfl) (by kernel_rfl) ?_
      refine wpAnyT_take (oi := ⟨some 24, Op.load 24 (Operand.tmp 3), 24, _, _, none⟩) (v := .agg #[.int .i64 p0, .int .i64 p1]) rfl (fun _ _ _ h => h) (by rfl) (by assumption) (fun wS hSw => ?_) ?_
      · (try dsimp only at hSw); go_simp
      simp only [Act.put, List.setIfInBounds_toArray, List.set_cons_zero, List.set_cons_succ]
      refine wpAnyT_end ?_
      refine wpAnyH_listed #[true, true, true, true, true, true, false, true, false, false] (by kernel_rfl) ?_
      refine wpAnyH_ready (rs := [6]) (by kernel_rfl) (by simp) ?_
      refine AllReadyH.cons (o := ⟨some 23, Op.call { callee := Callee.value (Operand.func 33), args := #[Operand.tmp 21, Operand.tmp 22], argTypes := #[25, 3] }, 24, _, _, none⟩) rfl (fun K hK => ?_) AllReadyH.nil
      go_simp
      go_at_call 33
      refine (Has.call X0 (HN.out _ (HV.out.later X0.low))).mono ?_
      rintro e W1 ⟨rfl, X1⟩
      go_wp2_with fail
      clear hHeld
      refine hK.out _ _ (ms1.out _ X1) (fun hHeld => ?_)
      clear hK K
      try simp only [List.setIfInBounds_toArray, List.set_cons_zero, List.set_cons_succ]
      refine wpAnyH_listed #[true, true, true, true, true, true, true, true, false, false] (by kernel_rfl) ?_
      refine wpAnyH_ready (rs := [8]) (by kernel_rfl) (by simp) ?_
      refine AllReadyH.cons (o := ⟨some 25, Op.call { callee := Callee.value (Operand.func 37), args := #[Operand.tmp 20, Operand.tmp 23, Operand.tmp 24], argTypes := #[24, 24, 24] }, 4, _, _, none⟩) rfl (fun K hK => ?_) AllReadyH.nil
      go_simp
      go_at_call 37
      refine (Has.call X1 (ron_is _ _ _ _ _ _ _ HZZ.out _)).mono ?_
      rintro e W2 ⟨rfl, X2⟩
      go_wp2_with fail
      clear hHeld
      refine hK.out _ _ (ms1.out _ X2) (fun hHeld => ?_)
      clear hK K
      try simp only [List.setIfInBounds_toArray, List.set_cons_zero, List.set_cons_succ]
      refine wpAnyH_listed #[true, true, true, true, true, true, true, true, true, false] (by kernel_rfl) ?_
      refine wpAnyT_begin [9] (by kernel_rfl) (by kernel_rfl) ?_
      refine wpAnyT_take (oi := ⟨some 7, Op.assign (Operand.tmp 25), 4, _, _, none⟩) (v := .bool z) rfl (fun _ _ _ h => h) (by rfl) (by assumption) (fun wS hSw => ?_) ?_
      · (try dsimp only at hSw); go_simp
      simp only [Act.put, List.setIfInBounds_toArray, List.set_cons_zero, List.set_cons_succ]
      refine wpAnyT_end ?_
      refine wpAnyH_listed #[true, true, true, true, true, true, true, true, true, true] (by kernel_rfl) ?_
      refine wpAnyH_done (by kernel_rfl) ?_ _
      clear hHeld
      clear X0 X1 hI
      cases z
      · go_wp2_with fail
        have Y0 := X2.drew
        refine wp_region_held_drew (S := (fun w' => (w'.cell? ⟨b, o + k * 2, none⟩ = some (.int .i64 x0) ∧ w'.cell? ⟨b, o + k * 2 + 1, none⟩ = some (.int .i64 x1) ∧ w'.cell? ⟨w.heap.size, 0, none⟩ = some (.int .i64 p0) ∧ w'.cell? ⟨w.heap.size, 1, none⟩ = some (.int .i64 p1)) ∧ Has w [(w.heap.size, [.int .i64 p0, .int .i64 p1])] w')) (by kernel_rfl) (ms1.out _ Y0) (fun hHeld => ?_)
        refine wpAnyT_begin [0, 1, 2, 3, 4, 5] (by kernel_rfl) (by kernel_rfl) ?_
        refine wpAnyT_take (oi := ⟨some 27, Op.move (Operand.tmp 5), 3, _, _, none⟩) (v := .int .i64 SUM) rfl (fun _ _ _ h => h) (by rfl) (by assumption) (fun wS hSw => ?_) ?_
        · (try dsimp only at hSw); go_simp
        simp only [Act.put, List.setIfInBounds_toArray, List.set_cons_zero, List.set_cons_succ]
        refine wpAnyT_take (oi := ⟨some 28, Op.move (Operand.tmp 0), 25, _, _, none⟩) (v := .slice (some ⟨b, o, none⟩) m cap) rfl (fun _ _ _ h => h) (by rfl) (by assumption) (fun wS hSw => ?_) ?_
        · (try dsimp only at hSw); go_simp
        simp only [Act.put, List.setIfInBounds_toArray, List.set_cons_zero, List.set_cons_succ]
        refine wpAnyT_take (oi := ⟨some 29, Op.move (Operand.tmp 6), 3, _, _, none⟩) (v := .int .i64 k) rfl (fun _ _ _ h => h) (by rfl) (by assumption) (fun wS hSw => ?_) ?_
        · (try dsimp only at hSw); go_simp
        simp only [Act.put, List.setIfInBounds_toArray, List.set_cons_zero, List.set_cons_succ]
        refine wpAnyT_take (oi := ⟨some 30, Op.indexAddr 25 (Operand.tmp 28) (Operand.tmp 29), 0, _, _, none⟩) (v := .pointer (some ⟨b, o + k * 2, none⟩)) rfl (fun _ _ _ h => h) (by rfl) (by assumption) (fun wS hSw => ?_) ?_
        · (try dsimp only at hSw); go_simp
        simp only [Act.put, List.setIfInBounds_toArray, List.set_cons_zero, List.set_cons_succ]
        refine wpAnyT_take (oi := ⟨some 31, Op.load 24 (Operand.tmp 30), 24, _, _, none⟩) (v := .agg #[.int .i64 x0, .int .i64 x1]) rfl (fun _ _ _ h => h) (by rfl) (by assumption) (fun wS hSw => ?_) ?_
        · (try dsimp only at hSw); go_simp
        simp only [Act.put, List.setIfInBounds_toArray, List.set_cons_zero, List.set_cons_succ]
        refine wpAnyT_take (oi := ⟨some 32, Op.move (Operand.tmp 0), 25, _, _, none⟩) (v := .slice (some ⟨b, o, none⟩) m cap) rfl (fun _ _ _ h => h) (by rfl) (by assumption) (fun wS hSw => ?_) ?_
        · (try dsimp only at hSw); go_simp
        simp only [Act.put, List.setIfInBounds_toArray, List.set_cons_zero, List.set_cons_succ]
        refine wpAnyT_end ?_
        refine wpAnyH_listed #[true, true, true, true, true, true, false, false, false, false, false, false] (by kernel_rfl) ?_
        refine wpAnyT_begin [6, 8] (by kernel_rfl) (by kernel_rfl) ?_
        refine wpAnyT_take (oi := ⟨some 33, Op.move (Operand.tmp 6), 3, _, _, none⟩) (v := .int .i64 k) rfl (fun _ _ _ h => h) (by rfl) (by assumption) (fun wS hSw => ?_) ?_
        · (try dsimp only at hSw); go_simp
        simp only [Act.put, List.setIfInBounds_toArray, List.set_cons_zero, List.set_cons_succ]
        refine wpAnyT_take (oi := ⟨some 35, Op.load 24 (Operand.tmp 3), 24, _, _, none⟩) (v := .agg #[.int .i64 p0, .int .i64 p1]) rfl (fun _ _ _ h => h) (by rfl) (by assumption) (fun wS hSw => ?_) ?_
        · (try dsimp only at hSw); go_simp
        simp only [Act.put, List.setIfInBounds_toArray, List.set_cons_zero, List.set_cons_succ]
        refine wpAnyT_end ?_
        refine wpAnyH_listed #[true, true, true, true, true, true, true, false, true, false, false, false] (by kernel_rfl) ?_
        refine wpAnyH_ready (rs := [7]) (by kernel_rfl) (by simp) ?_
        refine AllReadyH.cons (o := ⟨some 34, Op.call { callee := Callee.value (Operand.func 33), args := #[Operand.tmp 32, Operand.tmp 33], argTypes := #[25, 3] }, 24, _, _, none⟩) rfl (fun K hK => ?_) AllReadyH.nil
        go_simp
        go_at_call 33
        refine (Has.call Y0 (HN.out _ (HV.out.later Y0.low))).mono ?_
        rintro e W3 ⟨rfl, Y1⟩
        go_wp2_with fail
        clear hHeld
        refine hK.out _ _ (ms1.out _ Y1) (fun hHeld => ?_)
        clear hK K
        try simp only [List.setIfInBounds_toArray, List.set_cons_zero, List.set_cons_succ]
        refine wpAnyH_listed #[true, true, true, true, true, true, true, true, true, false, false, false] (by kernel_rfl) ?_
        refine wpAnyH_ready (rs := [9]) (by kernel_rfl) (by simp) ?_
        refine AllReadyH.cons (o := ⟨some 36, Op.call { callee := Callee.value (Operand.func 21), args := #[Operand.tmp 31, Operand.tmp 34, Operand.tmp 35], argTypes := #[24, 24, 24] }, 3, _, _, none⟩) rfl (fun K hK => ?_) AllReadyH.nil
        go_simp
        go_at_call 21
        refine (Has.call Y1 (rray_is _ _ _ _ _ _ _ HRR.out _)).mono ?_
        rintro e W4 ⟨rfl, Y2⟩
        go_wp2_with fail
        clear hHeld
        refine hK.out _ _ (ms1.out _ Y2) (fun hHeld => ?_)
        clear hK K
        try simp only [List.setIfInBounds_toArray, List.set_cons_zero, List.set_cons_succ]
        refine wpAnyH_listed #[true, true, true, true, true, true, true, true, true, true, false, false] (by kernel_rfl) ?_
        refine wpAnyT_begin [10, 11] (by kernel_rfl) (by kernel_rfl) ?_
        refine wpAnyT_take (oi := ⟨some 37, Op.binOp BinOp.add 3 (Operand.tmp 27) (Operand.tmp 36) 3, 3, _, _, none⟩) (v := .int .i64 (SUM + rr)) rfl (fun _ _ _ h => h) (by rfl) (by assumption) (fun wS hSw => ?_) ?_
        · (try dsimp only at hSw); go_simp
        simp only [Act.put, List.setIfInBounds_toArray, List.set_cons_zero, List.set_cons_succ]
        refine wpAnyT_take (oi := ⟨some 5, Op.assign (Operand.tmp 37), 3, _, _, none⟩) (v := .int .i64 (SUM + rr)) rfl (fun _ _ _ h => h) (by rfl) (by assumption) (fun wS hSw => ?_) ?_
        · (try dsimp only at hSw); go_simp
        simp only [Act.put, List.setIfInBounds_toArray, List.set_cons_zero, List.set_cons_succ]
        refine wpAnyT_end ?_
        refine wpAnyH_listed #[true, true, true, true, true, true, true, true, true, true, true, true] (by kernel_rfl) ?_
        refine wpAnyH_done (by kernel_rfl) ?_ _
        clear hHeld
        go_wp2_with fail
        go_roundw
        case rel => exact ⟨k + 1, by omega, by go_num, by rw [HS2.out], Lib.hid (anyTo_no hX.out HZ.out), Y2⟩
        case measure => simp [RowKit.intOf]; omega
      · have hr : r = 0 := by rw [← HF.out]; unfold insV; rw [if_pos (anyTo_yes HZ.out (by rw [HM.out]; exact hlt)).symm]
        subst hr
        go_wp2_with fail
        go_ret
        exact ⟨ret_i HR.out, X2.low⟩
    · have hkm : k = m := by omega
      have hr : r = if sumT (rayK ps (p0, p1)) k = 0 then -1 else 1 := by rw [← HF.out]; unfold insV; rw [HM.out, ← hkm, if_neg (by rw [hX.out]; simp)]
      generalize sumT (rayK ps (p0, p1)) k = SUM at *
      by_cases hs : SUM = 0
      · rw [if_pos hs] at hr
        subst hr
        have sb : (SUM == 0) = true := by rw [beq_iff_eq]; exact hs
        clear hs
        go_wp2_with fail
        go_ret
        exact ⟨ret_i HR.out, hI.low⟩
      · rw [if_neg hs] at hr
        subst hr
        have sb : (SUM == 0) = false := by rw [beq_eq_false_iff_ne]; exact hs
        clear hs
        go_wp2_with fail
        go_ret
        exact ⟨ret_i HR.out, hI.low⟩

end Go.Proofs.Ytmldgjhecoeldaa
