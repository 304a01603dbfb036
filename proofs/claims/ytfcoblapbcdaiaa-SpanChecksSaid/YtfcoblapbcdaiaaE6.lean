/- The reference's Check, Done and Doing. -/
import Derived.Test.YtfcoblapbcdaiaaE5
namespace Go.Proofs.Ytfcoblapbcdaiaa
open Go.RowKit Go.Lib
attribute [local go_sem] Oper.semAt_some
set_option linter.unusedSimpArgs false in
set_option maxRecDepth 100000 in
set_option maxHeartbeats 8000000 in
theorem rcheck_any (d : Int) (sl : Value) (es : List Ev) (w : World) (hv : Row tE w sl es) :
    Calls Try.prog 12 #[.agg #[.int .i64 d, sl]] w fun e w' => e = .returned (.int .i64 (chkE es)) ∧ Below w.heap.size w w' := by
  have C := has1 (w := w) [.int .i64 d, sl] 25
  change Has w _ (w.alloc (.cells #[.int .i64 d, sl] 25)) at C
  obtain ⟨a, L, c, rfl, hL, hc1, hc2, R⟩ := hv.form
  have HR := Lib.hid R
  clear hv R
  by_cases hbig : 200 < L
  · have hr := Lib.hid (show chkE es = 2 by unfold chkE; rw [if_pos (by omega)])
    have hb : (200 : Int) < L := by omega
    go_enter Try.func12, Try.ntmps12
    go_wp2_with fail
    generalize w.alloc (.cells #[.int .i64 d, .slice a L c] 25) = w1 at *
    have k1 := C.fact (.head _) (i := 1) rfl
    simp only at k1
    go_wp2_with fail
    go_ret
    exact ⟨ret_i hr.out.symm, C.low⟩
  · have hr := Lib.hid (show chkE es = chkF (pvE es 0) (es.drop 0) by unfold chkE; rw [if_neg (by omega)]; rfl)
    have hb : ¬ (200 : Int) < L := by omega
    have hb2 : ¬ (L : Int) > 200 := by omega
    go_enter Try.func12, Try.ntmps12
    go_wp2_with fail
    generalize w.alloc (.cells #[.int .i64 d, .slice a L c] 25) = w1 at *
    have k1 := C.fact (.head _) (i := 1) rfl
    simp only at k1
    go_wp2_with fail
    clear k1
    go_loopw [3] (fun i wr => ∃ k : Nat, k ≤ L ∧ i = .int .i64 k ∧ Has w [(w.heap.size, [.int .i64 d, .slice a L c])] wr ∧ Hid (chkE es = chkF (pvE es k) (es.drop k))) (fun i _ => L - (RowKit.intOf i).toNat)
    case atStart => exact ⟨0, Nat.zero_le _, rfl, C, hr⟩
    case round =>
      clear hr C
      obtain ⟨k, hk, rfl, C, hr⟩ := hrel
      have k1 := C.fact (.head _) (i := 1) rfl
      simp only at k1
      by_cases hlt : k < L
      · obtain ⟨b, o, ki, id, ot, nn, rfl, hx, c0, c1, c2, c3, c4⟩ := (HR.out.later C.low).ev (k := k) (by omega)
        clear hx
        have g5 : (k : Int) < L := by omega
        have hst := chk_step (es := es) (k := k) (by omega)
        obtain ⟨at1, hat⟩ : ∃ x, atE es k = x := ⟨_, rfl⟩
        have Hat := Lib.hid hat
        rw [hat] at hst c1
        clear hat c0 c2 c3 c4
        by_cases h1 : at1 < 1
        · rw [if_pos (.inl h1)] at hst
          have hs := Lib.hid (hr.out.trans hst)
          clear hst hr
          go_wp2_with fail
          go_ret
          exact ⟨ret_i hs.out.symm, C.low⟩
        · by_cases h2 : 1024 < at1
          · rw [if_pos (.inr h2)] at hst
            have hs := Lib.hid (hr.out.trans hst)
            have h2' : at1 > 1024 := h2
            clear hst hr
            go_wp2_with fail
            go_ret
            exact ⟨ret_i hs.out.symm, C.low⟩
          · rw [if_neg (by omega)] at hst
            have ksum : IntKind.i64.wrap ((k : Int) + 1) = ((k + 1 : Nat) : Int) := by rw [IntWalk.i64_in _ (by omega)]; rfl
            rcases Nat.eq_zero_or_pos k with hz | hz
            · have hs := Lib.hid (hr.out.trans (hst.trans (if_neg (by subst hz; unfold pvE badO; simp))))
              have g7 : ¬ (k : Int) > 0 := by omega
              clear hst hr hz
              go_wp2_with fail
              clear c1 k1
              refine wp_region_held_drew (S := fun wz => wz = wr.drew) (by kernel_rfl) rfl (fun hHeld => ?_)
              have C2 := C.drew
              generalize wr.drew = w3 at *
              refine wpAnyT_begin [0] (by kernel_rfl) (by kernel_rfl) ?_
              refine wpAnyT_take (oi := ⟨some 31, Op.move (Operand.tmp 3), 3, _, _, none⟩) (v := .int .i64 (k : Int)) rfl (fun _ _ _ h => h) (by rfl) (by assumption) (fun wS hSw => ?_) ?_
              · (try dsimp only at hSw); subst hSw; go_simp <;> omega
              simp only [Act.put, List.setIfInBounds_toArray, List.set_cons_zero, List.set_cons_succ]
              refine wpAnyT_end ?_
              refine wpAnyH_listed #[true, false, false, false, false, false, false, false, false, false, false, false, false, false, false, false, false, false] (by kernel_rfl) ?_
              refine wpAnyT_begin [1] (by kernel_rfl) (by kernel_rfl) ?_
              refine wpAnyT_take (oi := ⟨some 32, Op.binOp BinOp.gtr 3 (Operand.tmp 31) (Operand.const (Value.int IntKind.i64 0)) 3, 4, _, _, none⟩) (v := .bool false) rfl (fun _ _ _ h => h) (by rfl) (by assumption) (fun wS hSw => ?_) ?_
              · (try dsimp only at hSw); subst hSw; go_simp <;> omega
              simp only [Act.put, List.setIfInBounds_toArray, List.set_cons_zero, List.set_cons_succ]
              refine wpAnyT_end ?_
              refine wpAnyH_listed #[true, true, false, false, false, false, false, false, false, false, false, false, false, false, false, false, false, false] (by kernel_rfl) ?_
              refine wpAnyT_begin [2] (by kernel_rfl) (by kernel_rfl) ?_
              refine wpAnyT_take (oi := ⟨some 33, Op.move (Operand.tmp 32), 4, _, _, none⟩) (v := .bool false) rfl (fun _ _ _ h => h) (by rfl) (by assumption) (fun wS hSw => ?_) ?_
              · (try dsimp only at hSw); subst hSw; go_simp <;> omega
              simp only [Act.put, List.setIfInBounds_toArray, List.set_cons_zero, List.set_cons_succ]
              refine wpAnyT_end ?_
              refine wpAnyH_listed #[true, true, true, false, false, false, false, false, false, false, false, false, false, false, false, false, false, false] (by kernel_rfl) ?_
              refine wpAnyT_begin [3, 5, 9, 11] (by kernel_rfl) (by kernel_rfl) ?_
              refine wpAnyT_skip (oi := ⟨some 34, Op.fieldAddr 25 (Operand.tmp 1) 1, 0, _, _, some (2, true)⟩) rfl (fun _ _ _ h => h) (by rfl) (by assumption) ?_
              simp only [Act.put, List.setIfInBounds_toArray, List.set_cons_zero, List.set_cons_succ]
              refine wpAnyT_skip (oi := ⟨some 36, Op.move (Operand.tmp 3), 3, _, _, some (2, true)⟩) rfl (fun _ _ _ h => h) (by rfl) (by assumption) ?_
              simp only [Act.put, List.setIfInBounds_toArray, List.set_cons_zero, List.set_cons_succ]
              refine wpAnyT_skip (oi := ⟨some 40, Op.fieldAddr 25 (Operand.tmp 1) 1, 0, _, _, some (2, true)⟩) rfl (fun _ _ _ h => h) (by rfl) (by assumption) ?_
              simp only [Act.put, List.setIfInBounds_toArray, List.set_cons_zero, List.set_cons_succ]
              refine wpAnyT_skip (oi := ⟨some 42, Op.move (Operand.tmp 3), 3, _, _, some (2, true)⟩) rfl (fun _ _ _ h => h) (by rfl) (by assumption) ?_
              simp only [Act.put, List.setIfInBounds_toArray, List.set_cons_zero, List.set_cons_succ]
              refine wpAnyT_end ?_
              refine wpAnyH_listed #[true, true, true, true, false, true, false, false, false, true, false, true, false, false, false, false, false, false] (by kernel_rfl) ?_
              refine wpAnyT_begin [4, 10, 12] (by kernel_rfl) (by kernel_rfl) ?_
              refine wpAnyT_skip (oi := ⟨some 35, Op.load 23 (Operand.tmp 34), 23, _, _, some (2, true)⟩) rfl (fun _ _ _ h => h) (by rfl) (by assumption) ?_
              simp only [Act.put, List.setIfInBounds_toArray, List.set_cons_zero, List.set_cons_succ]
              refine wpAnyT_skip (oi := ⟨some 41, Op.load 23 (Operand.tmp 40), 23, _, _, some (2, true)⟩) rfl (fun _ _ _ h => h) (by rfl) (by assumption) ?_
              simp only [Act.put, List.setIfInBounds_toArray, List.set_cons_zero, List.set_cons_succ]
              refine wpAnyT_skip (oi := ⟨some 43, Op.binOp BinOp.sub 3 (Operand.tmp 42) (Operand.const (Value.int IntKind.i64 1)) 3, 3, _, _, some (2, true)⟩) rfl (fun _ _ _ h => h) (by rfl) (by assumption) ?_
              simp only [Act.put, List.setIfInBounds_toArray, List.set_cons_zero, List.set_cons_succ]
              refine wpAnyT_end ?_
              refine wpAnyH_listed #[true, true, true, true, true, true, false, false, false, true, true, true, true, false, false, false, false, false] (by kernel_rfl) ?_
              refine wpAnyT_begin [6, 13] (by kernel_rfl) (by kernel_rfl) ?_
              refine wpAnyT_skip (oi := ⟨some 37, Op.indexAddr 23 (Operand.tmp 35) (Operand.tmp 36), 0, _, _, some (2, true)⟩) rfl (fun _ _ _ h => h) (by rfl) (by assumption) ?_
              simp only [Act.put, List.setIfInBounds_toArray, List.set_cons_zero, List.set_cons_succ]
              refine wpAnyT_skip (oi := ⟨some 44, Op.indexAddr 23 (Operand.tmp 41) (Operand.tmp 43), 0, _, _, some (2, true)⟩) rfl (fun _ _ _ h => h) (by rfl) (by assumption) ?_
              simp only [Act.put, List.setIfInBounds_toArray, List.set_cons_zero, List.set_cons_succ]
              refine wpAnyT_end ?_
              refine wpAnyH_listed #[true, true, true, true, true, true, true, false, false, true, true, true, true, true, false, false, false, false] (by kernel_rfl) ?_
              refine wpAnyT_begin [7, 14] (by kernel_rfl) (by kernel_rfl) ?_
              refine wpAnyT_skip (oi := ⟨some 38, Op.fieldAddr 30 (Operand.tmp 37) 1, 0, _, _, some (2, true)⟩) rfl (fun _ _ _ h => h) (by rfl) (by assumption) ?_
              simp only [Act.put, List.setIfInBounds_toArray, List.set_cons_zero, List.set_cons_succ]
              refine wpAnyT_skip (oi := ⟨some 45, Op.fieldAddr 30 (Operand.tmp 44) 1, 0, _, _, some (2, true)⟩) rfl (fun _ _ _ h => h) (by rfl) (by assumption) ?_
              simp only [Act.put, List.setIfInBounds_toArray, List.set_cons_zero, List.set_cons_succ]
              refine wpAnyT_end ?_
              refine wpAnyH_listed #[true, true, true, true, true, true, true, true, false, true, true, true, true, true, true, false, false, false] (by kernel_rfl) ?_
              refine wpAnyT_begin [8, 15] (by kernel_rfl) (by kernel_rfl) ?_
              refine wpAnyT_skip (oi := ⟨some 39, Op.load 3 (Operand.tmp 38), 3, _, _, some (2, true)⟩) rfl (fun _ _ _ h => h) (by rfl) (by assumption) ?_
              simp only [Act.put, List.setIfInBounds_toArray, List.set_cons_zero, List.set_cons_succ]
              refine wpAnyT_skip (oi := ⟨some 46, Op.load 3 (Operand.tmp 45), 3, _, _, some (2, true)⟩) rfl (fun _ _ _ h => h) (by rfl) (by assumption) ?_
              simp only [Act.put, List.setIfInBounds_toArray, List.set_cons_zero, List.set_cons_succ]
              refine wpAnyT_end ?_
              refine wpAnyH_listed #[true, true, true, true, true, true, true, true, true, true, true, true, true, true, true, true, false, false] (by kernel_rfl) ?_
              refine wpAnyT_begin [16] (by kernel_rfl) (by kernel_rfl) ?_
              refine wpAnyT_skip (oi := ⟨some 47, Op.binOp BinOp.leq 3 (Operand.tmp 39) (Operand.tmp 46) 3, 4, _, _, some (2, true)⟩) rfl (fun _ _ _ h => h) (by rfl) (by assumption) ?_
              simp only [Act.put, List.setIfInBounds_toArray, List.set_cons_zero, List.set_cons_succ]
              refine wpAnyT_end ?_
              refine wpAnyH_listed #[true, true, true, true, true, true, true, true, true, true, true, true, true, true, true, true, true, false] (by kernel_rfl) ?_
              refine wpAnyT_begin [17] (by kernel_rfl) (by kernel_rfl) ?_
              refine wpAnyT_take (oi := ⟨some 48, Op.pick (Operand.tmp 33) (Operand.tmp 47) (Operand.const (Value.bool false)), 4, _, _, none⟩) (v := .bool false) rfl (fun _ _ _ h => h) (by rfl) (by assumption) (fun wS hSw => ?_) ?_
              · (try dsimp only at hSw); subst hSw; go_simp <;> omega
              simp only [Act.put, List.setIfInBounds_toArray, List.set_cons_zero, List.set_cons_succ]
              refine wpAnyT_end ?_
              refine wpAnyH_listed #[true, true, true, true, true, true, true, true, true, true, true, true, true, true, true, true, true, true] (by kernel_rfl) ?_
              refine wpAnyH_done (by kernel_rfl) ?_ _
              clear hHeld
              go_wp2_with fail
              go_roundw
              case rel => exact ⟨k + 1, by omega, by go_num, C2, hs⟩
              case measure => simp [RowKit.intOf]; omega
            · obtain ⟨m, hm⟩ : ∃ m : Nat, k = m + 1 := ⟨k - 1, by omega⟩
              obtain ⟨p, hp⟩ : ∃ p, atE es m = p := ⟨_, rfl⟩
              have hbad : badO (pvE es k) at1 = decide (at1 ≤ p) := by rw [hm, pvE_succ, hp]; rfl
              rw [hbad] at hst
              have g7 : (k : Int) > 0 := by omega
              have q1 : (k : Int) - 1 = (m : Int) := by omega
              have q2 : (m : Int) < L := by omega
              have q3 : IntKind.i64.wrap (m : Int) = (m : Int) := by rw [IntKind.wrap_i64]; omega
              have Hm := Lib.hid hm
              have Hp := Lib.hid hp
              clear hz hm hp hbad
              by_cases h3 : at1 ≤ p
              · have hs := Lib.hid (hr.out.trans (hst.trans (if_pos (decide_eq_true h3))))
                clear hst hr
                go_wp2_with fail
                clear c1 k1
                refine wp_region_held_drew (S := fun wz => wz = wr.drew) (by kernel_rfl) rfl (fun hHeld => ?_)
                have C2 := C.drew
                generalize wr.drew = w3 at *
                have k1 := C2.fact (.head _) (i := 1) rfl
                simp only at k1
                obtain ⟨b', o', ki', id', ot', nn', hbb, hxx, e0, e1, e2, e3, e4⟩ := (HR.out.later C2.low).ev (k := m) (by have := Hm.out; omega)
                cases hbb
                rw [Hp.out] at e1
                clear hxx e0 e2 e3 e4
                obtain ⟨b', o', ki', id', ot', nn', hbb, hxx, e0, e5, e2, e3, e4⟩ := (HR.out.later C2.low).ev (k := k) (by omega)
                cases hbb
                rw [Hat.out] at e5
                clear hxx e0 e2 e3 e4
                refine wpAnyT_begin [0] (by kernel_rfl) (by kernel_rfl) ?_
                refine wpAnyT_take (oi := ⟨some 31, Op.move (Operand.tmp 3), 3, _, _, none⟩) (v := .int .i64 (k : Int)) rfl (fun _ _ _ h => h) (by rfl) (by assumption) (fun wS hSw => ?_) ?_
                · (try dsimp only at hSw); subst hSw; go_simp <;> omega
                simp only [Act.put, List.setIfInBounds_toArray, List.set_cons_zero, List.set_cons_succ]
                refine wpAnyT_end ?_
                refine wpAnyH_listed #[true, false, false, false, false, false, false, false, false, false, false, false, false, false, false, false, false, false] (by kernel_rfl) ?_
                refine wpAnyT_begin [1] (by kernel_rfl) (by kernel_rfl) ?_
                refine wpAnyT_take (oi := ⟨some 32, Op.binOp BinOp.gtr 3 (Operand.tmp 31) (Operand.const (Value.int IntKind.i64 0)) 3, 4, _, _, none⟩) (v := .bool true) rfl (fun _ _ _ h => h) (by rfl) (by assumption) (fun wS hSw => ?_) ?_
                · (try dsimp only at hSw); subst hSw; go_simp <;> omega
                simp only [Act.put, List.setIfInBounds_toArray, List.set_cons_zero, List.set_cons_succ]
                refine wpAnyT_end ?_
                refine wpAnyH_listed #[true, true, false, false, false, false, false, false, false, false, false, false, false, false, false, false, false, false] (by kernel_rfl) ?_
                refine wpAnyT_begin [2] (by kernel_rfl) (by kernel_rfl) ?_
                refine wpAnyT_take (oi := ⟨some 33, Op.move (Operand.tmp 32), 4, _, _, none⟩) (v := .bool true) rfl (fun _ _ _ h => h) (by rfl) (by assumption) (fun wS hSw => ?_) ?_
                · (try dsimp only at hSw); subst hSw; go_simp <;> omega
                simp only [Act.put, List.setIfInBounds_toArray, List.set_cons_zero, List.set_cons_succ]
                refine wpAnyT_end ?_
                refine wpAnyH_listed #[true, true, true, false, false, false, false, false, false, false, false, false, false, false, false, false, false, false] (by kernel_rfl) ?_
                refine wpAnyT_begin [3, 5, 9, 11] (by kernel_rfl) (by kernel_rfl) ?_
                refine wpAnyT_take (oi := ⟨some 34, Op.fieldAddr 25 (Operand.tmp 1) 1, 0, _, _, some (2, true)⟩) (v := .pointer (some ⟨w.heap.size, 1, none⟩)) rfl (fun _ _ _ h => h) (by rfl) (by assumption) (fun wS hSw => ?_) ?_
                · (try dsimp only at hSw); subst hSw; go_simp <;> omega
                simp only [Act.put, List.setIfInBounds_toArray, List.set_cons_zero, List.set_cons_succ]
                refine wpAnyT_take (oi := ⟨some 36, Op.move (Operand.tmp 3), 3, _, _, some (2, true)⟩) (v := .int .i64 (k : Int)) rfl (fun _ _ _ h => h) (by rfl) (by assumption) (fun wS hSw => ?_) ?_
                · (try dsimp only at hSw); subst hSw; go_simp <;> omega
                simp only [Act.put, List.setIfInBounds_toArray, List.set_cons_zero, List.set_cons_succ]
                refine wpAnyT_take (oi := ⟨some 40, Op.fieldAddr 25 (Operand.tmp 1) 1, 0, _, _, some (2, true)⟩) (v := .pointer (some ⟨w.heap.size, 1, none⟩)) rfl (fun _ _ _ h => h) (by rfl) (by assumption) (fun wS hSw => ?_) ?_
                · (try dsimp only at hSw); subst hSw; go_simp <;> omega
                simp only [Act.put, List.setIfInBounds_toArray, List.set_cons_zero, List.set_cons_succ]
                refine wpAnyT_take (oi := ⟨some 42, Op.move (Operand.tmp 3), 3, _, _, some (2, true)⟩) (v := .int .i64 (k : Int)) rfl (fun _ _ _ h => h) (by rfl) (by assumption) (fun wS hSw => ?_) ?_
                · (try dsimp only at hSw); subst hSw; go_simp <;> omega
                simp only [Act.put, List.setIfInBounds_toArray, List.set_cons_zero, List.set_cons_succ]
                refine wpAnyT_end ?_
                refine wpAnyH_listed #[true, true, true, true, false, true, false, false, false, true, false, true, false, false, false, false, false, false] (by kernel_rfl) ?_
                refine wpAnyT_begin [4, 10, 12] (by kernel_rfl) (by kernel_rfl) ?_
                refine wpAnyT_take (oi := ⟨some 35, Op.load 23 (Operand.tmp 34), 23, _, _, some (2, true)⟩) (v := .slice (some ⟨b, o, none⟩) L c) rfl (fun _ _ _ h => h) (by rfl) (by assumption) (fun wS hSw => ?_) ?_
                · (try dsimp only at hSw); subst hSw; go_simp <;> omega
                simp only [Act.put, List.setIfInBounds_toArray, List.set_cons_zero, List.set_cons_succ]
                refine wpAnyT_take (oi := ⟨some 41, Op.load 23 (Operand.tmp 40), 23, _, _, some (2, true)⟩) (v := .slice (some ⟨b, o, none⟩) L c) rfl (fun _ _ _ h => h) (by rfl) (by assumption) (fun wS hSw => ?_) ?_
                · (try dsimp only at hSw); subst hSw; go_simp <;> omega
                simp only [Act.put, List.setIfInBounds_toArray, List.set_cons_zero, List.set_cons_succ]
                refine wpAnyT_take (oi := ⟨some 43, Op.binOp BinOp.sub 3 (Operand.tmp 42) (Operand.const (Value.int IntKind.i64 1)) 3, 3, _, _, some (2, true)⟩) (v := .int .i64 (m : Int)) rfl (fun _ _ _ h => h) (by rfl) (by assumption) (fun wS hSw => ?_) ?_
                · (try dsimp only at hSw); subst hSw; go_simp <;> omega
                simp only [Act.put, List.setIfInBounds_toArray, List.set_cons_zero, List.set_cons_succ]
                refine wpAnyT_end ?_
                refine wpAnyH_listed #[true, true, true, true, true, true, false, false, false, true, true, true, true, false, false, false, false, false] (by kernel_rfl) ?_
                refine wpAnyT_begin [6, 13] (by kernel_rfl) (by kernel_rfl) ?_
                refine wpAnyT_take (oi := ⟨some 37, Op.indexAddr 23 (Operand.tmp 35) (Operand.tmp 36), 0, _, _, some (2, true)⟩) (v := .pointer (some ⟨b, o + k * 5, none⟩)) rfl (fun _ _ _ h => h) (by rfl) (by assumption) (fun wS hSw => ?_) ?_
                · (try dsimp only at hSw); subst hSw; go_simp <;> omega
                simp only [Act.put, List.setIfInBounds_toArray, List.set_cons_zero, List.set_cons_succ]
                refine wpAnyT_take (oi := ⟨some 44, Op.indexAddr 23 (Operand.tmp 41) (Operand.tmp 43), 0, _, _, some (2, true)⟩) (v := .pointer (some ⟨b, o + m * 5, none⟩)) rfl (fun _ _ _ h => h) (by rfl) (by assumption) (fun wS hSw => ?_) ?_
                · (try dsimp only at hSw); subst hSw; go_simp <;> omega
                simp only [Act.put, List.setIfInBounds_toArray, List.set_cons_zero, List.set_cons_succ]
                refine wpAnyT_end ?_
                refine wpAnyH_listed #[true, true, true, true, true, true, true, false, false, true, true, true, true, true, false, false, false, false] (by kernel_rfl) ?_
                refine wpAnyT_begin [7, 14] (by kernel_rfl) (by kernel_rfl) ?_
                refine wpAnyT_take (oi := ⟨some 38, Op.fieldAddr 30 (Operand.tmp 37) 1, 0, _, _, some (2, true)⟩) (v := .pointer (some ⟨b, o + k * 5 + 1, none⟩)) rfl (fun _ _ _ h => h) (by rfl) (by assumption) (fun wS hSw => ?_) ?_
                · (try dsimp only at hSw); subst hSw; go_simp <;> omega
                simp only [Act.put, List.setIfInBounds_toArray, List.set_cons_zero, List.set_cons_succ]
                refine wpAnyT_take (oi := ⟨some 45, Op.fieldAddr 30 (Operand.tmp 44) 1, 0, _, _, some (2, true)⟩) (v := .pointer (some ⟨b, o + m * 5 + 1, none⟩)) rfl (fun _ _ _ h => h) (by rfl) (by assumption) (fun wS hSw => ?_) ?_
                · (try dsimp only at hSw); subst hSw; go_simp <;> omega
                simp only [Act.put, List.setIfInBounds_toArray, List.set_cons_zero, List.set_cons_succ]
                refine wpAnyT_end ?_
                refine wpAnyH_listed #[true, true, true, true, true, true, true, true, false, true, true, true, true, true, true, false, false, false] (by kernel_rfl) ?_
                refine wpAnyT_begin [8, 15] (by kernel_rfl) (by kernel_rfl) ?_
                refine wpAnyT_take (oi := ⟨some 39, Op.load 3 (Operand.tmp 38), 3, _, _, some (2, true)⟩) (v := .int .i64 at1) rfl (fun _ _ _ h => h) (by rfl) (by assumption) (fun wS hSw => ?_) ?_
                · (try dsimp only at hSw); subst hSw; go_simp <;> omega
                simp only [Act.put, List.setIfInBounds_toArray, List.set_cons_zero, List.set_cons_succ]
                refine wpAnyT_take (oi := ⟨some 46, Op.load 3 (Operand.tmp 45), 3, _, _, some (2, true)⟩) (v := .int .i64 p) rfl (fun _ _ _ h => h) (by rfl) (by assumption) (fun wS hSw => ?_) ?_
                · (try dsimp only at hSw); subst hSw; go_simp <;> omega
                simp only [Act.put, List.setIfInBounds_toArray, List.set_cons_zero, List.set_cons_succ]
                refine wpAnyT_end ?_
                refine wpAnyH_listed #[true, true, true, true, true, true, true, true, true, true, true, true, true, true, true, true, false, false] (by kernel_rfl) ?_
                refine wpAnyT_begin [16] (by kernel_rfl) (by kernel_rfl) ?_
                refine wpAnyT_take (oi := ⟨some 47, Op.binOp BinOp.leq 3 (Operand.tmp 39) (Operand.tmp 46) 3, 4, _, _, some (2, true)⟩) (v := .bool true) rfl (fun _ _ _ h => h) (by rfl) (by assumption) (fun wS hSw => ?_) ?_
                · (try dsimp only at hSw); subst hSw; go_simp <;> omega
                simp only [Act.put, List.setIfInBounds_toArray, List.set_cons_zero, List.set_cons_succ]
                refine wpAnyT_end ?_
                refine wpAnyH_listed #[true, true, true, true, true, true, true, true, true, true, true, true, true, true, true, true, true, false] (by kernel_rfl) ?_
                refine wpAnyT_begin [17] (by kernel_rfl) (by kernel_rfl) ?_
                refine wpAnyT_take (oi := ⟨some 48, Op.pick (Operand.tmp 33) (Operand.tmp 47) (Operand.const (Value.bool false)), 4, _, _, none⟩) (v := .bool true) rfl (fun _ _ _ h => h) (by rfl) (by assumption) (fun wS hSw => ?_) ?_
                · (try dsimp only at hSw); subst hSw; go_simp <;> omega
                simp only [Act.put, List.setIfInBounds_toArray, List.set_cons_zero, List.set_cons_succ]
                refine wpAnyT_end ?_
                refine wpAnyH_listed #[true, true, true, true, true, true, true, true, true, true, true, true, true, true, true, true, true, true] (by kernel_rfl) ?_
                refine wpAnyH_done (by kernel_rfl) ?_ _
                clear hHeld
                go_wp2_with fail
                go_ret
                exact ⟨ret_i hs.out.symm, C2.low⟩
              · have hs := Lib.hid (hr.out.trans (hst.trans (if_neg (by simp; omega))))
                clear hst hr
                go_wp2_with fail
                clear c1 k1
                refine wp_region_held_drew (S := fun wz => wz = wr.drew) (by kernel_rfl) rfl (fun hHeld => ?_)
                have C2 := C.drew
                generalize wr.drew = w3 at *
                have k1 := C2.fact (.head _) (i := 1) rfl
                simp only at k1
                obtain ⟨b', o', ki', id', ot', nn', hbb, hxx, e0, e1, e2, e3, e4⟩ := (HR.out.later C2.low).ev (k := m) (by have := Hm.out; omega)
                cases hbb
                rw [Hp.out] at e1
                clear hxx e0 e2 e3 e4
                obtain ⟨b', o', ki', id', ot', nn', hbb, hxx, e0, e5, e2, e3, e4⟩ := (HR.out.later C2.low).ev (k := k) (by omega)
                cases hbb
                rw [Hat.out] at e5
                clear hxx e0 e2 e3 e4
                refine wpAnyT_begin [0] (by kernel_rfl) (by kernel_rfl) ?_
                refine wpAnyT_take (oi := ⟨some 31, Op.move (Operand.tmp 3), 3, _, _, none⟩) (v := .int .i64 (k : Int)) rfl (fun _ _ _ h => h) (by rfl) (by assumption) (fun wS hSw => ?_) ?_
                · (try dsimp only at hSw); subst hSw; go_simp <;> omega
                simp only [Act.put, List.setIfInBounds_toArray, List.set_cons_zero, List.set_cons_succ]
                refine wpAnyT_end ?_
                refine wpAnyH_listed #[true, false, false, false, false, false, false, false, false, false, false, false, false, false, false, false, false, false] (by kernel_rfl) ?_
                refine wpAnyT_begin [1] (by kernel_rfl) (by kernel_rfl) ?_
                refine wpAnyT_take (oi := ⟨some 32, Op.binOp BinOp.gtr 3 (Operand.tmp 31) (Operand.const (Value.int IntKind.i64 0)) 3, 4, _, _, none⟩) (v := .bool true) rfl (fun _ _ _ h => h) (by rfl) (by assumption) (fun wS hSw => ?_) ?_
                · (try dsimp only at hSw); subst hSw; go_simp <;> omega
                simp only [Act.put, List.setIfInBounds_toArray, List.set_cons_zero, List.set_cons_succ]
                refine wpAnyT_end ?_
                refine wpAnyH_listed #[true, true, false, false, false, false, false, false, false, false, false, false, false, false, false, false, false, false] (by kernel_rfl) ?_
                refine wpAnyT_begin [2] (by kernel_rfl) (by kernel_rfl) ?_
                refine wpAnyT_take (oi := ⟨some 33, Op.move (Operand.tmp 32), 4, _, _, none⟩) (v := .bool true) rfl (fun _ _ _ h => h) (by rfl) (by assumption) (fun wS hSw => ?_) ?_
                · (try dsimp only at hSw); subst hSw; go_simp <;> omega
                simp only [Act.put, List.setIfInBounds_toArray, List.set_cons_zero, List.set_cons_succ]
                refine wpAnyT_end ?_
                refine wpAnyH_listed #[true, true, true, false, false, false, false, false, false, false, false, false, false, false, false, false, false, false] (by kernel_rfl) ?_
                refine wpAnyT_begin [3, 5, 9, 11] (by kernel_rfl) (by kernel_rfl) ?_
                refine wpAnyT_take (oi := ⟨some 34, Op.fieldAddr 25 (Operand.tmp 1) 1, 0, _, _, some (2, true)⟩) (v := .pointer (some ⟨w.heap.size, 1, none⟩)) rfl (fun _ _ _ h => h) (by rfl) (by assumption) (fun wS hSw => ?_) ?_
                · (try dsimp only at hSw); subst hSw; go_simp <;> omega
                simp only [Act.put, List.setIfInBounds_toArray, List.set_cons_zero, List.set_cons_succ]
                refine wpAnyT_take (oi := ⟨some 36, Op.move (Operand.tmp 3), 3, _, _, some (2, true)⟩) (v := .int .i64 (k : Int)) rfl (fun _ _ _ h => h) (by rfl) (by assumption) (fun wS hSw => ?_) ?_
                · (try dsimp only at hSw); subst hSw; go_simp <;> omega
                simp only [Act.put, List.setIfInBounds_toArray, List.set_cons_zero, List.set_cons_succ]
                refine wpAnyT_take (oi := ⟨some 40, Op.fieldAddr 25 (Operand.tmp 1) 1, 0, _, _, some (2, true)⟩) (v := .pointer (some ⟨w.heap.size, 1, none⟩)) rfl (fun _ _ _ h => h) (by rfl) (by assumption) (fun wS hSw => ?_) ?_
                · (try dsimp only at hSw); subst hSw; go_simp <;> omega
                simp only [Act.put, List.setIfInBounds_toArray, List.set_cons_zero, List.set_cons_succ]
                refine wpAnyT_take (oi := ⟨some 42, Op.move (Operand.tmp 3), 3, _, _, some (2, true)⟩) (v := .int .i64 (k : Int)) rfl (fun _ _ _ h => h) (by rfl) (by assumption) (fun wS hSw => ?_) ?_
                · (try dsimp only at hSw); subst hSw; go_simp <;> omega
                simp only [Act.put, List.setIfInBounds_toArray, List.set_cons_zero, List.set_cons_succ]
                refine wpAnyT_end ?_
                refine wpAnyH_listed #[true, true, true, true, false, true, false, false, false, true, false, true, false, false, false, false, false, false] (by kernel_rfl) ?_
                refine wpAnyT_begin [4, 10, 12] (by kernel_rfl) (by kernel_rfl) ?_
                refine wpAnyT_take (oi := ⟨some 35, Op.load 23 (Operand.tmp 34), 23, _, _, some (2, true)⟩) (v := .slice (some ⟨b, o, none⟩) L c) rfl (fun _ _ _ h => h) (by rfl) (by assumption) (fun wS hSw => ?_) ?_
                · (try dsimp only at hSw); subst hSw; go_simp <;> omega
                simp only [Act.put, List.setIfInBounds_toArray, List.set_cons_zero, List.set_cons_succ]
                refine wpAnyT_take (oi := ⟨some 41, Op.load 23 (Operand.tmp 40), 23, _, _, some (2, true)⟩) (v := .slice (some ⟨b, o, none⟩) L c) rfl (fun _ _ _ h => h) (by rfl) (by assumption) (fun wS hSw => ?_) ?_
                · (try dsimp only at hSw); subst hSw; go_simp <;> omega
                simp only [Act.put, List.setIfInBounds_toArray, List.set_cons_zero, List.set_cons_succ]
                refine wpAnyT_take (oi := ⟨some 43, Op.binOp BinOp.sub 3 (Operand.tmp 42) (Operand.const (Value.int IntKind.i64 1)) 3, 3, _, _, some (2, true)⟩) (v := .int .i64 (m : Int)) rfl (fun _ _ _ h => h) (by rfl) (by assumption) (fun wS hSw => ?_) ?_
                · (try dsimp only at hSw); subst hSw; go_simp <;> omega
                simp only [Act.put, List.setIfInBounds_toArray, List.set_cons_zero, List.set_cons_succ]
                refine wpAnyT_end ?_
                refine wpAnyH_listed #[true, true, true, true, true, true, false, false, false, true, true, true, true, false, false, false, false, false] (by kernel_rfl) ?_
                refine wpAnyT_begin [6, 13] (by kernel_rfl) (by kernel_rfl) ?_
                refine wpAnyT_take (oi := ⟨some 37, Op.indexAddr 23 (Operand.tmp 35) (Operand.tmp 36), 0, _, _, some (2, true)⟩) (v := .pointer (some ⟨b, o + k * 5, none⟩)) rfl (fun _ _ _ h => h) (by rfl) (by assumption) (fun wS hSw => ?_) ?_
                · (try dsimp only at hSw); subst hSw; go_simp <;> omega
                simp only [Act.put, List.setIfInBounds_toArray, List.set_cons_zero, List.set_cons_succ]
                refine wpAnyT_take (oi := ⟨some 44, Op.indexAddr 23 (Operand.tmp 41) (Operand.tmp 43), 0, _, _, some (2, true)⟩) (v := .pointer (some ⟨b, o + m * 5, none⟩)) rfl (fun _ _ _ h => h) (by rfl) (by assumption) (fun wS hSw => ?_) ?_
                · (try dsimp only at hSw); subst hSw; go_simp <;> omega
                simp only [Act.put, List.setIfInBounds_toArray, List.set_cons_zero, List.set_cons_succ]
                refine wpAnyT_end ?_
                refine wpAnyH_listed #[true, true, true, true, true, true, true, false, false, true, true, true, true, true, false, false, false, false] (by kernel_rfl) ?_
                refine wpAnyT_begin [7, 14] (by kernel_rfl) (by kernel_rfl) ?_
                refine wpAnyT_take (oi := ⟨some 38, Op.fieldAddr 30 (Operand.tmp 37) 1, 0, _, _, some (2, true)⟩) (v := .pointer (some ⟨b, o + k * 5 + 1, none⟩)) rfl (fun _ _ _ h => h) (by rfl) (by assumption) (fun wS hSw => ?_) ?_
                · (try dsimp only at hSw); subst hSw; go_simp <;> omega
                simp only [Act.put, List.setIfInBounds_toArray, List.set_cons_zero, List.set_cons_succ]
                refine wpAnyT_take (oi := ⟨some 45, Op.fieldAddr 30 (Operand.tmp 44) 1, 0, _, _, some (2, true)⟩) (v := .pointer (some ⟨b, o + m * 5 + 1, none⟩)) rfl (fun _ _ _ h => h) (by rfl) (by assumption) (fun wS hSw => ?_) ?_
                · (try dsimp only at hSw); subst hSw; go_simp <;> omega
                simp only [Act.put, List.setIfInBounds_toArray, List.set_cons_zero, List.set_cons_succ]
                refine wpAnyT_end ?_
                refine wpAnyH_listed #[true, true, true, true, true, true, true, true, false, true, true, true, true, true, true, false, false, false] (by kernel_rfl) ?_
                refine wpAnyT_begin [8, 15] (by kernel_rfl) (by kernel_rfl) ?_
                refine wpAnyT_take (oi := ⟨some 39, Op.load 3 (Operand.tmp 38), 3, _, _, some (2, true)⟩) (v := .int .i64 at1) rfl (fun _ _ _ h => h) (by rfl) (by assumption) (fun wS hSw => ?_) ?_
                · (try dsimp only at hSw); subst hSw; go_simp <;> omega
                simp only [Act.put, List.setIfInBounds_toArray, List.set_cons_zero, List.set_cons_succ]
                refine wpAnyT_take (oi := ⟨some 46, Op.load 3 (Operand.tmp 45), 3, _, _, some (2, true)⟩) (v := .int .i64 p) rfl (fun _ _ _ h => h) (by rfl) (by assumption) (fun wS hSw => ?_) ?_
                · (try dsimp only at hSw); subst hSw; go_simp <;> omega
                simp only [Act.put, List.setIfInBounds_toArray, List.set_cons_zero, List.set_cons_succ]
                refine wpAnyT_end ?_
                refine wpAnyH_listed #[true, true, true, true, true, true, true, true, true, true, true, true, true, true, true, true, false, false] (by kernel_rfl) ?_
                refine wpAnyT_begin [16] (by kernel_rfl) (by kernel_rfl) ?_
                refine wpAnyT_take (oi := ⟨some 47, Op.binOp BinOp.leq 3 (Operand.tmp 39) (Operand.tmp 46) 3, 4, _, _, some (2, true)⟩) (v := .bool false) rfl (fun _ _ _ h => h) (by rfl) (by assumption) (fun wS hSw => ?_) ?_
                · (try dsimp only at hSw); subst hSw; go_simp <;> omega
                simp only [Act.put, List.setIfInBounds_toArray, List.set_cons_zero, List.set_cons_succ]
                refine wpAnyT_end ?_
                refine wpAnyH_listed #[true, true, true, true, true, true, true, true, true, true, true, true, true, true, true, true, true, false] (by kernel_rfl) ?_
                refine wpAnyT_begin [17] (by kernel_rfl) (by kernel_rfl) ?_
                refine wpAnyT_take (oi := ⟨some 48, Op.pick (Operand.tmp 33) (Operand.tmp 47) (Operand.const (Value.bool false)), 4, _, _, none⟩) (v := .bool false) rfl (fun _ _ _ h => h) (by rfl) (by assumption) (fun wS hSw => ?_) ?_
                · (try dsimp only at hSw); subst hSw; go_simp <;> omega
                simp only [Act.put, List.setIfInBounds_toArray, List.set_cons_zero, List.set_cons_succ]
                refine wpAnyT_end ?_
                refine wpAnyH_listed #[true, true, true, true, true, true, true, true, true, true, true, true, true, true, true, true, true, true] (by kernel_rfl) ?_
                refine wpAnyH_done (by kernel_rfl) ?_ _
                clear hHeld
                go_wp2_with fail
                go_roundw
                case rel => exact ⟨k + 1, by omega, by go_num, C2, hs⟩
                case measure => simp [RowKit.intOf]; omega
      · obtain rfl : k = L := by omega
        have hs := Lib.hid (show chkE es = 0 by rw [hr.out, ← hL]; exact chk_end es)
        clear hr
        go_wp2_with fail
        go_ret
        exact ⟨ret_i hs.out.symm, C.low⟩
set_option linter.unusedSimpArgs false in
set_option maxRecDepth 100000 in
set_option maxHeartbeats 8000000 in
theorem rdone_any (d : Int) (sl : Value) (es : List Ev) (s : Int) (w : World) (hv : Row tE w sl es) :
    Calls Try.prog 16 #[.agg #[.int .i64 d, sl], .int .i64 s] w fun e w' => e = .returned (.int .i64 (doneN s es : Nat)) ∧ Below w.heap.size w w' := by
  have C := has1 (w := w) [.int .i64 d, sl] 25
  change Has w _ (w.alloc (.cells #[.int .i64 d, sl] 25)) at C
  obtain ⟨a, L, c, rfl, hL, hc1, hc2, R⟩ := hv.form
  have HR := Lib.hid R
  clear hv R
  go_enter Try.func16, Try.ntmps16
  go_wp2_with fail
  generalize w.alloc (.cells #[.int .i64 d, .slice a L c] 25) = w1 at *
  go_loopw [5] (fun i wr => ∃ k : Nat, k ≤ L ∧ i = .int .i64 k ∧ Has w [(w.heap.size, [.int .i64 d, .slice a L c])] wr ∧ Hid (Dn s es k)) (fun i _ => L - (RowKit.intOf i).toNat)
  case atStart => exact ⟨0, Nat.zero_le _, rfl, C, Lib.hid (Dn.zero s es)⟩
  case round =>
    clear C
    obtain ⟨k, hk, rfl, C, hD⟩ := hrel
    by_cases hlt : k < L
    · have g5 : (k : Int) < L := by omega
      have ksum : IntKind.i64.wrap ((k : Int) + 1) = ((k + 1 : Nat) : Int) := by rw [IntWalk.i64_in _ (by omega)]; rfl
      obtain ⟨b, o, ki, id, ot, nn, rfl, hx, -⟩ := (HR.out.later C.low).ev (k := k) (by omega)
      obtain ⟨at1, hat⟩ : ∃ x, atE es k = x := ⟨_, rfl⟩
      have HX := Lib.hid hx
      rw [hat] at HX
      have Hat := Lib.hid hat
      clear hx hat
      have HN := Lib.hid (fun q => Dn.next hD.out HX.out q)
      have HS := Lib.hid (fun q => doneN_stop hD.out HX.out q)
      clear hD HX
      have hdn : dnA s at1 = (okA at1 && decide (at1 * at1 ≤ s)) := rfl
      cases hok : okA at1 with
      | false =>
        rw [hok] at hdn
        have hs := Lib.hid (HS.out hdn)
        have HO := Lib.hid hok
        clear hdn HN HS hok
        go_wp2_with fail
        refine wp_region_held_drew (S := fun wz => wz = wr.drew) (by kernel_rfl) rfl (fun hHeld => ?_)
        have C2 := C.drew
        generalize wr.drew = w3 at *
        have k1 := C2.fact (.head _) (i := 1) rfl
        simp only at k1
        obtain ⟨b', o', ki', id', ot', nn', hbb, hxx, e0, e5, e2, e3, e4⟩ := (HR.out.later C2.low).ev (k := k) (by omega)
        cases hbb
        rw [Hat.out] at e5
        clear hxx e0 e2 e3 e4
        refine wpAnyT_begin [0, 1] (by kernel_rfl) (by kernel_rfl) ?_
        refine wpAnyT_take (oi := ⟨some 6, Op.move (Operand.tmp 5), 3, _, _, none⟩) (v := .int .i64 (k : Int)) rfl (fun _ _ _ h => h) (by rfl) (by assumption) (fun wS hSw => ?_) ?_
        · (try dsimp only at hSw); subst hSw; go_simp <;> omega
        simp only [Act.put, List.setIfInBounds_toArray, List.set_cons_zero, List.set_cons_succ]
        refine wpAnyT_take (oi := ⟨some 7, Op.fieldAddr 25 (Operand.tmp 2) 1, 0, _, _, none⟩) (v := .pointer (some ⟨w.heap.size, 1, none⟩)) rfl (fun _ _ _ h => h) (by rfl) (by assumption) (fun wS hSw => ?_) ?_
        · (try dsimp only at hSw); subst hSw; go_simp <;> omega
        simp only [Act.put, List.setIfInBounds_toArray, List.set_cons_zero, List.set_cons_succ]
        refine wpAnyT_end ?_
        refine wpAnyH_listed #[true, true, false, false, false, false, false, false, false, false, false, false, false, false, false, false, false, false, false, false, false, false, false, false, false, false, false, false, false, false, false] (by kernel_rfl) ?_
        refine wpAnyT_begin [2] (by kernel_rfl) (by kernel_rfl) ?_
        refine wpAnyT_take (oi := ⟨some 8, Op.load 23 (Operand.tmp 7), 23, _, _, none⟩) (v := .slice (some ⟨b, o, none⟩) L c) rfl (fun _ _ _ h => h) (by rfl) (by assumption) (fun wS hSw => ?_) ?_
        · (try dsimp only at hSw); subst hSw; go_simp <;> omega
        simp only [Act.put, List.setIfInBounds_toArray, List.set_cons_zero, List.set_cons_succ]
        refine wpAnyT_end ?_
        refine wpAnyH_listed #[true, true, true, false, false, false, false, false, false, false, false, false, false, false, false, false, false, false, false, false, false, false, false, false, false, false, false, false, false, false, false] (by kernel_rfl) ?_
        refine wpAnyT_begin [3] (by kernel_rfl) (by kernel_rfl) ?_
        refine wpAnyT_take (oi := ⟨some 9, Op.call { callee := Callee.builtin Builtin.len, args := #[Operand.tmp 8], argTypes := #[23] }, 3, _, _, none⟩) (v := .int .i64 (L : Int)) rfl (fun _ _ _ h => h) (by rfl) (by assumption) (fun wS hSw => ?_) ?_
        · (try dsimp only at hSw); subst hSw; go_simp <;> omega
        simp only [Act.put, List.setIfInBounds_toArray, List.set_cons_zero, List.set_cons_succ]
        refine wpAnyT_end ?_
        refine wpAnyH_listed #[true, true, true, true, false, false, false, false, false, false, false, false, false, false, false, false, false, false, false, false, false, false, false, false, false, false, false, false, false, false, false] (by kernel_rfl) ?_
        refine wpAnyT_begin [4] (by kernel_rfl) (by kernel_rfl) ?_
        refine wpAnyT_take (oi := ⟨some 10, Op.binOp BinOp.lss 3 (Operand.tmp 6) (Operand.tmp 9) 3, 4, _, _, none⟩) (v := .bool true) rfl (fun _ _ _ h => h) (by rfl) (by assumption) (fun wS hSw => ?_) ?_
        · (try dsimp only at hSw); subst hSw; go_simp <;> omega
        simp only [Act.put, List.setIfInBounds_toArray, List.set_cons_zero, List.set_cons_succ]
        refine wpAnyT_end ?_
        refine wpAnyH_listed #[true, true, true, true, true, false, false, false, false, false, false, false, false, false, false, false, false, false, false, false, false, false, false, false, false, false, false, false, false, false, false] (by kernel_rfl) ?_
        refine wpAnyT_begin [5] (by kernel_rfl) (by kernel_rfl) ?_
        refine wpAnyT_take (oi := ⟨some 11, Op.move (Operand.tmp 10), 4, _, _, none⟩) (v := .bool true) rfl (fun _ _ _ h => h) (by rfl) (by assumption) (fun wS hSw => ?_) ?_
        · (try dsimp only at hSw); subst hSw; go_simp <;> omega
        simp only [Act.put, List.setIfInBounds_toArray, List.set_cons_zero, List.set_cons_succ]
        refine wpAnyT_end ?_
        refine wpAnyH_listed #[true, true, true, true, true, true, false, false, false, false, false, false, false, false, false, false, false, false, false, false, false, false, false, false, false, false, false, false, false, false, false] (by kernel_rfl) ?_
        refine wpAnyT_begin [6, 8] (by kernel_rfl) (by kernel_rfl) ?_
        refine wpAnyT_take (oi := ⟨some 12, Op.fieldAddr 25 (Operand.tmp 2) 1, 0, _, _, some (5, true)⟩) (v := .pointer (some ⟨w.heap.size, 1, none⟩)) rfl (fun _ _ _ h => h) (by rfl) (by assumption) (fun wS hSw => ?_) ?_
        · (try dsimp only at hSw); subst hSw; go_simp <;> omega
        simp only [Act.put, List.setIfInBounds_toArray, List.set_cons_zero, List.set_cons_succ]
        refine wpAnyT_take (oi := ⟨some 14, Op.move (Operand.tmp 5), 3, _, _, some (5, true)⟩) (v := .int .i64 (k : Int)) rfl (fun _ _ _ h => h) (by rfl) (by assumption) (fun wS hSw => ?_) ?_
        · (try dsimp only at hSw); subst hSw; go_simp <;> omega
        simp only [Act.put, List.setIfInBounds_toArray, List.set_cons_zero, List.set_cons_succ]
        refine wpAnyT_end ?_
        refine wpAnyH_listed #[true, true, true, true, true, true, true, false, true, false, false, false, false, false, false, false, false, false, false, false, false, false, false, false, false, false, false, false, false, false, false] (by kernel_rfl) ?_
        refine wpAnyT_begin [7] (by kernel_rfl) (by kernel_rfl) ?_
        refine wpAnyT_take (oi := ⟨some 13, Op.load 23 (Operand.tmp 12), 23, _, _, some (5, true)⟩) (v := .slice (some ⟨b, o, none⟩) L c) rfl (fun _ _ _ h => h) (by rfl) (by assumption) (fun wS hSw => ?_) ?_
        · (try dsimp only at hSw); subst hSw; go_simp <;> omega
        simp only [Act.put, List.setIfInBounds_toArray, List.set_cons_zero, List.set_cons_succ]
        refine wpAnyT_end ?_
        refine wpAnyH_listed #[true, true, true, true, true, true, true, true, true, false, false, false, false, false, false, false, false, false, false, false, false, false, false, false, false, false, false, false, false, false, false] (by kernel_rfl) ?_
        refine wpAnyT_begin [9] (by kernel_rfl) (by kernel_rfl) ?_
        refine wpAnyT_take (oi := ⟨some 15, Op.indexAddr 23 (Operand.tmp 13) (Operand.tmp 14), 0, _, _, some (5, true)⟩) (v := .pointer (some ⟨b, o + k * 5, none⟩)) rfl (fun _ _ _ h => h) (by rfl) (by assumption) (fun wS hSw => ?_) ?_
        · (try dsimp only at hSw); subst hSw; go_simp <;> omega
        simp only [Act.put, List.setIfInBounds_toArray, List.set_cons_zero, List.set_cons_succ]
        refine wpAnyT_end ?_
        refine wpAnyH_listed #[true, true, true, true, true, true, true, true, true, true, false, false, false, false, false, false, false, false, false, false, false, false, false, false, false, false, false, false, false, false, false] (by kernel_rfl) ?_
        refine wpAnyT_begin [10] (by kernel_rfl) (by kernel_rfl) ?_
        refine wpAnyT_take (oi := ⟨some 16, Op.fieldAddr 30 (Operand.tmp 15) 1, 0, _, _, some (5, true)⟩) (v := .pointer (some ⟨b, o + k * 5 + 1, none⟩)) rfl (fun _ _ _ h => h) (by rfl) (by assumption) (fun wS hSw => ?_) ?_
        · (try dsimp only at hSw); subst hSw; go_simp <;> omega
        simp only [Act.put, List.setIfInBounds_toArray, List.set_cons_zero, List.set_cons_succ]
        refine wpAnyT_end ?_
        refine wpAnyH_listed #[true, true, true, true, true, true, true, true, true, true, true, false, false, false, false, false, false, false, false, false, false, false, false, false, false, false, false, false, false, false, false] (by kernel_rfl) ?_
        refine wpAnyT_begin [11] (by kernel_rfl) (by kernel_rfl) ?_
        refine wpAnyT_take (oi := ⟨some 17, Op.load 3 (Operand.tmp 16), 3, _, _, some (5, true)⟩) (v := .int .i64 at1) rfl (fun _ _ _ h => h) (by rfl) (by assumption) (fun wS hSw => ?_) ?_
        · (try dsimp only at hSw); subst hSw; go_simp <;> omega
        simp only [Act.put, List.setIfInBounds_toArray, List.set_cons_zero, List.set_cons_succ]
        refine wpAnyT_end ?_
        refine wpAnyH_listed #[true, true, true, true, true, true, true, true, true, true, true, true, false, false, false, false, false, false, false, false, false, false, false, false, false, false, false, false, false, false, false] (by kernel_rfl) ?_
        refine wpAnyH_ready (rs := [12]) (by kernel_rfl) (by simp) ?_
        refine AllReadyH.cons (o := ⟨some 18, Op.call { callee := Callee.value (Operand.func 30), args := #[Operand.tmp 17], argTypes := #[3] }, 4, _, _, some (5, true)⟩) rfl (fun K hK => ?_) AllReadyH.nil
        go_simp
        go_at_call 30
        refine (show Calls Try.prog 30 #[.int .i64 at1] _ fun e w' => e = .returned (.bool false) ∧ _ = w' from HO.out ▸ in_any at1 _).mono ?_
        rintro e wq ⟨rfl, rfl⟩
        go_wp2_with fail
        clear hHeld
        refine hK.out _ _ (rfl) (fun hHeld => ?_)
        clear hK K
        try simp only [List.setIfInBounds_toArray, List.set_cons_zero, List.set_cons_succ]
        refine wpAnyH_listed #[true, true, true, true, true, true, true, true, true, true, true, true, true, false, false, false, false, false, false, false, false, false, false, false, false, false, false, false, false, false, false] (by kernel_rfl) ?_
        refine wpAnyT_begin [13] (by kernel_rfl) (by kernel_rfl) ?_
        refine wpAnyT_take (oi := ⟨some 19, Op.pick (Operand.tmp 11) (Operand.tmp 18) (Operand.const (Value.bool false)), 4, _, _, none⟩) (v := .bool false) rfl (fun _ _ _ h => h) (by rfl) (by assumption) (fun wS hSw => ?_) ?_
        · (try dsimp only at hSw); subst hSw; go_simp <;> omega
        simp only [Act.put, List.setIfInBounds_toArray, List.set_cons_zero, List.set_cons_succ]
        refine wpAnyT_end ?_
        refine wpAnyH_listed #[true, true, true, true, true, true, true, true, true, true, true, true, true, true, false, false, false, false, false, false, false, false, false, false, false, false, false, false, false, false, false] (by kernel_rfl) ?_
        refine wpAnyT_begin [14] (by kernel_rfl) (by kernel_rfl) ?_
        refine wpAnyT_take (oi := ⟨some 20, Op.move (Operand.tmp 19), 4, _, _, none⟩) (v := .bool false) rfl (fun _ _ _ h => h) (by rfl) (by assumption) (fun wS hSw => ?_) ?_
        · (try dsimp only at hSw); subst hSw; go_simp <;> omega
        simp only [Act.put, List.setIfInBounds_toArray, List.set_cons_zero, List.set_cons_succ]
        refine wpAnyT_end ?_
        refine wpAnyH_listed #[true, true, true, true, true, true, true, true, true, true, true, true, true, true, true, false, false, false, false, false, false, false, false, false, false, false, false, false, false, false, false] (by kernel_rfl) ?_
        refine wpAnyT_begin [15, 17, 21, 23, 28] (by kernel_rfl) (by kernel_rfl) ?_
        refine wpAnyT_skip (oi := ⟨some 21, Op.fieldAddr 25 (Operand.tmp 2) 1, 0, _, _, some (14, true)⟩) rfl (fun _ _ _ h => h) (by rfl) (by assumption) ?_
        simp only [Act.put, List.setIfInBounds_toArray, List.set_cons_zero, List.set_cons_succ]
        refine wpAnyT_skip (oi := ⟨some 23, Op.move (Operand.tmp 5), 3, _, _, some (14, true)⟩) rfl (fun _ _ _ h => h) (by rfl) (by assumption) ?_
        simp only [Act.put, List.setIfInBounds_toArray, List.set_cons_zero, List.set_cons_succ]
        refine wpAnyT_skip (oi := ⟨some 27, Op.fieldAddr 25 (Operand.tmp 2) 1, 0, _, _, some (14, true)⟩) rfl (fun _ _ _ h => h) (by rfl) (by assumption) ?_
        simp only [Act.put, List.setIfInBounds_toArray, List.set_cons_zero, List.set_cons_succ]
        refine wpAnyT_skip (oi := ⟨some 29, Op.move (Operand.tmp 5), 3, _, _, some (14, true)⟩) rfl (fun _ _ _ h => h) (by rfl) (by assumption) ?_
        simp only [Act.put, List.setIfInBounds_toArray, List.set_cons_zero, List.set_cons_succ]
        refine wpAnyT_skip (oi := ⟨some 34, Op.move (Operand.tmp 1), 3, _, _, some (14, true)⟩) rfl (fun _ _ _ h => h) (by rfl) (by assumption) ?_
        simp only [Act.put, List.setIfInBounds_toArray, List.set_cons_zero, List.set_cons_succ]
        refine wpAnyT_end ?_
        refine wpAnyH_listed #[true, true, true, true, true, true, true, true, true, true, true, true, true, true, true, true, false, true, false, false, false, true, false, true, false, false, false, false, true, false, false] (by kernel_rfl) ?_
        refine wpAnyT_begin [16, 22] (by kernel_rfl) (by kernel_rfl) ?_
        refine wpAnyT_skip (oi := ⟨some 22, Op.load 23 (Operand.tmp 21), 23, _, _, some (14, true)⟩) rfl (fun _ _ _ h => h) (by rfl) (by assumption) ?_
        simp only [Act.put, List.setIfInBounds_toArray, List.set_cons_zero, List.set_cons_succ]
        refine wpAnyT_skip (oi := ⟨some 28, Op.load 23 (Operand.tmp 27), 23, _, _, some (14, true)⟩) rfl (fun _ _ _ h => h) (by rfl) (by assumption) ?_
        simp only [Act.put, List.setIfInBounds_toArray, List.set_cons_zero, List.set_cons_succ]
        refine wpAnyT_end ?_
        refine wpAnyH_listed #[true, true, true, true, true, true, true, true, true, true, true, true, true, true, true, true, true, true, false, false, false, true, true, true, false, false, false, false, true, false, false] (by kernel_rfl) ?_
        refine wpAnyT_begin [18, 24] (by kernel_rfl) (by kernel_rfl) ?_
        refine wpAnyT_skip (oi := ⟨some 24, Op.indexAddr 23 (Operand.tmp 22) (Operand.tmp 23), 0, _, _, some (14, true)⟩) rfl (fun _ _ _ h => h) (by rfl) (by assumption) ?_
        simp only [Act.put, List.setIfInBounds_toArray, List.set_cons_zero, List.set_cons_succ]
        refine wpAnyT_skip (oi := ⟨some 30, Op.indexAddr 23 (Operand.tmp 28) (Operand.tmp 29), 0, _, _, some (14, true)⟩) rfl (fun _ _ _ h => h) (by rfl) (by assumption) ?_
        simp only [Act.put, List.setIfInBounds_toArray, List.set_cons_zero, List.set_cons_succ]
        refine wpAnyT_end ?_
        refine wpAnyH_listed #[true, true, true, true, true, true, true, true, true, true, true, true, true, true, true, true, true, true, true, false, false, true, true, true, true, false, false, false, true, false, false] (by kernel_rfl) ?_
        refine wpAnyT_begin [19, 25] (by kernel_rfl) (by kernel_rfl) ?_
        refine wpAnyT_skip (oi := ⟨some 25, Op.fieldAddr 30 (Operand.tmp 24) 1, 0, _, _, some (14, true)⟩) rfl (fun _ _ _ h => h) (by rfl) (by assumption) ?_
        simp only [Act.put, List.setIfInBounds_toArray, List.set_cons_zero, List.set_cons_succ]
        refine wpAnyT_skip (oi := ⟨some 31, Op.fieldAddr 30 (Operand.tmp 30) 1, 0, _, _, some (14, true)⟩) rfl (fun _ _ _ h => h) (by rfl) (by assumption) ?_
        simp only [Act.put, List.setIfInBounds_toArray, List.set_cons_zero, List.set_cons_succ]
        refine wpAnyT_end ?_
        refine wpAnyH_listed #[true, true, true, true, true, true, true, true, true, true, true, true, true, true, true, true, true, true, true, true, false, true, true, true, true, true, false, false, true, false, false] (by kernel_rfl) ?_
        refine wpAnyT_begin [20, 26] (by kernel_rfl) (by kernel_rfl) ?_
        refine wpAnyT_skip (oi := ⟨some 26, Op.load 3 (Operand.tmp 25), 3, _, _, some (14, true)⟩) rfl (fun _ _ _ h => h) (by rfl) (by assumption) ?_
        simp only [Act.put, List.setIfInBounds_toArray, List.set_cons_zero, List.set_cons_succ]
        refine wpAnyT_skip (oi := ⟨some 32, Op.load 3 (Operand.tmp 31), 3, _, _, some (14, true)⟩) rfl (fun _ _ _ h => h) (by rfl) (by assumption) ?_
        simp only [Act.put, List.setIfInBounds_toArray, List.set_cons_zero, List.set_cons_succ]
        refine wpAnyT_end ?_
        refine wpAnyH_listed #[true, true, true, true, true, true, true, true, true, true, true, true, true, true, true, true, true, true, true, true, true, true, true, true, true, true, true, false, true, false, false] (by kernel_rfl) ?_
        refine wpAnyT_begin [27] (by kernel_rfl) (by kernel_rfl) ?_
        refine wpAnyT_skip (oi := ⟨some 33, Op.binOp BinOp.mul 3 (Operand.tmp 26) (Operand.tmp 32) 3, 3, _, _, some (14, true)⟩) rfl (fun _ _ _ h => h) (by rfl) (by assumption) ?_
        simp only [Act.put, List.setIfInBounds_toArray, List.set_cons_zero, List.set_cons_succ]
        refine wpAnyT_end ?_
        refine wpAnyH_listed #[true, true, true, true, true, true, true, true, true, true, true, true, true, true, true, true, true, true, true, true, true, true, true, true, true, true, true, true, true, false, false] (by kernel_rfl) ?_
        refine wpAnyT_begin [29] (by kernel_rfl) (by kernel_rfl) ?_
        refine wpAnyT_skip (oi := ⟨some 35, Op.binOp BinOp.leq 3 (Operand.tmp 33) (Operand.tmp 34) 3, 4, _, _, some (14, true)⟩) rfl (fun _ _ _ h => h) (by rfl) (by assumption) ?_
        simp only [Act.put, List.setIfInBounds_toArray, List.set_cons_zero, List.set_cons_succ]
        refine wpAnyT_end ?_
        refine wpAnyH_listed #[true, true, true, true, true, true, true, true, true, true, true, true, true, true, true, true, true, true, true, true, true, true, true, true, true, true, true, true, true, true, false] (by kernel_rfl) ?_
        refine wpAnyT_begin [30] (by kernel_rfl) (by kernel_rfl) ?_
        refine wpAnyT_take (oi := ⟨some 36, Op.pick (Operand.tmp 20) (Operand.tmp 35) (Operand.const (Value.bool false)), 4, _, _, none⟩) (v := .bool false) rfl (fun _ _ _ h => h) (by rfl) (by assumption) (fun wS hSw => ?_) ?_
        · (try dsimp only at hSw); subst hSw; go_simp <;> omega
        simp only [Act.put, List.setIfInBounds_toArray, List.set_cons_zero, List.set_cons_succ]
        refine wpAnyT_end ?_
        refine wpAnyH_listed #[true, true, true, true, true, true, true, true, true, true, true, true, true, true, true, true, true, true, true, true, true, true, true, true, true, true, true, true, true, true, true] (by kernel_rfl) ?_
        refine wpAnyH_done (by kernel_rfl) ?_ _
        clear hHeld
        go_wp2_with fail
        go_ret
        exact ⟨ret_i (by rw [hs.out]), C2.low⟩
      | true =>
        obtain ⟨q1, q2⟩ := sq_in hok
        have HO := Lib.hid hok
        have hdn2 : dnA s at1 = decide (at1 * at1 ≤ s) := by rw [hdn, hok]; rfl
        clear hdn hok
        obtain ⟨q, hq⟩ : ∃ q, at1 * at1 = q := ⟨_, rfl⟩
        rw [hq] at q1 q2 hdn2
        have q3 : wrap64 q = q := IntWalk.wrap64_in _ ⟨by omega, by omega⟩
        have q4 : IntKind.i64.wrap q = q := by rw [IntKind.wrap_i64]; omega
        by_cases hle : q ≤ s
        · rw [decide_eq_true hle] at hdn2
          have hs := Lib.hid (HN.out hdn2)
          clear hdn2 HN HS
          go_wp2_with fail
          refine wp_region_held_drew (S := fun wz => wz = wr.drew) (by kernel_rfl) rfl (fun hHeld => ?_)
          have C2 := C.drew
          generalize wr.drew = w3 at *
          have k1 := C2.fact (.head _) (i := 1) rfl
          simp only at k1
          obtain ⟨b', o', ki', id', ot', nn', hbb, hxx, e0, e5, e2, e3, e4⟩ := (HR.out.later C2.low).ev (k := k) (by omega)
          cases hbb
          rw [Hat.out] at e5
          clear hxx e0 e2 e3 e4
          refine wpAnyT_begin [0, 1] (by kernel_rfl) (by kernel_rfl) ?_
          refine wpAnyT_take (oi := ⟨some 6, Op.move (Operand.tmp 5), 3, _, _, none⟩) (v := .int .i64 (k : Int)) rfl (fun _ _ _ h => h) (by rfl) (by assumption) (fun wS hSw => ?_) ?_
          · (try dsimp only at hSw); subst hSw; go_simp <;> omega
          simp only [Act.put, List.setIfInBounds_toArray, List.set_cons_zero, List.set_cons_succ]
          refine wpAnyT_take (oi := ⟨some 7, Op.fieldAddr 25 (Operand.tmp 2) 1, 0, _, _, none⟩) (v := .pointer (some ⟨w.heap.size, 1, none⟩)) rfl (fun _ _ _ h => h) (by rfl) (by assumption) (fun wS hSw => ?_) ?_
          · (try dsimp only at hSw); subst hSw; go_simp <;> omega
          simp only [Act.put, List.setIfInBounds_toArray, List.set_cons_zero, List.set_cons_succ]
          refine wpAnyT_end ?_
          refine wpAnyH_listed #[true, true, false, false, false, false, false, false, false, false, false, false, false, false, false, false, false, false, false, false, false, false, false, false, false, false, false, false, false, false, false] (by kernel_rfl) ?_
          refine wpAnyT_begin [2] (by kernel_rfl) (by kernel_rfl) ?_
          refine wpAnyT_take (oi := ⟨some 8, Op.load 23 (Operand.tmp 7), 23, _, _, none⟩) (v := .slice (some ⟨b, o, none⟩) L c) rfl (fun _ _ _ h => h) (by rfl) (by assumption) (fun wS hSw => ?_) ?_
          · (try dsimp only at hSw); subst hSw; go_simp <;> omega
          simp only [Act.put, List.setIfInBounds_toArray, List.set_cons_zero, List.set_cons_succ]
          refine wpAnyT_end ?_
          refine wpAnyH_listed #[true, true, true, false, false, false, false, false, false, false, false, false, false, false, false, false, false, false, false, false, false, false, false, false, false, false, false, false, false, false, false] (by kernel_rfl) ?_
          refine wpAnyT_begin [3] (by kernel_rfl) (by kernel_rfl) ?_
          refine wpAnyT_take (oi := ⟨some 9, Op.call { callee := Callee.builtin Builtin.len, args := #[Operand.tmp 8], argTypes := #[23] }, 3, _, _, none⟩) (v := .int .i64 (L : Int)) rfl (fun _ _ _ h => h) (by rfl) (by assumption) (fun wS hSw => ?_) ?_
          · (try dsimp only at hSw); subst hSw; go_simp <;> omega
          simp only [Act.put, List.setIfInBounds_toArray, List.set_cons_zero, List.set_cons_succ]
          refine wpAnyT_end ?_
          refine wpAnyH_listed #[true, true, true, true, false, false, false, false, false, false, false, false, false, false, false, false, false, false, false, false, false, false, false, false, false, false, false, false, false, false, false] (by kernel_rfl) ?_
          refine wpAnyT_begin [4] (by kernel_rfl) (by kernel_rfl) ?_
          refine wpAnyT_take (oi := ⟨some 10, Op.binOp BinOp.lss 3 (Operand.tmp 6) (Operand.tmp 9) 3, 4, _, _, none⟩) (v := .bool true) rfl (fun _ _ _ h => h) (by rfl) (by assumption) (fun wS hSw => ?_) ?_
          · (try dsimp only at hSw); subst hSw; go_simp <;> omega
          simp only [Act.put, List.setIfInBounds_toArray, List.set_cons_zero, List.set_cons_succ]
          refine wpAnyT_end ?_
          refine wpAnyH_listed #[true, true, true, true, true, false, false, false, false, false, false, false, false, false, false, false, false, false, false, false, false, false, false, false, false, false, false, false, false, false, false] (by kernel_rfl) ?_
          refine wpAnyT_begin [5] (by kernel_rfl) (by kernel_rfl) ?_
          refine wpAnyT_take (oi := ⟨some 11, Op.move (Operand.tmp 10), 4, _, _, none⟩) (v := .bool true) rfl (fun _ _ _ h => h) (by rfl) (by assumption) (fun wS hSw => ?_) ?_
          · (try dsimp only at hSw); subst hSw; go_simp <;> omega
          simp only [Act.put, List.setIfInBounds_toArray, List.set_cons_zero, List.set_cons_succ]
          refine wpAnyT_end ?_
          refine wpAnyH_listed #[true, true, true, true, true, true, false, false, false, false, false, false, false, false, false, false, false, false, false, false, false, false, false, false, false, false, false, false, false, false, false] (by kernel_rfl) ?_
          refine wpAnyT_begin [6, 8] (by kernel_rfl) (by kernel_rfl) ?_
          refine wpAnyT_take (oi := ⟨some 12, Op.fieldAddr 25 (Operand.tmp 2) 1, 0, _, _, some (5, true)⟩) (v := .pointer (some ⟨w.heap.size, 1, none⟩)) rfl (fun _ _ _ h => h) (by rfl) (by assumption) (fun wS hSw => ?_) ?_
          · (try dsimp only at hSw); subst hSw; go_simp <;> omega
          simp only [Act.put, List.setIfInBounds_toArray, List.set_cons_zero, List.set_cons_succ]
          refine wpAnyT_take (oi := ⟨some 14, Op.move (Operand.tmp 5), 3, _, _, some (5, true)⟩) (v := .int .i64 (k : Int)) rfl (fun _ _ _ h => h) (by rfl) (by assumption) (fun wS hSw => ?_) ?_
          · (try dsimp only at hSw); subst hSw; go_simp <;> omega
          simp only [Act.put, List.setIfInBounds_toArray, List.set_cons_zero, List.set_cons_succ]
          refine wpAnyT_end ?_
          refine wpAnyH_listed #[true, true, true, true, true, true, true, false, true, false, false, false, false, false, false, false, false, false, false, false, false, false, false, false, false, false, false, false, false, false, false] (by kernel_rfl) ?_
          refine wpAnyT_begin [7] (by kernel_rfl) (by kernel_rfl) ?_
          refine wpAnyT_take (oi := ⟨some 13, Op.load 23 (Operand.tmp 12), 23, _, _, some (5, true)⟩) (v := .slice (some ⟨b, o, none⟩) L c) rfl (fun _ _ _ h => h) (by rfl) (by assumption) (fun wS hSw => ?_) ?_
          · (try dsimp only at hSw); subst hSw; go_simp <;> omega
          simp only [Act.put, List.setIfInBounds_toArray, List.set_cons_zero, List.set_cons_succ]
          refine wpAnyT_end ?_
          refine wpAnyH_listed #[true, true, true, true, true, true, true, true, true, false, false, false, false, false, false, false, false, false, false, false, false, false, false, false, false, false, false, false, false, false, false] (by kernel_rfl) ?_
          refine wpAnyT_begin [9] (by kernel_rfl) (by kernel_rfl) ?_
          refine wpAnyT_take (oi := ⟨some 15, Op.indexAddr 23 (Operand.tmp 13) (Operand.tmp 14), 0, _, _, some (5, true)⟩) (v := .pointer (some ⟨b, o + k * 5, none⟩)) rfl (fun _ _ _ h => h) (by rfl) (by assumption) (fun wS hSw => ?_) ?_
          · (try dsimp only at hSw); subst hSw; go_simp <;> omega
          simp only [Act.put, List.setIfInBounds_toArray, List.set_cons_zero, List.set_cons_succ]
          refine wpAnyT_end ?_
          refine wpAnyH_listed #[true, true, true, true, true, true, true, true, true, true, false, false, false, false, false, false, false, false, false, false, false, false, false, false, false, false, false, false, false, false, false] (by kernel_rfl) ?_
          refine wpAnyT_begin [10] (by kernel_rfl) (by kernel_rfl) ?_
          refine wpAnyT_take (oi := ⟨some 16, Op.fieldAddr 30 (Operand.tmp 15) 1, 0, _, _, some (5, true)⟩) (v := .pointer (some ⟨b, o + k * 5 + 1, none⟩)) rfl (fun _ _ _ h => h) (by rfl) (by assumption) (fun wS hSw => ?_) ?_
          · (try dsimp only at hSw); subst hSw; go_simp <;> omega
          simp only [Act.put, List.setIfInBounds_toArray, List.set_cons_zero, List.set_cons_succ]
          refine wpAnyT_end ?_
          refine wpAnyH_listed #[true, true, true, true, true, true, true, true, true, true, true, false, false, false, false, false, false, false, false, false, false, false, false, false, false, false, false, false, false, false, false] (by kernel_rfl) ?_
          refine wpAnyT_begin [11] (by kernel_rfl) (by kernel_rfl) ?_
          refine wpAnyT_take (oi := ⟨some 17, Op.load 3 (Operand.tmp 16), 3, _, _, some (5, true)⟩) (v := .int .i64 at1) rfl (fun _ _ _ h => h) (by rfl) (by assumption) (fun wS hSw => ?_) ?_
          · (try dsimp only at hSw); subst hSw; go_simp <;> omega
          simp only [Act.put, List.setIfInBounds_toArray, List.set_cons_zero, List.set_cons_succ]
          refine wpAnyT_end ?_
          refine wpAnyH_listed #[true, true, true, true, true, true, true, true, true, true, true, true, false, false, false, false, false, false, false, false, false, false, false, false, false, false, false, false, false, false, false] (by kernel_rfl) ?_
          refine wpAnyH_ready (rs := [12]) (by kernel_rfl) (by simp) ?_
          refine AllReadyH.cons (o := ⟨some 18, Op.call { callee := Callee.value (Operand.func 30), args := #[Operand.tmp 17], argTypes := #[3] }, 4, _, _, some (5, true)⟩) rfl (fun K hK => ?_) AllReadyH.nil
          go_simp
          go_at_call 30
          refine (show Calls Try.prog 30 #[.int .i64 at1] _ fun e w' => e = .returned (.bool true) ∧ _ = w' from HO.out ▸ in_any at1 _).mono ?_
          rintro e wq ⟨rfl, rfl⟩
          go_wp2_with fail
          clear hHeld
          refine hK.out _ _ (rfl) (fun hHeld => ?_)
          clear hK K
          try simp only [List.setIfInBounds_toArray, List.set_cons_zero, List.set_cons_succ]
          refine wpAnyH_listed #[true, true, true, true, true, true, true, true, true, true, true, true, true, false, false, false, false, false, false, false, false, false, false, false, false, false, false, false, false, false, false] (by kernel_rfl) ?_
          refine wpAnyT_begin [13] (by kernel_rfl) (by kernel_rfl) ?_
          refine wpAnyT_take (oi := ⟨some 19, Op.pick (Operand.tmp 11) (Operand.tmp 18) (Operand.const (Value.bool false)), 4, _, _, none⟩) (v := .bool true) rfl (fun _ _ _ h => h) (by rfl) (by assumption) (fun wS hSw => ?_) ?_
          · (try dsimp only at hSw); subst hSw; go_simp <;> omega
          simp only [Act.put, List.setIfInBounds_toArray, List.set_cons_zero, List.set_cons_succ]
          refine wpAnyT_end ?_
          refine wpAnyH_listed #[true, true, true, true, true, true, true, true, true, true, true, true, true, true, false, false, false, false, false, false, false, false, false, false, false, false, false, false, false, false, false] (by kernel_rfl) ?_
          refine wpAnyT_begin [14] (by kernel_rfl) (by kernel_rfl) ?_
          refine wpAnyT_take (oi := ⟨some 20, Op.move (Operand.tmp 19), 4, _, _, none⟩) (v := .bool true) rfl (fun _ _ _ h => h) (by rfl) (by assumption) (fun wS hSw => ?_) ?_
          · (try dsimp only at hSw); subst hSw; go_simp <;> omega
          simp only [Act.put, List.setIfInBounds_toArray, List.set_cons_zero, List.set_cons_succ]
          refine wpAnyT_end ?_
          refine wpAnyH_listed #[true, true, true, true, true, true, true, true, true, true, true, true, true, true, true, false, false, false, false, false, false, false, false, false, false, false, false, false, false, false, false] (by kernel_rfl) ?_
          refine wpAnyT_begin [15, 17, 21, 23, 28] (by kernel_rfl) (by kernel_rfl) ?_
          refine wpAnyT_take (oi := ⟨some 21, Op.fieldAddr 25 (Operand.tmp 2) 1, 0, _, _, some (14, true)⟩) (v := .pointer (some ⟨w.heap.size, 1, none⟩)) rfl (fun _ _ _ h => h) (by rfl) (by assumption) (fun wS hSw => ?_) ?_
          · (try dsimp only at hSw); subst hSw; go_simp <;> omega
          simp only [Act.put, List.setIfInBounds_toArray, List.set_cons_zero, List.set_cons_succ]
          refine wpAnyT_take (oi := ⟨some 23, Op.move (Operand.tmp 5), 3, _, _, some (14, true)⟩) (v := .int .i64 (k : Int)) rfl (fun _ _ _ h => h) (by rfl) (by assumption) (fun wS hSw => ?_) ?_
          · (try dsimp only at hSw); subst hSw; go_simp <;> omega
          simp only [Act.put, List.setIfInBounds_toArray, List.set_cons_zero, List.set_cons_succ]
          refine wpAnyT_take (oi := ⟨some 27, Op.fieldAddr 25 (Operand.tmp 2) 1, 0, _, _, some (14, true)⟩) (v := .pointer (some ⟨w.heap.size, 1, none⟩)) rfl (fun _ _ _ h => h) (by rfl) (by assumption) (fun wS hSw => ?_) ?_
          · (try dsimp only at hSw); subst hSw; go_simp <;> omega
          simp only [Act.put, List.setIfInBounds_toArray, List.set_cons_zero, List.set_cons_succ]
          refine wpAnyT_take (oi := ⟨some 29, Op.move (Operand.tmp 5), 3, _, _, some (14, true)⟩) (v := .int .i64 (k : Int)) rfl (fun _ _ _ h => h) (by rfl) (by assumption) (fun wS hSw => ?_) ?_
          · (try dsimp only at hSw); subst hSw; go_simp <;> omega
          simp only [Act.put, List.setIfInBounds_toArray, List.set_cons_zero, List.set_cons_succ]
          refine wpAnyT_take (oi := ⟨some 34, Op.move (Operand.tmp 1), 3, _, _, some (14, true)⟩) (v := .int .i64 s) rfl (fun _ _ _ h => h) (by rfl) (by assumption) (fun wS hSw => ?_) ?_
          · (try dsimp only at hSw); subst hSw; go_simp <;> omega
          simp only [Act.put, List.setIfInBounds_toArray, List.set_cons_zero, List.set_cons_succ]
          refine wpAnyT_end ?_
          refine wpAnyH_listed #[true, true, true, true, true, true, true, true, true, true, true, true, true, true, true, true, false, true, false, false, false, true, false, true, false, false, false, false, true, false, false] (by kernel_rfl) ?_
          refine wpAnyT_begin [16, 22] (by kernel_rfl) (by kernel_rfl) ?_
          refine wpAnyT_take (oi := ⟨some 22, Op.load 23 (Operand.tmp 21), 23, _, _, some (14, true)⟩) (v := .slice (some ⟨b, o, none⟩) L c) rfl (fun _ _ _ h => h) (by rfl) (by assumption) (fun wS hSw => ?_) ?_
          · (try dsimp only at hSw); subst hSw; go_simp <;> omega
          simp only [Act.put, List.setIfInBounds_toArray, List.set_cons_zero, List.set_cons_succ]
          refine wpAnyT_take (oi := ⟨some 28, Op.load 23 (Operand.tmp 27), 23, _, _, some (14, true)⟩) (v := .slice (some ⟨b, o, none⟩) L c) rfl (fun _ _ _ h => h) (by rfl) (by assumption) (fun wS hSw => ?_) ?_
          · (try dsimp only at hSw); subst hSw; go_simp <;> omega
          simp only [Act.put, List.setIfInBounds_toArray, List.set_cons_zero, List.set_cons_succ]
          refine wpAnyT_end ?_
          refine wpAnyH_listed #[true, true, true, true, true, true, true, true, true, true, true, true, true, true, true, true, true, true, false, false, false, true, true, true, false, false, false, false, true, false, false] (by kernel_rfl) ?_
          refine wpAnyT_begin [18, 24] (by kernel_rfl) (by kernel_rfl) ?_
          refine wpAnyT_take (oi := ⟨some 24, Op.indexAddr 23 (Operand.tmp 22) (Operand.tmp 23), 0, _, _, some (14, true)⟩) (v := .pointer (some ⟨b, o + k * 5, none⟩)) rfl (fun _ _ _ h => h) (by rfl) (by assumption) (fun wS hSw => ?_) ?_
          · (try dsimp only at hSw); subst hSw; go_simp <;> omega
          simp only [Act.put, List.setIfInBounds_toArray, List.set_cons_zero, List.set_cons_succ]
          refine wpAnyT_take (oi := ⟨some 30, Op.indexAddr 23 (Operand.tmp 28) (Operand.tmp 29), 0, _, _, some (14, true)⟩) (v := .pointer (some ⟨b, o + k * 5, none⟩)) rfl (fun _ _ _ h => h) (by rfl) (by assumption) (fun wS hSw => ?_) ?_
          · (try dsimp only at hSw); subst hSw; go_simp <;> omega
          simp only [Act.put, List.setIfInBounds_toArray, List.set_cons_zero, List.set_cons_succ]
          refine wpAnyT_end ?_
          refine wpAnyH_listed #[true, true, true, true, true, true, true, true, true, true, true, true, true, true, true, true, true, true, true, false, false, true, true, true, true, false, false, false, true, false, false] (by kernel_rfl) ?_
          refine wpAnyT_begin [19, 25] (by kernel_rfl) (by kernel_rfl) ?_
          refine wpAnyT_take (oi := ⟨some 25, Op.fieldAddr 30 (Operand.tmp 24) 1, 0, _, _, some (14, true)⟩) (v := .pointer (some ⟨b, o + k * 5 + 1, none⟩)) rfl (fun _ _ _ h => h) (by rfl) (by assumption) (fun wS hSw => ?_) ?_
          · (try dsimp only at hSw); subst hSw; go_simp <;> omega
          simp only [Act.put, List.setIfInBounds_toArray, List.set_cons_zero, List.set_cons_succ]
          refine wpAnyT_take (oi := ⟨some 31, Op.fieldAddr 30 (Operand.tmp 30) 1, 0, _, _, some (14, true)⟩) (v := .pointer (some ⟨b, o + k * 5 + 1, none⟩)) rfl (fun _ _ _ h => h) (by rfl) (by assumption) (fun wS hSw => ?_) ?_
          · (try dsimp only at hSw); subst hSw; go_simp <;> omega
          simp only [Act.put, List.setIfInBounds_toArray, List.set_cons_zero, List.set_cons_succ]
          refine wpAnyT_end ?_
          refine wpAnyH_listed #[true, true, true, true, true, true, true, true, true, true, true, true, true, true, true, true, true, true, true, true, false, true, true, true, true, true, false, false, true, false, false] (by kernel_rfl) ?_
          refine wpAnyT_begin [20, 26] (by kernel_rfl) (by kernel_rfl) ?_
          refine wpAnyT_take (oi := ⟨some 26, Op.load 3 (Operand.tmp 25), 3, _, _, some (14, true)⟩) (v := .int .i64 at1) rfl (fun _ _ _ h => h) (by rfl) (by assumption) (fun wS hSw => ?_) ?_
          · (try dsimp only at hSw); subst hSw; go_simp <;> omega
          simp only [Act.put, List.setIfInBounds_toArray, List.set_cons_zero, List.set_cons_succ]
          refine wpAnyT_take (oi := ⟨some 32, Op.load 3 (Operand.tmp 31), 3, _, _, some (14, true)⟩) (v := .int .i64 at1) rfl (fun _ _ _ h => h) (by rfl) (by assumption) (fun wS hSw => ?_) ?_
          · (try dsimp only at hSw); subst hSw; go_simp <;> omega
          simp only [Act.put, List.setIfInBounds_toArray, List.set_cons_zero, List.set_cons_succ]
          refine wpAnyT_end ?_
          refine wpAnyH_listed #[true, true, true, true, true, true, true, true, true, true, true, true, true, true, true, true, true, true, true, true, true, true, true, true, true, true, true, false, true, false, false] (by kernel_rfl) ?_
          refine wpAnyT_begin [27] (by kernel_rfl) (by kernel_rfl) ?_
          refine wpAnyT_take (oi := ⟨some 33, Op.binOp BinOp.mul 3 (Operand.tmp 26) (Operand.tmp 32) 3, 3, _, _, some (14, true)⟩) (v := .int .i64 q) rfl (fun _ _ _ h => h) (by rfl) (by assumption) (fun wS hSw => ?_) ?_
          · (try dsimp only at hSw); subst hSw; go_simp <;> omega
          simp only [Act.put, List.setIfInBounds_toArray, List.set_cons_zero, List.set_cons_succ]
          refine wpAnyT_end ?_
          refine wpAnyH_listed #[true, true, true, true, true, true, true, true, true, true, true, true, true, true, true, true, true, true, true, true, true, true, true, true, true, true, true, true, true, false, false] (by kernel_rfl) ?_
          refine wpAnyT_begin [29] (by kernel_rfl) (by kernel_rfl) ?_
          refine wpAnyT_take (oi := ⟨some 35, Op.binOp BinOp.leq 3 (Operand.tmp 33) (Operand.tmp 34) 3, 4, _, _, some (14, true)⟩) (v := .bool true) rfl (fun _ _ _ h => h) (by rfl) (by assumption) (fun wS hSw => ?_) ?_
          · (try dsimp only at hSw); subst hSw; go_simp <;> omega
          simp only [Act.put, List.setIfInBounds_toArray, List.set_cons_zero, List.set_cons_succ]
          refine wpAnyT_end ?_
          refine wpAnyH_listed #[true, true, true, true, true, true, true, true, true, true, true, true, true, true, true, true, true, true, true, true, true, true, true, true, true, true, true, true, true, true, false] (by kernel_rfl) ?_
          refine wpAnyT_begin [30] (by kernel_rfl) (by kernel_rfl) ?_
          refine wpAnyT_take (oi := ⟨some 36, Op.pick (Operand.tmp 20) (Operand.tmp 35) (Operand.const (Value.bool false)), 4, _, _, none⟩) (v := .bool true) rfl (fun _ _ _ h => h) (by rfl) (by assumption) (fun wS hSw => ?_) ?_
          · (try dsimp only at hSw); subst hSw; go_simp <;> omega
          simp only [Act.put, List.setIfInBounds_toArray, List.set_cons_zero, List.set_cons_succ]
          refine wpAnyT_end ?_
          refine wpAnyH_listed #[true, true, true, true, true, true, true, true, true, true, true, true, true, true, true, true, true, true, true, true, true, true, true, true, true, true, true, true, true, true, true] (by kernel_rfl) ?_
          refine wpAnyH_done (by kernel_rfl) ?_ _
          clear hHeld
          go_wp2_with fail
          go_roundw
          case rel => exact ⟨k + 1, by omega, by go_num, C2, hs⟩
          case measure => simp [RowKit.intOf]; omega
        · rw [decide_eq_false hle] at hdn2
          have hs := Lib.hid (HS.out hdn2)
          clear hdn2 HN HS
          go_wp2_with fail
          refine wp_region_held_drew (S := fun wz => wz = wr.drew) (by kernel_rfl) rfl (fun hHeld => ?_)
          have C2 := C.drew
          generalize wr.drew = w3 at *
          have k1 := C2.fact (.head _) (i := 1) rfl
          simp only at k1
          obtain ⟨b', o', ki', id', ot', nn', hbb, hxx, e0, e5, e2, e3, e4⟩ := (HR.out.later C2.low).ev (k := k) (by omega)
          cases hbb
          rw [Hat.out] at e5
          clear hxx e0 e2 e3 e4
          refine wpAnyT_begin [0, 1] (by kernel_rfl) (by kernel_rfl) ?_
          refine wpAnyT_take (oi := ⟨some 6, Op.move (Operand.tmp 5), 3, _, _, none⟩) (v := .int .i64 (k : Int)) rfl (fun _ _ _ h => h) (by rfl) (by assumption) (fun wS hSw => ?_) ?_
          · (try dsimp only at hSw); subst hSw; go_simp <;> omega
          simp only [Act.put, List.setIfInBounds_toArray, List.set_cons_zero, List.set_cons_succ]
          refine wpAnyT_take (oi := ⟨some 7, Op.fieldAddr 25 (Operand.tmp 2) 1, 0, _, _, none⟩) (v := .pointer (some ⟨w.heap.size, 1, none⟩)) rfl (fun _ _ _ h => h) (by rfl) (by assumption) (fun wS hSw => ?_) ?_
          · (try dsimp only at hSw); subst hSw; go_simp <;> omega
          simp only [Act.put, List.setIfInBounds_toArray, List.set_cons_zero, List.set_cons_succ]
          refine wpAnyT_end ?_
          refine wpAnyH_listed #[true, true, false, false, false, false, false, false, false, false, false, false, false, false, false, false, false, false, false, false, false, false, false, false, false, false, false, false, false, false, false] (by kernel_rfl) ?_
          refine wpAnyT_begin [2] (by kernel_rfl) (by kernel_rfl) ?_
          refine wpAnyT_take (oi := ⟨some 8, Op.load 23 (Operand.tmp 7), 23, _, _, none⟩) (v := .slice (some ⟨b, o, none⟩) L c) rfl (fun _ _ _ h => h) (by rfl) (by assumption) (fun wS hSw => ?_) ?_
          · (try dsimp only at hSw); subst hSw; go_simp <;> omega
          simp only [Act.put, List.setIfInBounds_toArray, List.set_cons_zero, List.set_cons_succ]
          refine wpAnyT_end ?_
          refine wpAnyH_listed #[true, true, true, false, false, false, false, false, false, false, false, false, false, false, false, false, false, false, false, false, false, false, false, false, false, false, false, false, false, false, false] (by kernel_rfl) ?_
          refine wpAnyT_begin [3] (by kernel_rfl) (by kernel_rfl) ?_
          refine wpAnyT_take (oi := ⟨some 9, Op.call { callee := Callee.builtin Builtin.len, args := #[Operand.tmp 8], argTypes := #[23] }, 3, _, _, none⟩) (v := .int .i64 (L : Int)) rfl (fun _ _ _ h => h) (by rfl) (by assumption) (fun wS hSw => ?_) ?_
          · (try dsimp only at hSw); subst hSw; go_simp <;> omega
          simp only [Act.put, List.setIfInBounds_toArray, List.set_cons_zero, List.set_cons_succ]
          refine wpAnyT_end ?_
          refine wpAnyH_listed #[true, true, true, true, false, false, false, false, false, false, false, false, false, false, false, false, false, false, false, false, false, false, false, false, false, false, false, false, false, false, false] (by kernel_rfl) ?_
          refine wpAnyT_begin [4] (by kernel_rfl) (by kernel_rfl) ?_
          refine wpAnyT_take (oi := ⟨some 10, Op.binOp BinOp.lss 3 (Operand.tmp 6) (Operand.tmp 9) 3, 4, _, _, none⟩) (v := .bool true) rfl (fun _ _ _ h => h) (by rfl) (by assumption) (fun wS hSw => ?_) ?_
          · (try dsimp only at hSw); subst hSw; go_simp <;> omega
          simp only [Act.put, List.setIfInBounds_toArray, List.set_cons_zero, List.set_cons_succ]
          refine wpAnyT_end ?_
          refine wpAnyH_listed #[true, true, true, true, true, false, false, false, false, false, false, false, false, false, false, false, false, false, false, false, false, false, false, false, false, false, false, false, false, false, false] (by kernel_rfl) ?_
          refine wpAnyT_begin [5] (by kernel_rfl) (by kernel_rfl) ?_
          refine wpAnyT_take (oi := ⟨some 11, Op.move (Operand.tmp 10), 4, _, _, none⟩) (v := .bool true) rfl (fun _ _ _ h => h) (by rfl) (by assumption) (fun wS hSw => ?_) ?_
          · (try dsimp only at hSw); subst hSw; go_simp <;> omega
          simp only [Act.put, List.setIfInBounds_toArray, List.set_cons_zero, List.set_cons_succ]
          refine wpAnyT_end ?_
          refine wpAnyH_listed #[true, true, true, true, true, true, false, false, false, false, false, false, false, false, false, false, false, false, false, false, false, false, false, false, false, false, false, false, false, false, false] (by kernel_rfl) ?_
          refine wpAnyT_begin [6, 8] (by kernel_rfl) (by kernel_rfl) ?_
          refine wpAnyT_take (oi := ⟨some 12, Op.fieldAddr 25 (Operand.tmp 2) 1, 0, _, _, some (5, true)⟩) (v := .pointer (some ⟨w.heap.size, 1, none⟩)) rfl (fun _ _ _ h => h) (by rfl) (by assumption) (fun wS hSw => ?_) ?_
          · (try dsimp only at hSw); subst hSw; go_simp <;> omega
          simp only [Act.put, List.setIfInBounds_toArray, List.set_cons_zero, List.set_cons_succ]
          refine wpAnyT_take (oi := ⟨some 14, Op.move (Operand.tmp 5), 3, _, _, some (5, true)⟩) (v := .int .i64 (k : Int)) rfl (fun _ _ _ h => h) (by rfl) (by assumption) (fun wS hSw => ?_) ?_
          · (try dsimp only at hSw); subst hSw; go_simp <;> omega
          simp only [Act.put, List.setIfInBounds_toArray, List.set_cons_zero, List.set_cons_succ]
          refine wpAnyT_end ?_
          refine wpAnyH_listed #[true, true, true, true, true, true, true, false, true, false, false, false, false, false, false, false, false, false, false, false, false, false, false, false, false, false, false, false, false, false, false] (by kernel_rfl) ?_
          refine wpAnyT_begin [7] (by kernel_rfl) (by kernel_rfl) ?_
          refine wpAnyT_take (oi := ⟨some 13, Op.load 23 (Operand.tmp 12), 23, _, _, some (5, true)⟩) (v := .slice (some ⟨b, o, none⟩) L c) rfl (fun _ _ _ h => h) (by rfl) (by assumption) (fun wS hSw => ?_) ?_
          · (try dsimp only at hSw); subst hSw; go_simp <;> omega
          simp only [Act.put, List.setIfInBounds_toArray, List.set_cons_zero, List.set_cons_succ]
          refine wpAnyT_end ?_
          refine wpAnyH_listed #[true, true, true, true, true, true, true, true, true, false, false, false, false, false, false, false, false, false, false, false, false, false, false, false, false, false, false, false, false, false, false] (by kernel_rfl) ?_
          refine wpAnyT_begin [9] (by kernel_rfl) (by kernel_rfl) ?_
          refine wpAnyT_take (oi := ⟨some 15, Op.indexAddr 23 (Operand.tmp 13) (Operand.tmp 14), 0, _, _, some (5, true)⟩) (v := .pointer (some ⟨b, o + k * 5, none⟩)) rfl (fun _ _ _ h => h) (by rfl) (by assumption) (fun wS hSw => ?_) ?_
          · (try dsimp only at hSw); subst hSw; go_simp <;> omega
          simp only [Act.put, List.setIfInBounds_toArray, List.set_cons_zero, List.set_cons_succ]
          refine wpAnyT_end ?_
          refine wpAnyH_listed #[true, true, true, true, true, true, true, true, true, true, false, false, false, false, false, false, false, false, false, false, false, false, false, false, false, false, false, false, false, false, false] (by kernel_rfl) ?_
          refine wpAnyT_begin [10] (by kernel_rfl) (by kernel_rfl) ?_
          refine wpAnyT_take (oi := ⟨some 16, Op.fieldAddr 30 (Operand.tmp 15) 1, 0, _, _, some (5, true)⟩) (v := .pointer (some ⟨b, o + k * 5 + 1, none⟩)) rfl (fun _ _ _ h => h) (by rfl) (by assumption) (fun wS hSw => ?_) ?_
          · (try dsimp only at hSw); subst hSw; go_simp <;> omega
          simp only [Act.put, List.setIfInBounds_toArray, List.set_cons_zero, List.set_cons_succ]
          refine wpAnyT_end ?_
          refine wpAnyH_listed #[true, true, true, true, true, true, true, true, true, true, true, false, false, false, false, false, false, false, false, false, false, false, false, false, false, false, false, false, false, false, false] (by kernel_rfl) ?_
          refine wpAnyT_begin [11] (by kernel_rfl) (by kernel_rfl) ?_
          refine wpAnyT_take (oi := ⟨some 17, Op.load 3 (Operand.tmp 16), 3, _, _, some (5, true)⟩) (v := .int .i64 at1) rfl (fun _ _ _ h => h) (by rfl) (by assumption) (fun wS hSw => ?_) ?_
          · (try dsimp only at hSw); subst hSw; go_simp <;> omega
          simp only [Act.put, List.setIfInBounds_toArray, List.set_cons_zero, List.set_cons_succ]
          refine wpAnyT_end ?_
          refine wpAnyH_listed #[true, true, true, true, true, true, true, true, true, true, true, true, false, false, false, false, false, false, false, false, false, false, false, false, false, false, false, false, false, false, false] (by kernel_rfl) ?_
          refine wpAnyH_ready (rs := [12]) (by kernel_rfl) (by simp) ?_
          refine AllReadyH.cons (o := ⟨some 18, Op.call { callee := Callee.value (Operand.func 30), args := #[Operand.tmp 17], argTypes := #[3] }, 4, _, _, some (5, true)⟩) rfl (fun K hK => ?_) AllReadyH.nil
          go_simp
          go_at_call 30
          refine (show Calls Try.prog 30 #[.int .i64 at1] _ fun e w' => e = .returned (.bool true) ∧ _ = w' from HO.out ▸ in_any at1 _).mono ?_
          rintro e wq ⟨rfl, rfl⟩
          go_wp2_with fail
          clear hHeld
          refine hK.out _ _ (rfl) (fun hHeld => ?_)
          clear hK K
          try simp only [List.setIfInBounds_toArray, List.set_cons_zero, List.set_cons_succ]
          refine wpAnyH_listed #[true, true, true, true, true, true, true, true, true, true, true, true, true, false, false, false, false, false, false, false, false, false, false, false, false, false, false, false, false, false, false] (by kernel_rfl) ?_
          refine wpAnyT_begin [13] (by kernel_rfl) (by kernel_rfl) ?_
          refine wpAnyT_take (oi := ⟨some 19, Op.pick (Operand.tmp 11) (Operand.tmp 18) (Operand.const (Value.bool false)), 4, _, _, none⟩) (v := .bool true) rfl (fun _ _ _ h => h) (by rfl) (by assumption) (fun wS hSw => ?_) ?_
          · (try dsimp only at hSw); subst hSw; go_simp <;> omega
          simp only [Act.put, List.setIfInBounds_toArray, List.set_cons_zero, List.set_cons_succ]
          refine wpAnyT_end ?_
          refine wpAnyH_listed #[true, true, true, true, true, true, true, true, true, true, true, true, true, true, false, false, false, false, false, false, false, false, false, false, false, false, false, false, false, false, false] (by kernel_rfl) ?_
          refine wpAnyT_begin [14] (by kernel_rfl) (by kernel_rfl) ?_
          refine wpAnyT_take (oi := ⟨some 20, Op.move (Operand.tmp 19), 4, _, _, none⟩) (v := .bool true) rfl (fun _ _ _ h => h) (by rfl) (by assumption) (fun wS hSw => ?_) ?_
          · (try dsimp only at hSw); subst hSw; go_simp <;> omega
          simp only [Act.put, List.setIfInBounds_toArray, List.set_cons_zero, List.set_cons_succ]
          refine wpAnyT_end ?_
          refine wpAnyH_listed #[true, true, true, true, true, true, true, true, true, true, true, true, true, true, true, false, false, false, false, false, false, false, false, false, false, false, false, false, false, false, false] (by kernel_rfl) ?_
          refine wpAnyT_begin [15, 17, 21, 23, 28] (by kernel_rfl) (by kernel_rfl) ?_
          refine wpAnyT_take (oi := ⟨some 21, Op.fieldAddr 25 (Operand.tmp 2) 1, 0, _, _, some (14, true)⟩) (v := .pointer (some ⟨w.heap.size, 1, none⟩)) rfl (fun _ _ _ h => h) (by rfl) (by assumption) (fun wS hSw => ?_) ?_
          · (try dsimp only at hSw); subst hSw; go_simp <;> omega
          simp only [Act.put, List.setIfInBounds_toArray, List.set_cons_zero, List.set_cons_succ]
          refine wpAnyT_take (oi := ⟨some 23, Op.move (Operand.tmp 5), 3, _, _, some (14, true)⟩) (v := .int .i64 (k : Int)) rfl (fun _ _ _ h => h) (by rfl) (by assumption) (fun wS hSw => ?_) ?_
          · (try dsimp only at hSw); subst hSw; go_simp <;> omega
          simp only [Act.put, List.setIfInBounds_toArray, List.set_cons_zero, List.set_cons_succ]
          refine wpAnyT_take (oi := ⟨some 27, Op.fieldAddr 25 (Operand.tmp 2) 1, 0, _, _, some (14, true)⟩) (v := .pointer (some ⟨w.heap.size, 1, none⟩)) rfl (fun _ _ _ h => h) (by rfl) (by assumption) (fun wS hSw => ?_) ?_
          · (try dsimp only at hSw); subst hSw; go_simp <;> omega
          simp only [Act.put, List.setIfInBounds_toArray, List.set_cons_zero, List.set_cons_succ]
          refine wpAnyT_take (oi := ⟨some 29, Op.move (Operand.tmp 5), 3, _, _, some (14, true)⟩) (v := .int .i64 (k : Int)) rfl (fun _ _ _ h => h) (by rfl) (by assumption) (fun wS hSw => ?_) ?_
          · (try dsimp only at hSw); subst hSw; go_simp <;> omega
          simp only [Act.put, List.setIfInBounds_toArray, List.set_cons_zero, List.set_cons_succ]
          refine wpAnyT_take (oi := ⟨some 34, Op.move (Operand.tmp 1), 3, _, _, some (14, true)⟩) (v := .int .i64 s) rfl (fun _ _ _ h => h) (by rfl) (by assumption) (fun wS hSw => ?_) ?_
          · (try dsimp only at hSw); subst hSw; go_simp <;> omega
          simp only [Act.put, List.setIfInBounds_toArray, List.set_cons_zero, List.set_cons_succ]
          refine wpAnyT_end ?_
          refine wpAnyH_listed #[true, true, true, true, true, true, true, true, true, true, true, true, true, true, true, true, false, true, false, false, false, true, false, true, false, false, false, false, true, false, false] (by kernel_rfl) ?_
          refine wpAnyT_begin [16, 22] (by kernel_rfl) (by kernel_rfl) ?_
          refine wpAnyT_take (oi := ⟨some 22, Op.load 23 (Operand.tmp 21), 23, _, _, some (14, true)⟩) (v := .slice (some ⟨b, o, none⟩) L c) rfl (fun _ _ _ h => h) (by rfl) (by assumption) (fun wS hSw => ?_) ?_
          · (try dsimp only at hSw); subst hSw; go_simp <;> omega
          simp only [Act.put, List.setIfInBounds_toArray, List.set_cons_zero, List.set_cons_succ]
          refine wpAnyT_take (oi := ⟨some 28, Op.load 23 (Operand.tmp 27), 23, _, _, some (14, true)⟩) (v := .slice (some ⟨b, o, none⟩) L c) rfl (fun _ _ _ h => h) (by rfl) (by assumption) (fun wS hSw => ?_) ?_
          · (try dsimp only at hSw); subst hSw; go_simp <;> omega
          simp only [Act.put, List.setIfInBounds_toArray, List.set_cons_zero, List.set_cons_succ]
          refine wpAnyT_end ?_
          refine wpAnyH_listed #[true, true, true, true, true, true, true, true, true, true, true, true, true, true, true, true, true, true, false, false, false, true, true, true, false, false, false, false, true, false, false] (by kernel_rfl) ?_
          refine wpAnyT_begin [18, 24] (by kernel_rfl) (by kernel_rfl) ?_
          refine wpAnyT_take (oi := ⟨some 24, Op.indexAddr 23 (Operand.tmp 22) (Operand.tmp 23), 0, _, _, some (14, true)⟩) (v := .pointer (some ⟨b, o + k * 5, none⟩)) rfl (fun _ _ _ h => h) (by rfl) (by assumption) (fun wS hSw => ?_) ?_
          · (try dsimp only at hSw); subst hSw; go_simp <;> omega
          simp only [Act.put, List.setIfInBounds_toArray, List.set_cons_zero, List.set_cons_succ]
          refine wpAnyT_take (oi := ⟨some 30, Op.indexAddr 23 (Operand.tmp 28) (Operand.tmp 29), 0, _, _, some (14, true)⟩) (v := .pointer (some ⟨b, o + k * 5, none⟩)) rfl (fun _ _ _ h => h) (by rfl) (by assumption) (fun wS hSw => ?_) ?_
          · (try dsimp only at hSw); subst hSw; go_simp <;> omega
          simp only [Act.put, List.setIfInBounds_toArray, List.set_cons_zero, List.set_cons_succ]
          refine wpAnyT_end ?_
          refine wpAnyH_listed #[true, true, true, true, true, true, true, true, true, true, true, true, true, true, true, true, true, true, true, false, false, true, true, true, true, false, false, false, true, false, false] (by kernel_rfl) ?_
          refine wpAnyT_begin [19, 25] (by kernel_rfl) (by kernel_rfl) ?_
          refine wpAnyT_take (oi := ⟨some 25, Op.fieldAddr 30 (Operand.tmp 24) 1, 0, _, _, some (14, true)⟩) (v := .pointer (some ⟨b, o + k * 5 + 1, none⟩)) rfl (fun _ _ _ h => h) (by rfl) (by assumption) (fun wS hSw => ?_) ?_
          · (try dsimp only at hSw); subst hSw; go_simp <;> omega
          simp only [Act.put, List.setIfInBounds_toArray, List.set_cons_zero, List.set_cons_succ]
          refine wpAnyT_take (oi := ⟨some 31, Op.fieldAddr 30 (Operand.tmp 30) 1, 0, _, _, some (14, true)⟩) (v := .pointer (some ⟨b, o + k * 5 + 1, none⟩)) rfl (fun _ _ _ h => h) (by rfl) (by assumption) (fun wS hSw => ?_) ?_
          · (try dsimp only at hSw); subst hSw; go_simp <;> omega
          simp only [Act.put, List.setIfInBounds_toArray, List.set_cons_zero, List.set_cons_succ]
          refine wpAnyT_end ?_
          refine wpAnyH_listed #[true, true, true, true, true, true, true, true, true, true, true, true, true, true, true, true, true, true, true, true, false, true, true, true, true, true, false, false, true, false, false] (by kernel_rfl) ?_
          refine wpAnyT_begin [20, 26] (by kernel_rfl) (by kernel_rfl) ?_
          refine wpAnyT_take (oi := ⟨some 26, Op.load 3 (Operand.tmp 25), 3, _, _, some (14, true)⟩) (v := .int .i64 at1) rfl (fun _ _ _ h => h) (by rfl) (by assumption) (fun wS hSw => ?_) ?_
          · (try dsimp only at hSw); subst hSw; go_simp <;> omega
          simp only [Act.put, List.setIfInBounds_toArray, List.set_cons_zero, List.set_cons_succ]
          refine wpAnyT_take (oi := ⟨some 32, Op.load 3 (Operand.tmp 31), 3, _, _, some (14, true)⟩) (v := .int .i64 at1) rfl (fun _ _ _ h => h) (by rfl) (by assumption) (fun wS hSw => ?_) ?_
          · (try dsimp only at hSw); subst hSw; go_simp <;> omega
          simp only [Act.put, List.setIfInBounds_toArray, List.set_cons_zero, List.set_cons_succ]
          refine wpAnyT_end ?_
          refine wpAnyH_listed #[true, true, true, true, true, true, true, true, true, true, true, true, true, true, true, true, true, true, true, true, true, true, true, true, true, true, true, false, true, false, false] (by kernel_rfl) ?_
          refine wpAnyT_begin [27] (by kernel_rfl) (by kernel_rfl) ?_
          refine wpAnyT_take (oi := ⟨some 33, Op.binOp BinOp.mul 3 (Operand.tmp 26) (Operand.tmp 32) 3, 3, _, _, some (14, true)⟩) (v := .int .i64 q) rfl (fun _ _ _ h => h) (by rfl) (by assumption) (fun wS hSw => ?_) ?_
          · (try dsimp only at hSw); subst hSw; go_simp <;> omega
          simp only [Act.put, List.setIfInBounds_toArray, List.set_cons_zero, List.set_cons_succ]
          refine wpAnyT_end ?_
          refine wpAnyH_listed #[true, true, true, true, true, true, true, true, true, true, true, true, true, true, true, true, true, true, true, true, true, true, true, true, true, true, true, true, true, false, false] (by kernel_rfl) ?_
          refine wpAnyT_begin [29] (by kernel_rfl) (by kernel_rfl) ?_
          refine wpAnyT_take (oi := ⟨some 35, Op.binOp BinOp.leq 3 (Operand.tmp 33) (Operand.tmp 34) 3, 4, _, _, some (14, true)⟩) (v := .bool false) rfl (fun _ _ _ h => h) (by rfl) (by assumption) (fun wS hSw => ?_) ?_
          · (try dsimp only at hSw); subst hSw; go_simp <;> omega
          simp only [Act.put, List.setIfInBounds_toArray, List.set_cons_zero, List.set_cons_succ]
          refine wpAnyT_end ?_
          refine wpAnyH_listed #[true, true, true, true, true, true, true, true, true, true, true, true, true, true, true, true, true, true, true, true, true, true, true, true, true, true, true, true, true, true, false] (by kernel_rfl) ?_
          refine wpAnyT_begin [30] (by kernel_rfl) (by kernel_rfl) ?_
          refine wpAnyT_take (oi := ⟨some 36, Op.pick (Operand.tmp 20) (Operand.tmp 35) (Operand.const (Value.bool false)), 4, _, _, none⟩) (v := .bool false) rfl (fun _ _ _ h => h) (by rfl) (by assumption) (fun wS hSw => ?_) ?_
          · (try dsimp only at hSw); subst hSw; go_simp <;> omega
          simp only [Act.put, List.setIfInBounds_toArray, List.set_cons_zero, List.set_cons_succ]
          refine wpAnyT_end ?_
          refine wpAnyH_listed #[true, true, true, true, true, true, true, true, true, true, true, true, true, true, true, true, true, true, true, true, true, true, true, true, true, true, true, true, true, true, true] (by kernel_rfl) ?_
          refine wpAnyH_done (by kernel_rfl) ?_ _
          clear hHeld
          go_wp2_with fail
          go_ret
          exact ⟨ret_i (by rw [hs.out]), C2.low⟩
    · obtain rfl : k = L := by omega
      have hs := Lib.hid (show doneN s es = k by rw [← hL] at hD ⊢; exact doneN_all hD.out)
      have g5 : ¬ (k : Int) < k := by omega
      clear hD
      go_wp2_with fail
      refine wp_region_held_drew (S := fun wz => wz = wr.drew) (by kernel_rfl) rfl (fun hHeld => ?_)
      have C2 := C.drew
      generalize wr.drew = w3 at *
      have k1 := C2.fact (.head _) (i := 1) rfl
      simp only at k1
      refine wpAnyT_begin [0, 1] (by kernel_rfl) (by kernel_rfl) ?_
      refine wpAnyT_take (oi := ⟨some 6, Op.move (Operand.tmp 5), 3, _, _, none⟩) (v := .int .i64 (k : Int)) rfl (fun _ _ _ h => h) (by rfl) (by assumption) (fun wS hSw => ?_) ?_
      · (try dsimp only at hSw); subst hSw; go_simp <;> omega
      simp only [Act.put, List.setIfInBounds_toArray, List.set_cons_zero, List.set_cons_succ]
      refine wpAnyT_take (oi := ⟨some 7, Op.fieldAddr 25 (Operand.tmp 2) 1, 0, _, _, none⟩) (v := .pointer (some ⟨w.heap.size, 1, none⟩)) rfl (fun _ _ _ h => h) (by rfl) (by assumption) (fun wS hSw => ?_) ?_
      · (try dsimp only at hSw); subst hSw; go_simp <;> omega
      simp only [Act.put, List.setIfInBounds_toArray, List.set_cons_zero, List.set_cons_succ]
      refine wpAnyT_end ?_
      refine wpAnyH_listed #[true, true, false, false, false, false, false, false, false, false, false, false, false, false, false, false, false, false, false, false, false, false, false, false, false, false, false, false, false, false, false] (by kernel_rfl) ?_
      refine wpAnyT_begin [2] (by kernel_rfl) (by kernel_rfl) ?_
      refine wpAnyT_take (oi := ⟨some 8, Op.load 23 (Operand.tmp 7), 23, _, _, none⟩) (v := .slice a k c) rfl (fun _ _ _ h => h) (by rfl) (by assumption) (fun wS hSw => ?_) ?_
      · (try dsimp only at hSw); subst hSw; go_simp <;> omega
      simp only [Act.put, List.setIfInBounds_toArray, List.set_cons_zero, List.set_cons_succ]
      refine wpAnyT_end ?_
      refine wpAnyH_listed #[true, true, true, false, false, false, false, false, false, false, false, false, false, false, false, false, false, false, false, false, false, false, false, false, false, false, false, false, false, false, false] (by kernel_rfl) ?_
      refine wpAnyT_begin [3] (by kernel_rfl) (by kernel_rfl) ?_
      refine wpAnyT_take (oi := ⟨some 9, Op.call { callee := Callee.builtin Builtin.len, args := #[Operand.tmp 8], argTypes := #[23] }, 3, _, _, none⟩) (v := .int .i64 (k : Int)) rfl (fun _ _ _ h => h) (by rfl) (by assumption) (fun wS hSw => ?_) ?_
      · (try dsimp only at hSw); subst hSw; go_simp <;> omega
      simp only [Act.put, List.setIfInBounds_toArray, List.set_cons_zero, List.set_cons_succ]
      refine wpAnyT_end ?_
      refine wpAnyH_listed #[true, true, true, true, false, false, false, false, false, false, false, false, false, false, false, false, false, false, false, false, false, false, false, false, false, false, false, false, false, false, false] (by kernel_rfl) ?_
      refine wpAnyT_begin [4] (by kernel_rfl) (by kernel_rfl) ?_
      refine wpAnyT_take (oi := ⟨some 10, Op.binOp BinOp.lss 3 (Operand.tmp 6) (Operand.tmp 9) 3, 4, _, _, none⟩) (v := .bool false) rfl (fun _ _ _ h => h) (by rfl) (by assumption) (fun wS hSw => ?_) ?_
      · (try dsimp only at hSw); subst hSw; go_simp <;> omega
      simp only [Act.put, List.setIfInBounds_toArray, List.set_cons_zero, List.set_cons_succ]
      refine wpAnyT_end ?_
      refine wpAnyH_listed #[true, true, true, true, true, false, false, false, false, false, false, false, false, false, false, false, false, false, false, false, false, false, false, false, false, false, false, false, false, false, false] (by kernel_rfl) ?_
      refine wpAnyT_begin [5] (by kernel_rfl) (by kernel_rfl) ?_
      refine wpAnyT_take (oi := ⟨some 11, Op.move (Operand.tmp 10), 4, _, _, none⟩) (v := .bool false) rfl (fun _ _ _ h => h) (by rfl) (by assumption) (fun wS hSw => ?_) ?_
      · (try dsimp only at hSw); subst hSw; go_simp <;> omega
      simp only [Act.put, List.setIfInBounds_toArray, List.set_cons_zero, List.set_cons_succ]
      refine wpAnyT_end ?_
      refine wpAnyH_listed #[true, true, true, true, true, true, false, false, false, false, false, false, false, false, false, false, false, false, false, false, false, false, false, false, false, false, false, false, false, false, false] (by kernel_rfl) ?_
      refine wpAnyT_begin [6, 8] (by kernel_rfl) (by kernel_rfl) ?_
      refine wpAnyT_skip (oi := ⟨some 12, Op.fieldAddr 25 (Operand.tmp 2) 1, 0, _, _, some (5, true)⟩) rfl (fun _ _ _ h => h) (by rfl) (by assumption) ?_
      simp only [Act.put, List.setIfInBounds_toArray, List.set_cons_zero, List.set_cons_succ]
      refine wpAnyT_skip (oi := ⟨some 14, Op.move (Operand.tmp 5), 3, _, _, some (5, true)⟩) rfl (fun _ _ _ h => h) (by rfl) (by assumption) ?_
      simp only [Act.put, List.setIfInBounds_toArray, List.set_cons_zero, List.set_cons_succ]
      refine wpAnyT_end ?_
      refine wpAnyH_listed #[true, true, true, true, true, true, true, false, true, false, false, false, false, false, false, false, false, false, false, false, false, false, false, false, false, false, false, false, false, false, false] (by kernel_rfl) ?_
      refine wpAnyT_begin [7] (by kernel_rfl) (by kernel_rfl) ?_
      refine wpAnyT_skip (oi := ⟨some 13, Op.load 23 (Operand.tmp 12), 23, _, _, some (5, true)⟩) rfl (fun _ _ _ h => h) (by rfl) (by assumption) ?_
      simp only [Act.put, List.setIfInBounds_toArray, List.set_cons_zero, List.set_cons_succ]
      refine wpAnyT_end ?_
      refine wpAnyH_listed #[true, true, true, true, true, true, true, true, true, false, false, false, false, false, false, false, false, false, false, false, false, false, false, false, false, false, false, false, false, false, false] (by kernel_rfl) ?_
      refine wpAnyT_begin [9] (by kernel_rfl) (by kernel_rfl) ?_
      refine wpAnyT_skip (oi := ⟨some 15, Op.indexAddr 23 (Operand.tmp 13) (Operand.tmp 14), 0, _, _, some (5, true)⟩) rfl (fun _ _ _ h => h) (by rfl) (by assumption) ?_
      simp only [Act.put, List.setIfInBounds_toArray, List.set_cons_zero, List.set_cons_succ]
      refine wpAnyT_end ?_
      refine wpAnyH_listed #[true, true, true, true, true, true, true, true, true, true, false, false, false, false, false, false, false, false, false, false, false, false, false, false, false, false, false, false, false, false, false] (by kernel_rfl) ?_
      refine wpAnyT_begin [10] (by kernel_rfl) (by kernel_rfl) ?_
      refine wpAnyT_skip (oi := ⟨some 16, Op.fieldAddr 30 (Operand.tmp 15) 1, 0, _, _, some (5, true)⟩) rfl (fun _ _ _ h => h) (by rfl) (by assumption) ?_
      simp only [Act.put, List.setIfInBounds_toArray, List.set_cons_zero, List.set_cons_succ]
      refine wpAnyT_end ?_
      refine wpAnyH_listed #[true, true, true, true, true, true, true, true, true, true, true, false, false, false, false, false, false, false, false, false, false, false, false, false, false, false, false, false, false, false, false] (by kernel_rfl) ?_
      refine wpAnyT_begin [11] (by kernel_rfl) (by kernel_rfl) ?_
      refine wpAnyT_skip (oi := ⟨some 17, Op.load 3 (Operand.tmp 16), 3, _, _, some (5, true)⟩) rfl (fun _ _ _ h => h) (by rfl) (by assumption) ?_
      simp only [Act.put, List.setIfInBounds_toArray, List.set_cons_zero, List.set_cons_succ]
      refine wpAnyT_end ?_
      refine wpAnyH_listed #[true, true, true, true, true, true, true, true, true, true, true, true, false, false, false, false, false, false, false, false, false, false, false, false, false, false, false, false, false, false, false] (by kernel_rfl) ?_
      refine wpAnyT_begin [12] (by kernel_rfl) (by kernel_rfl) ?_
      refine wpAnyT_skip (oi := ⟨some 18, Op.call { callee := Callee.value (Operand.func 30), args := #[Operand.tmp 17], argTypes := #[3] }, 4, _, _, some (5, true)⟩) rfl (fun _ _ _ h => h) (by rfl) (by assumption) ?_
      simp only [Act.put, List.setIfInBounds_toArray, List.set_cons_zero, List.set_cons_succ]
      refine wpAnyT_end ?_
      refine wpAnyH_listed #[true, true, true, true, true, true, true, true, true, true, true, true, true, false, false, false, false, false, false, false, false, false, false, false, false, false, false, false, false, false, false] (by kernel_rfl) ?_
      refine wpAnyT_begin [13] (by kernel_rfl) (by kernel_rfl) ?_
      refine wpAnyT_take (oi := ⟨some 19, Op.pick (Operand.tmp 11) (Operand.tmp 18) (Operand.const (Value.bool false)), 4, _, _, none⟩) (v := .bool false) rfl (fun _ _ _ h => h) (by rfl) (by assumption) (fun wS hSw => ?_) ?_
      · (try dsimp only at hSw); subst hSw; go_simp <;> omega
      simp only [Act.put, List.setIfInBounds_toArray, List.set_cons_zero, List.set_cons_succ]
      refine wpAnyT_end ?_
      refine wpAnyH_listed #[true, true, true, true, true, true, true, true, true, true, true, true, true, true, false, false, false, false, false, false, false, false, false, false, false, false, false, false, false, false, false] (by kernel_rfl) ?_
      refine wpAnyT_begin [14] (by kernel_rfl) (by kernel_rfl) ?_
      refine wpAnyT_take (oi := ⟨some 20, Op.move (Operand.tmp 19), 4, _, _, none⟩) (v := .bool false) rfl (fun _ _ _ h => h) (by rfl) (by assumption) (fun wS hSw => ?_) ?_
      · (try dsimp only at hSw); subst hSw; go_simp <;> omega
      simp only [Act.put, List.setIfInBounds_toArray, List.set_cons_zero, List.set_cons_succ]
      refine wpAnyT_end ?_
      refine wpAnyH_listed #[true, true, true, true, true, true, true, true, true, true, true, true, true, true, true, false, false, false, false, false, false, false, false, false, false, false, false, false, false, false, false] (by kernel_rfl) ?_
      refine wpAnyT_begin [15, 17, 21, 23, 28] (by kernel_rfl) (by kernel_rfl) ?_
      refine wpAnyT_skip (oi := ⟨some 21, Op.fieldAddr 25 (Operand.tmp 2) 1, 0, _, _, some (14, true)⟩) rfl (fun _ _ _ h => h) (by rfl) (by assumption) ?_
      simp only [Act.put, List.setIfInBounds_toArray, List.set_cons_zero, List.set_cons_succ]
      refine wpAnyT_skip (oi := ⟨some 23, Op.move (Operand.tmp 5), 3, _, _, some (14, true)⟩) rfl (fun _ _ _ h => h) (by rfl) (by assumption) ?_
      simp only [Act.put, List.setIfInBounds_toArray, List.set_cons_zero, List.set_cons_succ]
      refine wpAnyT_skip (oi := ⟨some 27, Op.fieldAddr 25 (Operand.tmp 2) 1, 0, _, _, some (14, true)⟩) rfl (fun _ _ _ h => h) (by rfl) (by assumption) ?_
      simp only [Act.put, List.setIfInBounds_toArray, List.set_cons_zero, List.set_cons_succ]
      refine wpAnyT_skip (oi := ⟨some 29, Op.move (Operand.tmp 5), 3, _, _, some (14, true)⟩) rfl (fun _ _ _ h => h) (by rfl) (by assumption) ?_
      simp only [Act.put, List.setIfInBounds_toArray, List.set_cons_zero, List.set_cons_succ]
      refine wpAnyT_skip (oi := ⟨some 34, Op.move (Operand.tmp 1), 3, _, _, some (14, true)⟩) rfl (fun _ _ _ h => h) (by rfl) (by assumption) ?_
      simp only [Act.put, List.setIfInBounds_toArray, List.set_cons_zero, List.set_cons_succ]
      refine wpAnyT_end ?_
      refine wpAnyH_listed #[true, true, true, true, true, true, true, true, true, true, true, true, true, true, true, true, false, true, false, false, false, true, false, true, false, false, false, false, true, false, false] (by kernel_rfl) ?_
      refine wpAnyT_begin [16, 22] (by kernel_rfl) (by kernel_rfl) ?_
      refine wpAnyT_skip (oi := ⟨some 22, Op.load 23 (Operand.tmp 21), 23, _, _, some (14, true)⟩) rfl (fun _ _ _ h => h) (by rfl) (by assumption) ?_
      simp only [Act.put, List.setIfInBounds_toArray, List.set_cons_zero, List.set_cons_succ]
      refine wpAnyT_skip (oi := ⟨some 28, Op.load 23 (Operand.tmp 27), 23, _, _, some (14, true)⟩) rfl (fun _ _ _ h => h) (by rfl) (by assumption) ?_
      simp only [Act.put, List.setIfInBounds_toArray, List.set_cons_zero, List.set_cons_succ]
      refine wpAnyT_end ?_
      refine wpAnyH_listed #[true, true, true, true, true, true, true, true, true, true, true, true, true, true, true, true, true, true, false, false, false, true, true, true, false, false, false, false, true, false, false] (by kernel_rfl) ?_
      refine wpAnyT_begin [18, 24] (by kernel_rfl) (by kernel_rfl) ?_
      refine wpAnyT_skip (oi := ⟨some 24, Op.indexAddr 23 (Operand.tmp 22) (Operand.tmp 23), 0, _, _, some (14, true)⟩) rfl (fun _ _ _ h => h) (by rfl) (by assumption) ?_
      simp only [Act.put, List.setIfInBounds_toArray, List.set_cons_zero, List.set_cons_succ]
      refine wpAnyT_skip (oi := ⟨some 30, Op.indexAddr 23 (Operand.tmp 28) (Operand.tmp 29), 0, _, _, some (14, true)⟩) rfl (fun _ _ _ h => h) (by rfl) (by assumption) ?_
      simp only [Act.put, List.setIfInBounds_toArray, List.set_cons_zero, List.set_cons_succ]
      refine wpAnyT_end ?_
      refine wpAnyH_listed #[true, true, true, true, true, true, true, true, true, true, true, true, true, true, true, true, true, true, true, false, false, true, true, true, true, false, false, false, true, false, false] (by kernel_rfl) ?_
      refine wpAnyT_begin [19, 25] (by kernel_rfl) (by kernel_rfl) ?_
      refine wpAnyT_skip (oi := ⟨some 25, Op.fieldAddr 30 (Operand.tmp 24) 1, 0, _, _, some (14, true)⟩) rfl (fun _ _ _ h => h) (by rfl) (by assumption) ?_
      simp only [Act.put, List.setIfInBounds_toArray, List.set_cons_zero, List.set_cons_succ]
      refine wpAnyT_skip (oi := ⟨some 31, Op.fieldAddr 30 (Operand.tmp 30) 1, 0, _, _, some (14, true)⟩) rfl (fun _ _ _ h => h) (by rfl) (by assumption) ?_
      simp only [Act.put, List.setIfInBounds_toArray, List.set_cons_zero, List.set_cons_succ]
      refine wpAnyT_end ?_
      refine wpAnyH_listed #[true, true, true, true, true, true, true, true, true, true, true, true, true, true, true, true, true, true, true, true, false, true, true, true, true, true, false, false, true, false, false] (by kernel_rfl) ?_
      refine wpAnyT_begin [20, 26] (by kernel_rfl) (by kernel_rfl) ?_
      refine wpAnyT_skip (oi := ⟨some 26, Op.load 3 (Operand.tmp 25), 3, _, _, some (14, true)⟩) rfl (fun _ _ _ h => h) (by rfl) (by assumption) ?_
      simp only [Act.put, List.setIfInBounds_toArray, List.set_cons_zero, List.set_cons_succ]
      refine wpAnyT_skip (oi := ⟨some 32, Op.load 3 (Operand.tmp 31), 3, _, _, some (14, true)⟩) rfl (fun _ _ _ h => h) (by rfl) (by assumption) ?_
      simp only [Act.put, List.setIfInBounds_toArray, List.set_cons_zero, List.set_cons_succ]
      refine wpAnyT_end ?_
      refine wpAnyH_listed #[true, true, true, true, true, true, true, true, true, true, true, true, true, true, true, true, true, true, true, true, true, true, true, true, true, true, true, false, true, false, false] (by kernel_rfl) ?_
      refine wpAnyT_begin [27] (by kernel_rfl) (by kernel_rfl) ?_
      refine wpAnyT_skip (oi := ⟨some 33, Op.binOp BinOp.mul 3 (Operand.tmp 26) (Operand.tmp 32) 3, 3, _, _, some (14, true)⟩) rfl (fun _ _ _ h => h) (by rfl) (by assumption) ?_
      simp only [Act.put, List.setIfInBounds_toArray, List.set_cons_zero, List.set_cons_succ]
      refine wpAnyT_end ?_
      refine wpAnyH_listed #[true, true, true, true, true, true, true, true, true, true, true, true, true, true, true, true, true, true, true, true, true, true, true, true, true, true, true, true, true, false, false] (by kernel_rfl) ?_
      refine wpAnyT_begin [29] (by kernel_rfl) (by kernel_rfl) ?_
      refine wpAnyT_skip (oi := ⟨some 35, Op.binOp BinOp.leq 3 (Operand.tmp 33) (Operand.tmp 34) 3, 4, _, _, some (14, true)⟩) rfl (fun _ _ _ h => h) (by rfl) (by assumption) ?_
      simp only [Act.put, List.setIfInBounds_toArray, List.set_cons_zero, List.set_cons_succ]
      refine wpAnyT_end ?_
      refine wpAnyH_listed #[true, true, true, true, true, true, true, true, true, true, true, true, true, true, true, true, true, true, true, true, true, true, true, true, true, true, true, true, true, true, false] (by kernel_rfl) ?_
      refine wpAnyT_begin [30] (by kernel_rfl) (by kernel_rfl) ?_
      refine wpAnyT_take (oi := ⟨some 36, Op.pick (Operand.tmp 20) (Operand.tmp 35) (Operand.const (Value.bool false)), 4, _, _, none⟩) (v := .bool false) rfl (fun _ _ _ h => h) (by rfl) (by assumption) (fun wS hSw => ?_) ?_
      · (try dsimp only at hSw); subst hSw; go_simp <;> omega
      simp only [Act.put, List.setIfInBounds_toArray, List.set_cons_zero, List.set_cons_succ]
      refine wpAnyT_end ?_
      refine wpAnyH_listed #[true, true, true, true, true, true, true, true, true, true, true, true, true, true, true, true, true, true, true, true, true, true, true, true, true, true, true, true, true, true, true] (by kernel_rfl) ?_
      refine wpAnyH_done (by kernel_rfl) ?_ _
      clear hHeld
      go_wp2_with fail
      go_ret
      exact ⟨ret_i (by rw [hs.out]), C2.low⟩
end Go.Proofs.Ytfcoblapbcdaiaa
