/- span.Check, and that of its reference. -/
import Derived.Test.YtfcoblapbcdaiaaE3
namespace Go.Proofs.Ytfcoblapbcdaiaa
open Go.RowKit Go.Lib
attribute [local go_sem] Oper.semAt_some
/-- Whether the At is not greater than the one before. -/
def badO : Option Int → Int → Bool
  | none, _ => false
  | some p, a => decide (a ≤ p)
def chkF : Option Int → List Ev → Int
  | _, [] => 0
  | p, e :: es => if e.at_ < 1 ∨ 1024 < e.at_ then 3 else if badO p e.at_ = true then 21 else chkF (some e.at_) es
def chkE (es : List Ev) : Int := if 200 < es.length then 2 else chkF none es
/-- The At before the k-th. -/
def pvE (es : List Ev) (k : Nat) : Option Int := if k = 0 then none else some (atE es (k - 1))
theorem chk_step {es : List Ev} {k : Nat} (h : k < es.length) : chkF (pvE es k) (es.drop k) = if atE es k < 1 ∨ 1024 < atE es k then 3 else if badO (pvE es k) (atE es k) = true then 21 else chkF (pvE es (k + 1)) (es.drop (k + 1)) := by
  rw [List.drop_eq_getElem_cons h, chkF]
  have e1 : atE es k = es[k].at_ := atE_of (List.getElem?_eq_getElem h)
  rw [e1]
  unfold pvE
  rw [if_neg (show ¬ k + 1 = 0 by omega), Nat.add_sub_cancel, e1]
theorem chk_end (es : List Ev) : chkF (pvE es es.length) (es.drop es.length) = 0 := by rw [List.drop_length]; rfl
theorem pvE_succ (es : List Ev) (k : Nat) : pvE es (k + 1) = some (atE es k) := rfl

set_option linter.unusedSimpArgs false in
set_option maxRecDepth 100000 in
set_option maxHeartbeats 8000000 in
theorem check_any (d : Int) (sl : Value) (es : List Ev) (w : World) (hv : Row tE w sl es) :
    Calls Try.prog 11 #[.agg #[.int .i64 d, sl]] w fun e w' => e = .returned (.int .i64 (chkE es)) ∧ Below w.heap.size w w' := by
  have C := has1 (w := w) [.int .i64 d, sl] 25
  change Has w _ (w.alloc (.cells #[.int .i64 d, sl] 25)) at C
  obtain ⟨a, L, c, rfl, hL, hc1, hc2, R⟩ := hv.form
  have HR := Lib.hid R
  clear hv R
  by_cases hbig : 200 < L
  · have hr := Lib.hid (show chkE es = 2 by unfold chkE; rw [if_pos (by omega)])
    have hb : (200 : Int) < L := by omega
    go_enter Try.func11, Try.ntmps11
    go_wp2_with fail
    generalize w.alloc (.cells #[.int .i64 d, .slice a L c] 25) = w1 at *
    have k1 := C.fact (.head _) (i := 1) rfl
    simp only at k1
    go_wp2_with fail
    go_ret
    exact ⟨ret_i hr.out.symm, C.low⟩
  · have hr := Lib.hid (show chkE es = chkF (pvE es 0) (es.drop 0) by unfold chkE; rw [if_neg (by omega)]; rfl)
    have hb : ¬ (200 : Int) < L := by omega
    have hb2 : ¬ (L : Int) > 200 := by omega
    go_enter Try.func11, Try.ntmps11
    go_wp2_with fail
    generalize w.alloc (.cells #[.int .i64 d, .slice a L c] 25) = w1 at *
    have k1 := C.fact (.head _) (i := 1) rfl
    simp only at k1
    go_wp2_with fail
    clear k1
    go_loopw [12, 3] (fun i j wr => ∃ k : Nat, k ≤ L ∧ i = .int .i64 k ∧ Has w [(w.heap.size, [.int .i64 d, .slice a L c])] wr ∧ Hid (chkE es = chkF (pvE es k) (es.drop k))) (fun i _ _ => L - (RowKit.intOf i).toNat)
    case atStart => exact ⟨0, Nat.zero_le _, rfl, C, hr⟩
    case round =>
      clear hr C
      obtain ⟨k, hk, rfl, C, hr⟩ := hrel
      by_cases hlt : k < L
      · obtain ⟨b, o, ki, id, ot, nn, rfl, hx, c0, c1, c2, c3, c4⟩ := (HR.out.later C.low).ev (k := k) (by omega)
        clear hx
        have g5 : (k : Int) < L := by omega
        have hst := chk_step (es := es) (k := k) (by omega)
        obtain ⟨at1, hat⟩ : ∃ x, atE es k = x := ⟨_, rfl⟩
        have Hat := Lib.hid hat
        rw [hat] at hst c1
        clear hat
        have C1 := C.push [.int .i64 ki, .int .i64 at1, .int .i64 id, .int .i64 ot, .int .i64 nn] 30
        change Has w _ (wr.alloc (.cells #[.int .i64 ki, .int .i64 at1, .int .i64 id, .int .i64 ot, .int .i64 nn] 30)) at C1
        by_cases h1 : at1 < 1
        · rw [if_pos (.inl h1)] at hst
          have hs := Lib.hid (hr.out.trans hst)
          clear hst hr
          go_wp2_with fail
          generalize wr.alloc (.cells #[.int .i64 ki, .int .i64 at1, .int .i64 id, .int .i64 ot, .int .i64 nn] 30) = w2 at *
          generalize wr.heap.size = G at *
          have k1 := C1.fact (.head _) (i := 1) rfl
          simp only at k1
          go_wp2_with fail
          go_ret
          exact ⟨ret_i hs.out.symm, C1.low⟩
        · by_cases h2 : 1024 < at1
          · rw [if_pos (.inr h2)] at hst
            have hs := Lib.hid (hr.out.trans hst)
            have h2' : at1 > 1024 := h2
            clear hst hr
            go_wp2_with fail
            generalize wr.alloc (.cells #[.int .i64 ki, .int .i64 at1, .int .i64 id, .int .i64 ot, .int .i64 nn] 30) = w2 at *
            generalize wr.heap.size = G at *
            have k1 := C1.fact (.head _) (i := 1) rfl
            simp only at k1
            go_wp2_with fail
            go_ret
            exact ⟨ret_i hs.out.symm, C1.low⟩
          · rw [if_neg (by omega)] at hst
            have ksum : IntKind.i64.wrap ((k : Int) + 1) = ((k + 1 : Nat) : Int) := by rw [IntWalk.i64_in _ (by omega)]; rfl
            rcases Nat.eq_zero_or_pos k with hz | hz
            · have hs := Lib.hid (hr.out.trans (hst.trans (if_neg (by subst hz; unfold pvE badO; simp))))
              have g7 : ¬ (k : Int) > 0 := by omega
              clear hst hr hz
              go_wp2_with fail
              generalize wr.alloc (.cells #[.int .i64 ki, .int .i64 at1, .int .i64 id, .int .i64 ot, .int .i64 nn] 30) = w2 at *
              generalize wr.heap.size = G at *
              have k1 := C1.fact (.head _) (i := 1) rfl
              simp only at k1
              go_wp2_with fail
              refine wp_region_held_drew (S := fun wz => wz = w2.drew) (by kernel_rfl) rfl (fun hHeld => ?_)
              have C2 := C1.drew
              generalize w2.drew = w3 at *
              refine wpAnyT_begin [0] (by kernel_rfl) (by kernel_rfl) ?_
              refine wpAnyT_take (oi := ⟨some 27, Op.move (Operand.tmp 3), 3, _, _, none⟩) (v := .int .i64 (k : Int)) rfl (fun _ _ _ h => h) (by rfl) (by assumption) (fun wS hSw => ?_) ?_
              · (try dsimp only at hSw); subst hSw; go_simp <;> omega
              simp only [Act.put, List.setIfInBounds_toArray, List.set_cons_zero, List.set_cons_succ]
              refine wpAnyT_end ?_
              refine wpAnyH_listed #[true, false, false, false, false, false, false, false, false, false, false, false, false, false, false] (by kernel_rfl) ?_
              refine wpAnyT_begin [1] (by kernel_rfl) (by kernel_rfl) ?_
              refine wpAnyT_take (oi := ⟨some 28, Op.binOp BinOp.gtr 3 (Operand.tmp 27) (Operand.const (Value.int IntKind.i64 0)) 3, 4, _, _, none⟩) (v := .bool false) rfl (fun _ _ _ h => h) (by rfl) (by assumption) (fun wS hSw => ?_) ?_
              · (try dsimp only at hSw); subst hSw; go_simp <;> omega
              simp only [Act.put, List.setIfInBounds_toArray, List.set_cons_zero, List.set_cons_succ]
              refine wpAnyT_end ?_
              refine wpAnyH_listed #[true, true, false, false, false, false, false, false, false, false, false, false, false, false, false] (by kernel_rfl) ?_
              refine wpAnyT_begin [2] (by kernel_rfl) (by kernel_rfl) ?_
              refine wpAnyT_take (oi := ⟨some 29, Op.move (Operand.tmp 28), 4, _, _, none⟩) (v := .bool false) rfl (fun _ _ _ h => h) (by rfl) (by assumption) (fun wS hSw => ?_) ?_
              · (try dsimp only at hSw); subst hSw; go_simp <;> omega
              simp only [Act.put, List.setIfInBounds_toArray, List.set_cons_zero, List.set_cons_succ]
              refine wpAnyT_end ?_
              refine wpAnyH_listed #[true, true, true, false, false, false, false, false, false, false, false, false, false, false, false] (by kernel_rfl) ?_
              refine wpAnyT_begin [3, 5, 7] (by kernel_rfl) (by kernel_rfl) ?_
              refine wpAnyT_skip (oi := ⟨some 30, Op.fieldAddr 30 (Operand.tmp 4) 1, 0, _, _, some (2, true)⟩) rfl (fun _ _ _ h => h) (by rfl) (by assumption) ?_
              simp only [Act.put, List.setIfInBounds_toArray, List.set_cons_zero, List.set_cons_succ]
              refine wpAnyT_skip (oi := ⟨some 32, Op.fieldAddr 25 (Operand.tmp 1) 1, 0, _, _, some (2, true)⟩) rfl (fun _ _ _ h => h) (by rfl) (by assumption) ?_
              simp only [Act.put, List.setIfInBounds_toArray, List.set_cons_zero, List.set_cons_succ]
              refine wpAnyT_skip (oi := ⟨some 34, Op.move (Operand.tmp 3), 3, _, _, some (2, true)⟩) rfl (fun _ _ _ h => h) (by rfl) (by assumption) ?_
              simp only [Act.put, List.setIfInBounds_toArray, List.set_cons_zero, List.set_cons_succ]
              refine wpAnyT_end ?_
              refine wpAnyH_listed #[true, true, true, true, false, true, false, true, false, false, false, false, false, false, false] (by kernel_rfl) ?_
              refine wpAnyT_begin [4, 6, 8] (by kernel_rfl) (by kernel_rfl) ?_
              refine wpAnyT_skip (oi := ⟨some 31, Op.load 3 (Operand.tmp 30), 3, _, _, some (2, true)⟩) rfl (fun _ _ _ h => h) (by rfl) (by assumption) ?_
              simp only [Act.put, List.setIfInBounds_toArray, List.set_cons_zero, List.set_cons_succ]
              refine wpAnyT_skip (oi := ⟨some 33, Op.load 23 (Operand.tmp 32), 23, _, _, some (2, true)⟩) rfl (fun _ _ _ h => h) (by rfl) (by assumption) ?_
              simp only [Act.put, List.setIfInBounds_toArray, List.set_cons_zero, List.set_cons_succ]
              refine wpAnyT_skip (oi := ⟨some 35, Op.binOp BinOp.sub 3 (Operand.tmp 34) (Operand.const (Value.int IntKind.i64 1)) 3, 3, _, _, some (2, true)⟩) rfl (fun _ _ _ h => h) (by rfl) (by assumption) ?_
              simp only [Act.put, List.setIfInBounds_toArray, List.set_cons_zero, List.set_cons_succ]
              refine wpAnyT_end ?_
              refine wpAnyH_listed #[true, true, true, true, true, true, true, true, true, false, false, false, false, false, false] (by kernel_rfl) ?_
              refine wpAnyT_begin [9] (by kernel_rfl) (by kernel_rfl) ?_
              refine wpAnyT_skip (oi := ⟨some 36, Op.indexAddr 23 (Operand.tmp 33) (Operand.tmp 35), 0, _, _, some (2, true)⟩) rfl (fun _ _ _ h => h) (by rfl) (by assumption) ?_
              simp only [Act.put, List.setIfInBounds_toArray, List.set_cons_zero, List.set_cons_succ]
              refine wpAnyT_end ?_
              refine wpAnyH_listed #[true, true, true, true, true, true, true, true, true, true, false, false, false, false, false] (by kernel_rfl) ?_
              refine wpAnyT_begin [10] (by kernel_rfl) (by kernel_rfl) ?_
              refine wpAnyT_skip (oi := ⟨some 37, Op.fieldAddr 30 (Operand.tmp 36) 1, 0, _, _, some (2, true)⟩) rfl (fun _ _ _ h => h) (by rfl) (by assumption) ?_
              simp only [Act.put, List.setIfInBounds_toArray, List.set_cons_zero, List.set_cons_succ]
              refine wpAnyT_end ?_
              refine wpAnyH_listed #[true, true, true, true, true, true, true, true, true, true, true, false, false, false, false] (by kernel_rfl) ?_
              refine wpAnyT_begin [11] (by kernel_rfl) (by kernel_rfl) ?_
              refine wpAnyT_skip (oi := ⟨some 38, Op.load 3 (Operand.tmp 37), 3, _, _, some (2, true)⟩) rfl (fun _ _ _ h => h) (by rfl) (by assumption) ?_
              simp only [Act.put, List.setIfInBounds_toArray, List.set_cons_zero, List.set_cons_succ]
              refine wpAnyT_end ?_
              refine wpAnyH_listed #[true, true, true, true, true, true, true, true, true, true, true, true, false, false, false] (by kernel_rfl) ?_
              refine wpAnyT_begin [12] (by kernel_rfl) (by kernel_rfl) ?_
              refine wpAnyT_skip (oi := ⟨some 39, Op.binOp BinOp.leq 3 (Operand.tmp 31) (Operand.tmp 38) 3, 4, _, _, some (2, true)⟩) rfl (fun _ _ _ h => h) (by rfl) (by assumption) ?_
              simp only [Act.put, List.setIfInBounds_toArray, List.set_cons_zero, List.set_cons_succ]
              refine wpAnyT_end ?_
              refine wpAnyH_listed #[true, true, true, true, true, true, true, true, true, true, true, true, true, false, false] (by kernel_rfl) ?_
              refine wpAnyT_begin [13] (by kernel_rfl) (by kernel_rfl) ?_
              refine wpAnyT_take (oi := ⟨some 40, Op.pick (Operand.tmp 29) (Operand.tmp 39) (Operand.const (Value.bool false)), 4, _, _, none⟩) (v := .bool false) rfl (fun _ _ _ h => h) (by rfl) (by assumption) (fun wS hSw => ?_) ?_
              · (try dsimp only at hSw); subst hSw; go_simp <;> omega
              simp only [Act.put, List.setIfInBounds_toArray, List.set_cons_zero, List.set_cons_succ]
              refine wpAnyT_end ?_
              refine wpAnyH_listed #[true, true, true, true, true, true, true, true, true, true, true, true, true, true, false] (by kernel_rfl) ?_
              refine wpAnyT_begin [14] (by kernel_rfl) (by kernel_rfl) ?_
              refine wpAnyT_take (oi := ⟨some 26, Op.assign (Operand.tmp 40), 4, _, _, none⟩) (v := .bool false) rfl (fun _ _ _ h => h) (by rfl) (by assumption) (fun wS hSw => ?_) ?_
              · (try dsimp only at hSw); subst hSw; go_simp <;> omega
              simp only [Act.put, List.setIfInBounds_toArray, List.set_cons_zero, List.set_cons_succ]
              refine wpAnyT_end ?_
              refine wpAnyH_listed #[true, true, true, true, true, true, true, true, true, true, true, true, true, true, true] (by kernel_rfl) ?_
              refine wpAnyH_done (by kernel_rfl) ?_ _
              clear hHeld
              go_wp2_with fail
              go_roundw
              case rel => exact ⟨k + 1, by omega, by go_num, C2.tail, hs⟩
              case measure => simp [RowKit.intOf]; omega
            · obtain ⟨m, hm⟩ : ∃ m : Nat, k = m + 1 := ⟨k - 1, by omega⟩
              obtain ⟨p, hp⟩ : ∃ p, atE es m = p := ⟨_, rfl⟩
              have hbad : badO (pvE es k) at1 = decide (at1 ≤ p) := by rw [hm, pvE_succ, hp]; rfl
              rw [hbad] at hst
              have g7 : (k : Int) > 0 := by omega
              have q1 : (k : Int) - 1 = (m : Int) := by omega
              have q2 : (m : Int) < L := by omega
              have q3 : IntKind.i64.wrap (m : Int) = (m : Int) := by rw [IntKind.wrap_i64]; omega
              have Hm := Lib.hid hm
              have Hp := Lib.hid hp
              clear hz hm hp hbad
              by_cases h3 : at1 ≤ p
              · have hs := Lib.hid (hr.out.trans (hst.trans (if_pos (decide_eq_true h3))))
                clear hst hr
                go_wp2_with fail
                generalize wr.alloc (.cells #[.int .i64 ki, .int .i64 at1, .int .i64 id, .int .i64 ot, .int .i64 nn] 30) = w2 at *
                generalize wr.heap.size = G at *
                have k1 := C1.fact (.head _) (i := 1) rfl
                simp only at k1
                go_wp2_with fail
                refine wp_region_held_drew (S := fun wz => wz = w2.drew) (by kernel_rfl) rfl (fun hHeld => ?_)
                have C2 := C1.drew
                generalize w2.drew = w3 at *
                have k1 := C2.fact (.head _) (i := 1) rfl
                have k2 := C2.tail.fact (.head _) (i := 1) rfl
                simp only at k1 k2
                obtain ⟨b', o', ki', id', ot', nn', hbb, hxx, e0, e1, e2, e3, e4⟩ := (HR.out.later C2.low).ev (k := m) (by have := Hm.out; omega)
                cases hbb
                rw [Hp.out] at e1
                clear hxx c0 c1 c2 c3 c4
                refine wpAnyT_begin [0] (by kernel_rfl) (by kernel_rfl) ?_
                refine wpAnyT_take (oi := ⟨some 27, Op.move (Operand.tmp 3), 3, _, _, none⟩) (v := .int .i64 (k : Int)) rfl (fun _ _ _ h => h) (by rfl) (by assumption) (fun wS hSw => ?_) ?_
                · (try dsimp only at hSw); subst hSw; go_simp <;> omega
                simp only [Act.put, List.setIfInBounds_toArray, List.set_cons_zero, List.set_cons_succ]
                refine wpAnyT_end ?_
                refine wpAnyH_listed #[true, false, false, false, false, false, false, false, false, false, false, false, false, false, false] (by kernel_rfl) ?_
                refine wpAnyT_begin [1] (by kernel_rfl) (by kernel_rfl) ?_
                refine wpAnyT_take (oi := ⟨some 28, Op.binOp BinOp.gtr 3 (Operand.tmp 27) (Operand.const (Value.int IntKind.i64 0)) 3, 4, _, _, none⟩) (v := .bool true) rfl (fun _ _ _ h => h) (by rfl) (by assumption) (fun wS hSw => ?_) ?_
                · (try dsimp only at hSw); subst hSw; go_simp <;> omega
                simp only [Act.put, List.setIfInBounds_toArray, List.set_cons_zero, List.set_cons_succ]
                refine wpAnyT_end ?_
                refine wpAnyH_listed #[true, true, false, false, false, false, false, false, false, false, false, false, false, false, false] (by kernel_rfl) ?_
                refine wpAnyT_begin [2] (by kernel_rfl) (by kernel_rfl) ?_
                refine wpAnyT_take (oi := ⟨some 29, Op.move (Operand.tmp 28), 4, _, _, none⟩) (v := .bool true) rfl (fun _ _ _ h => h) (by rfl) (by assumption) (fun wS hSw => ?_) ?_
                · (try dsimp only at hSw); subst hSw; go_simp <;> omega
                simp only [Act.put, List.setIfInBounds_toArray, List.set_cons_zero, List.set_cons_succ]
                refine wpAnyT_end ?_
                refine wpAnyH_listed #[true, true, true, false, false, false, false, false, false, false, false, false, false, false, false] (by kernel_rfl) ?_
                refine wpAnyT_begin [3, 5, 7] (by kernel_rfl) (by kernel_rfl) ?_
                refine wpAnyT_take (oi := ⟨some 30, Op.fieldAddr 30 (Operand.tmp 4) 1, 0, _, _, some (2, true)⟩) (v := .pointer (some ⟨G, 1, none⟩)) rfl (fun _ _ _ h => h) (by rfl) (by assumption) (fun wS hSw => ?_) ?_
                · (try dsimp only at hSw); subst hSw; go_simp <;> omega
                simp only [Act.put, List.setIfInBounds_toArray, List.set_cons_zero, List.set_cons_succ]
                refine wpAnyT_take (oi := ⟨some 32, Op.fieldAddr 25 (Operand.tmp 1) 1, 0, _, _, some (2, true)⟩) (v := .pointer (some ⟨w.heap.size, 1, none⟩)) rfl (fun _ _ _ h => h) (by rfl) (by assumption) (fun wS hSw => ?_) ?_
                · (try dsimp only at hSw); subst hSw; go_simp <;> omega
                simp only [Act.put, List.setIfInBounds_toArray, List.set_cons_zero, List.set_cons_succ]
                refine wpAnyT_take (oi := ⟨some 34, Op.move (Operand.tmp 3), 3, _, _, some (2, true)⟩) (v := .int .i64 (k : Int)) rfl (fun _ _ _ h => h) (by rfl) (by assumption) (fun wS hSw => ?_) ?_
                · (try dsimp only at hSw); subst hSw; go_simp <;> omega
                simp only [Act.put, List.setIfInBounds_toArray, List.set_cons_zero, List.set_cons_succ]
                refine wpAnyT_end ?_
                refine wpAnyH_listed #[true, true, true, true, false, true, false, true, false, false, false, false, false, false, false] (by kernel_rfl) ?_
                refine wpAnyT_begin [4, 6, 8] (by kernel_rfl) (by kernel_rfl) ?_
                refine wpAnyT_take (oi := ⟨some 31, Op.load 3 (Operand.tmp 30), 3, _, _, some (2, true)⟩) (v := .int .i64 at1) rfl (fun _ _ _ h => h) (by rfl) (by assumption) (fun wS hSw => ?_) ?_
                · (try dsimp only at hSw); subst hSw; go_simp <;> omega
                simp only [Act.put, List.setIfInBounds_toArray, List.set_cons_zero, List.set_cons_succ]
                refine wpAnyT_take (oi := ⟨some 33, Op.load 23 (Operand.tmp 32), 23, _, _, some (2, true)⟩) (v := .slice (some ⟨b, o, none⟩) L c) rfl (fun _ _ _ h => h) (by rfl) (by assumption) (fun wS hSw => ?_) ?_
                · (try dsimp only at hSw); subst hSw; go_simp <;> omega
                simp only [Act.put, List.setIfInBounds_toArray, List.set_cons_zero, List.set_cons_succ]
                refine wpAnyT_take (oi := ⟨some 35, Op.binOp BinOp.sub 3 (Operand.tmp 34) (Operand.const (Value.int IntKind.i64 1)) 3, 3, _, _, some (2, true)⟩) (v := .int .i64 (m : Int)) rfl (fun _ _ _ h => h) (by rfl) (by assumption) (fun wS hSw => ?_) ?_
                · (try dsimp only at hSw); subst hSw; go_simp <;> omega
                simp only [Act.put, List.setIfInBounds_toArray, List.set_cons_zero, List.set_cons_succ]
                refine wpAnyT_end ?_
                refine wpAnyH_listed #[true, true, true, true, true, true, true, true, true, false, false, false, false, false, false] (by kernel_rfl) ?_
                refine wpAnyT_begin [9] (by kernel_rfl) (by kernel_rfl) ?_
                refine wpAnyT_take (oi := ⟨some 36, Op.indexAddr 23 (Operand.tmp 33) (Operand.tmp 35), 0, _, _, some (2, true)⟩) (v := .pointer (some ⟨b, o + m * 5, none⟩)) rfl (fun _ _ _ h => h) (by rfl) (by assumption) (fun wS hSw => ?_) ?_
                · (try dsimp only at hSw); subst hSw; go_simp <;> omega
                simp only [Act.put, List.setIfInBounds_toArray, List.set_cons_zero, List.set_cons_succ]
                refine wpAnyT_end ?_
                refine wpAnyH_listed #[true, true, true, true, true, true, true, true, true, true, false, false, false, false, false] (by kernel_rfl) ?_
                refine wpAnyT_begin [10] (by kernel_rfl) (by kernel_rfl) ?_
                refine wpAnyT_take (oi := ⟨some 37, Op.fieldAddr 30 (Operand.tmp 36) 1, 0, _, _, some (2, true)⟩) (v := .pointer (some ⟨b, o + m * 5 + 1, none⟩)) rfl (fun _ _ _ h => h) (by rfl) (by assumption) (fun wS hSw => ?_) ?_
                · (try dsimp only at hSw); subst hSw; go_simp <;> omega
                simp only [Act.put, List.setIfInBounds_toArray, List.set_cons_zero, List.set_cons_succ]
                refine wpAnyT_end ?_
                refine wpAnyH_listed #[true, true, true, true, true, true, true, true, true, true, true, false, false, false, false] (by kernel_rfl) ?_
                refine wpAnyT_begin [11] (by kernel_rfl) (by kernel_rfl) ?_
                refine wpAnyT_take (oi := ⟨some 38, Op.load 3 (Operand.tmp 37), 3, _, _, some (2, true)⟩) (v := .int .i64 p) rfl (fun _ _ _ h => h) (by rfl) (by assumption) (fun wS hSw => ?_) ?_
                · (try dsimp only at hSw); subst hSw; go_simp <;> omega
                simp only [Act.put, List.setIfInBounds_toArray, List.set_cons_zero, List.set_cons_succ]
                refine wpAnyT_end ?_
                refine wpAnyH_listed #[true, true, true, true, true, true, true, true, true, true, true, true, false, false, false] (by kernel_rfl) ?_
                refine wpAnyT_begin [12] (by kernel_rfl) (by kernel_rfl) ?_
                refine wpAnyT_take (oi := ⟨some 39, Op.binOp BinOp.leq 3 (Operand.tmp 31) (Operand.tmp 38) 3, 4, _, _, some (2, true)⟩) (v := .bool true) rfl (fun _ _ _ h => h) (by rfl) (by assumption) (fun wS hSw => ?_) ?_
                · (try dsimp only at hSw); subst hSw; go_simp <;> omega
                simp only [Act.put, List.setIfInBounds_toArray, List.set_cons_zero, List.set_cons_succ]
                refine wpAnyT_end ?_
                refine wpAnyH_listed #[true, true, true, true, true, true, true, true, true, true, true, true, true, false, false] (by kernel_rfl) ?_
                refine wpAnyT_begin [13] (by kernel_rfl) (by kernel_rfl) ?_
                refine wpAnyT_take (oi := ⟨some 40, Op.pick (Operand.tmp 29) (Operand.tmp 39) (Operand.const (Value.bool false)), 4, _, _, none⟩) (v := .bool true) rfl (fun _ _ _ h => h) (by rfl) (by assumption) (fun wS hSw => ?_) ?_
                · (try dsimp only at hSw); subst hSw; go_simp <;> omega
                simp only [Act.put, List.setIfInBounds_toArray, List.set_cons_zero, List.set_cons_succ]
                refine wpAnyT_end ?_
                refine wpAnyH_listed #[true, true, true, true, true, true, true, true, true, true, true, true, true, true, false] (by kernel_rfl) ?_
                refine wpAnyT_begin [14] (by kernel_rfl) (by kernel_rfl) ?_
                refine wpAnyT_take (oi := ⟨some 26, Op.assign (Operand.tmp 40), 4, _, _, none⟩) (v := .bool true) rfl (fun _ _ _ h => h) (by rfl) (by assumption) (fun wS hSw => ?_) ?_
                · (try dsimp only at hSw); subst hSw; go_simp <;> omega
                simp only [Act.put, List.setIfInBounds_toArray, List.set_cons_zero, List.set_cons_succ]
                refine wpAnyT_end ?_
                refine wpAnyH_listed #[true, true, true, true, true, true, true, true, true, true, true, true, true, true, true] (by kernel_rfl) ?_
                refine wpAnyH_done (by kernel_rfl) ?_ _
                clear hHeld
                go_wp2_with fail
                go_ret
                exact ⟨ret_i hs.out.symm, C2.low⟩
              · have hs := Lib.hid (hr.out.trans (hst.trans (if_neg (by simp; omega))))
                clear hst hr
                go_wp2_with fail
                generalize wr.alloc (.cells #[.int .i64 ki, .int .i64 at1, .int .i64 id, .int .i64 ot, .int .i64 nn] 30) = w2 at *
                generalize wr.heap.size = G at *
                have k1 := C1.fact (.head _) (i := 1) rfl
                simp only at k1
                go_wp2_with fail
                refine wp_region_held_drew (S := fun wz => wz = w2.drew) (by kernel_rfl) rfl (fun hHeld => ?_)
                have C2 := C1.drew
                generalize w2.drew = w3 at *
                have k1 := C2.fact (.head _) (i := 1) rfl
                have k2 := C2.tail.fact (.head _) (i := 1) rfl
                simp only at k1 k2
                obtain ⟨b', o', ki', id', ot', nn', hbb, hxx, e0, e1, e2, e3, e4⟩ := (HR.out.later C2.low).ev (k := m) (by have := Hm.out; omega)
                cases hbb
                rw [Hp.out] at e1
                clear hxx c0 c1 c2 c3 c4
                refine wpAnyT_begin [0] (by kernel_rfl) (by kernel_rfl) ?_
                refine wpAnyT_take (oi := ⟨some 27, Op.move (Operand.tmp 3), 3, _, _, none⟩) (v := .int .i64 (k : Int)) rfl (fun _ _ _ h => h) (by rfl) (by assumption) (fun wS hSw => ?_) ?_
                · (try dsimp only at hSw); subst hSw; go_simp <;> omega
                simp only [Act.put, List.setIfInBounds_toArray, List.set_cons_zero, List.set_cons_succ]
                refine wpAnyT_end ?_
                refine wpAnyH_listed #[true, false, false, false, false, false, false, false, false, false, false, false, false, false, false] (by kernel_rfl) ?_
                refine wpAnyT_begin [1] (by kernel_rfl) (by kernel_rfl) ?_
                refine wpAnyT_take (oi := ⟨some 28, Op.binOp BinOp.gtr 3 (Operand.tmp 27) (Operand.const (Value.int IntKind.i64 0)) 3, 4, _, _, none⟩) (v := .bool true) rfl (fun _ _ _ h => h) (by rfl) (by assumption) (fun wS hSw => ?_) ?_
                · (try dsimp only at hSw); subst hSw; go_simp <;> omega
                simp only [Act.put, List.setIfInBounds_toArray, List.set_cons_zero, List.set_cons_succ]
                refine wpAnyT_end ?_
                refine wpAnyH_listed #[true, true, false, false, false, false, false, false, false, false, false, false, false, false, false] (by kernel_rfl) ?_
                refine wpAnyT_begin [2] (by kernel_rfl) (by kernel_rfl) ?_
                refine wpAnyT_take (oi := ⟨some 29, Op.move (Operand.tmp 28), 4, _, _, none⟩) (v := .bool true) rfl (fun _ _ _ h => h) (by rfl) (by assumption) (fun wS hSw => ?_) ?_
                · (try dsimp only at hSw); subst hSw; go_simp <;> omega
                simp only [Act.put, List.setIfInBounds_toArray, List.set_cons_zero, List.set_cons_succ]
                refine wpAnyT_end ?_
                refine wpAnyH_listed #[true, true, true, false, false, false, false, false, false, false, false, false, false, false, false] (by kernel_rfl) ?_
                refine wpAnyT_begin [3, 5, 7] (by kernel_rfl) (by kernel_rfl) ?_
                refine wpAnyT_take (oi := ⟨some 30, Op.fieldAddr 30 (Operand.tmp 4) 1, 0, _, _, some (2, true)⟩) (v := .pointer (some ⟨G, 1, none⟩)) rfl (fun _ _ _ h => h) (by rfl) (by assumption) (fun wS hSw => ?_) ?_
                · (try dsimp only at hSw); subst hSw; go_simp <;> omega
                simp only [Act.put, List.setIfInBounds_toArray, List.set_cons_zero, List.set_cons_succ]
                refine wpAnyT_take (oi := ⟨some 32, Op.fieldAddr 25 (Operand.tmp 1) 1, 0, _, _, some (2, true)⟩) (v := .pointer (some ⟨w.heap.size, 1, none⟩)) rfl (fun _ _ _ h => h) (by rfl) (by assumption) (fun wS hSw => ?_) ?_
                · (try dsimp only at hSw); subst hSw; go_simp <;> omega
                simp only [Act.put, List.setIfInBounds_toArray, List.set_cons_zero, List.set_cons_succ]
                refine wpAnyT_take (oi := ⟨some 34, Op.move (Operand.tmp 3), 3, _, _, some (2, true)⟩) (v := .int .i64 (k : Int)) rfl (fun _ _ _ h => h) (by rfl) (by assumption) (fun wS hSw => ?_) ?_
                · (try dsimp only at hSw); subst hSw; go_simp <;> omega
                simp only [Act.put, List.setIfInBounds_toArray, List.set_cons_zero, List.set_cons_succ]
                refine wpAnyT_end ?_
                refine wpAnyH_listed #[true, true, true, true, false, true, false, true, false, false, false, false, false, false, false] (by kernel_rfl) ?_
                refine wpAnyT_begin [4, 6, 8] (by kernel_rfl) (by kernel_rfl) ?_
                refine wpAnyT_take (oi := ⟨some 31, Op.load 3 (Operand.tmp 30), 3, _, _, some (2, true)⟩) (v := .int .i64 at1) rfl (fun _ _ _ h => h) (by rfl) (by assumption) (fun wS hSw => ?_) ?_
                · (try dsimp only at hSw); subst hSw; go_simp <;> omega
                simp only [Act.put, List.setIfInBounds_toArray, List.set_cons_zero, List.set_cons_succ]
                refine wpAnyT_take (oi := ⟨some 33, Op.load 23 (Operand.tmp 32), 23, _, _, some (2, true)⟩) (v := .slice (some ⟨b, o, none⟩) L c) rfl (fun _ _ _ h => h) (by rfl) (by assumption) (fun wS hSw => ?_) ?_
                · (try dsimp only at hSw); subst hSw; go_simp <;> omega
                simp only [Act.put, List.setIfInBounds_toArray, List.set_cons_zero, List.set_cons_succ]
                refine wpAnyT_take (oi := ⟨some 35, Op.binOp BinOp.sub 3 (Operand.tmp 34) (Operand.const (Value.int IntKind.i64 1)) 3, 3, _, _, some (2, true)⟩) (v := .int .i64 (m : Int)) rfl (fun _ _ _ h => h) (by rfl) (by assumption) (fun wS hSw => ?_) ?_
                · (try dsimp only at hSw); subst hSw; go_simp <;> omega
                simp only [Act.put, List.setIfInBounds_toArray, List.set_cons_zero, List.set_cons_succ]
                refine wpAnyT_end ?_
                refine wpAnyH_listed #[true, true, true, true, true, true, true, true, true, false, false, false, false, false, false] (by kernel_rfl) ?_
                refine wpAnyT_begin [9] (by kernel_rfl) (by kernel_rfl) ?_
                refine wpAnyT_take (oi := ⟨some 36, Op.indexAddr 23 (Operand.tmp 33) (Operand.tmp 35), 0, _, _, some (2, true)⟩) (v := .pointer (some ⟨b, o + m * 5, none⟩)) rfl (fun _ _ _ h => h) (by rfl) (by assumption) (fun wS hSw => ?_) ?_
                · (try dsimp only at hSw); subst hSw; go_simp <;> omega
                simp only [Act.put, List.setIfInBounds_toArray, List.set_cons_zero, List.set_cons_succ]
                refine wpAnyT_end ?_
                refine wpAnyH_listed #[true, true, true, true, true, true, true, true, true, true, false, false, false, false, false] (by kernel_rfl) ?_
                refine wpAnyT_begin [10] (by kernel_rfl) (by kernel_rfl) ?_
                refine wpAnyT_take (oi := ⟨some 37, Op.fieldAddr 30 (Operand.tmp 36) 1, 0, _, _, some (2, true)⟩) (v := .pointer (some ⟨b, o + m * 5 + 1, none⟩)) rfl (fun _ _ _ h => h) (by rfl) (by assumption) (fun wS hSw => ?_) ?_
                · (try dsimp only at hSw); subst hSw; go_simp <;> omega
                simp only [Act.put, List.setIfInBounds_toArray, List.set_cons_zero, List.set_cons_succ]
                refine wpAnyT_end ?_
                refine wpAnyH_listed #[true, true, true, true, true, true, true, true, true, true, true, false, false, false, false] (by kernel_rfl) ?_
                refine wpAnyT_begin [11] (by kernel_rfl) (by kernel_rfl) ?_
                refine wpAnyT_take (oi := ⟨some 38, Op.load 3 (Operand.tmp 37), 3, _, _, some (2, true)⟩) (v := .int .i64 p) rfl (fun _ _ _ h => h) (by rfl) (by assumption) (fun wS hSw => ?_) ?_
                · (try dsimp only at hSw); subst hSw; go_simp <;> omega
                simp only [Act.put, List.setIfInBounds_toArray, List.set_cons_zero, List.set_cons_succ]
                refine wpAnyT_end ?_
                refine wpAnyH_listed #[true, true, true, true, true, true, true, true, true, true, true, true, false, false, false] (by kernel_rfl) ?_
                refine wpAnyT_begin [12] (by kernel_rfl) (by kernel_rfl) ?_
                refine wpAnyT_take (oi := ⟨some 39, Op.binOp BinOp.leq 3 (Operand.tmp 31) (Operand.tmp 38) 3, 4, _, _, some (2, true)⟩) (v := .bool false) rfl (fun _ _ _ h => h) (by rfl) (by assumption) (fun wS hSw => ?_) ?_
                · (try dsimp only at hSw); subst hSw; go_simp <;> omega
                simp only [Act.put, List.setIfInBounds_toArray, List.set_cons_zero, List.set_cons_succ]
                refine wpAnyT_end ?_
                refine wpAnyH_listed #[true, true, true, true, true, true, true, true, true, true, true, true, true, false, false] (by kernel_rfl) ?_
                refine wpAnyT_begin [13] (by kernel_rfl) (by kernel_rfl) ?_
                refine wpAnyT_take (oi := ⟨some 40, Op.pick (Operand.tmp 29) (Operand.tmp 39) (Operand.const (Value.bool false)), 4, _, _, none⟩) (v := .bool false) rfl (fun _ _ _ h => h) (by rfl) (by assumption) (fun wS hSw => ?_) ?_
                · (try dsimp only at hSw); subst hSw; go_simp <;> omega
                simp only [Act.put, List.setIfInBounds_toArray, List.set_cons_zero, List.set_cons_succ]
                refine wpAnyT_end ?_
                refine wpAnyH_listed #[true, true, true, true, true, true, true, true, true, true, true, true, true, true, false] (by kernel_rfl) ?_
                refine wpAnyT_begin [14] (by kernel_rfl) (by kernel_rfl) ?_
                refine wpAnyT_take (oi := ⟨some 26, Op.assign (Operand.tmp 40), 4, _, _, none⟩) (v := .bool false) rfl (fun _ _ _ h => h) (by rfl) (by assumption) (fun wS hSw => ?_) ?_
                · (try dsimp only at hSw); subst hSw; go_simp <;> omega
                simp only [Act.put, List.setIfInBounds_toArray, List.set_cons_zero, List.set_cons_succ]
                refine wpAnyT_end ?_
                refine wpAnyH_listed #[true, true, true, true, true, true, true, true, true, true, true, true, true, true, true] (by kernel_rfl) ?_
                refine wpAnyH_done (by kernel_rfl) ?_ _
                clear hHeld
                go_wp2_with fail
                go_roundw
                case rel => exact ⟨k + 1, by omega, by go_num, C2.tail, hs⟩
                case measure => simp [RowKit.intOf]; omega
      · obtain rfl : k = L := by omega
        have hs := Lib.hid (show chkE es = 0 by rw [hr.out, ← hL]; exact chk_end es)
        clear hr
        go_wp2_with fail
        go_ret
        exact ⟨ret_i hs.out.symm, C.low⟩
end Go.Proofs.Ytfcoblapbcdaiaa
