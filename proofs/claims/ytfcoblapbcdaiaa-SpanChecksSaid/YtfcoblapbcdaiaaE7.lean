/- The reference's Doing. -/
import Derived.Test.YtfcoblapbcdaiaaE6
namespace Go.Proofs.Ytfcoblapbcdaiaa
open Go.RowKit Go.Lib
attribute [local go_sem] Oper.semAt_some
set_option linter.unusedSimpArgs false in
set_option maxRecDepth 100000 in
set_option maxHeartbeats 8000000 in
theorem rdoing_any (d : Int) (sl : Value) (es : List Ev) (s : Int) (w : World) (hs : -9223372036854775808 ≤ s ∧ s ≤ 9223372036854775807) (hv : Row tE w sl es) :
    Calls Try.prog 14 #[.agg #[.int .i64 d, sl], .int .i64 s] w fun e w' => e = .returned (doA s es) ∧ Below w.heap.size w w' := by
  have C := has2 (w := w) [.int .i64 d, sl] [.int .i64 0, .int .i64 0] 25 36
  change Has w _ ((w.alloc (.cells #[.int .i64 d, sl] 25)).alloc (.cells #[.int .i64 0, .int .i64 0] 36)) at C
  obtain ⟨a, L, c, rfl, hL, hc1, hc2, R⟩ := hv.form
  have HR := Lib.hid R
  clear hv R
  go_enter Try.func14, Try.ntmps14
  go_wp2_with fail
  generalize (w.alloc (.cells #[.int .i64 d, .slice a L c] 25)).alloc (.cells #[.int .i64 0, .int .i64 0] 36) = w1 at *
  have k0 := C.fact (.head _) (i := 0) rfl
  have k1 := C.fact (.head _) (i := 1) rfl
  simp only at k0 k1
  go_wp2_with fail
  refine (Has.call C (rdone_any d _ es s _ (HR.out.later C.low))).mono ?_
  rintro e w2 ⟨rfl, C2⟩
  obtain ⟨n, hn⟩ : ∃ n, doneN s es = n := ⟨_, rfl⟩
  have Hn := Lib.hid hn
  have hle : n ≤ L := by have := doneN_le s es; omega
  rw [hn]
  clear hn C k0 k1
  have k1 := C2.fact (.head _) (i := 1) rfl
  have k2 := C2.tail.fact (.head _) (i := 0) rfl
  have k3 := C2.tail.fact (.head _) (i := 1) rfl
  have f2 := C2.tail.free (.head _) (i := 0) rfl
  have f3 := C2.tail.free (.head _) (i := 1) rfl
  simp only at k1 k2 k3 f2 f3
  rcases Nat.lt_or_ge n L with hlt | hge
  · have g1 : ((n : Int) == (L : Int)) = false := by rw [beq_eq_false_iff_ne]; omega
    have g5 : (n : Int) < L := by omega
    obtain ⟨b, o, ki, id, ot, nn, rfl, hx, c0, c1, c2, c3, c4⟩ := (HR.out.later C2.low).ev (k := n) (by omega)
    clear hx c0 c2 c3 c4
    obtain ⟨at1, hat⟩ : ∃ x, atE es n = x := ⟨_, rfl⟩
    have Hat := Lib.hid hat
    rw [hat] at c1
    clear hat
    obtain ⟨ok, hok⟩ : ∃ b, okA at1 = b := ⟨_, rfl⟩
    have Hok := Lib.hid hok
    clear hok
    go_wp2_with fail
    refine (in_any at1 _).mono ?_
    rintro e wq ⟨rfl, rfl⟩
    rw [Hok.out]
    clear c1
    cases ok with
    | false =>
      have Hno := Lib.hid (doA_no (show doI s es = false by unfold doI; rw [Hn.out, Hat.out, Hok.out]; simp))
      go_wp2_with fail
      have X := C2.swap.set2 (.int .i64 0) (.int .i64 0)
      generalize (w2.setCell ⟨w.heap.size + 1, 0, none⟩ (.int .i64 0)).setCell ⟨w.heap.size + 1, 1, none⟩ (.int .i64 0) = w9 at *
      obtain ⟨d1, d2⟩ := X.pt
      exact bodyPost_ret (v := .tuple #[.int .i64 0, .agg #[.int .i64 0, .int .i64 0], .bool false]) (by simp [results, Try.results14, go_sem, d1, d2]) rfl ⟨by rw [Hno.out], X.low⟩
    | true =>
      have hse := done_not (s := s) (es := es) (by rw [Hn.out]; omega) (by rw [Hn.out, Hat.out]; exact Hok.out)
      rw [Hn.out, Hat.out] at hse
      obtain ⟨x1, x2⟩ := sq_in Hok.out
      have hea : endA at1 = at1 * at1 := by unfold endA; rw [Hok.out]; rfl
      rw [hea] at hse
      clear hea
      obtain ⟨en, hen⟩ : ∃ q, at1 * at1 = q := ⟨_, rfl⟩
      have Hen := Lib.hid hen
      rw [hen] at x1 x2 hse
      have en1 : at1 * at1 = en := hen
      clear hen
      have x3 : IntKind.i64.wrap en = en := by rw [IntKind.wrap_i64]; omega
      have x4 : wrap64 en = en := IntWalk.wrap64_in _ ⟨by omega, by omega⟩
      rcases Nat.eq_zero_or_pos n with hz | hz
      · obtain ⟨bg, hbg⟩ : ∃ b : Int, b = 0 := ⟨_, rfl⟩
        have Hbg := Lib.hid (show begE es n = bg by rw [hz, hbg]; rfl)
        have b1 : 0 ≤ bg ∧ bg ≤ 1048576 := by omega
        have g7 : ¬ (n : Int) > 0 := by omega
        have z0 : (0 : Int) = bg := hbg.symm
        have ZZ := Lib.hid z0
        clear hz hbg z0 k1 k2 k3 f2 f3
        go_wp2_with fail
        have CA := C2
        generalize hwA : w2 = wA at CA ⊢
        clear hwA C2
        rw [ZZ.out]
        refine wp_region_held_drew (S := fun wz => wz = wA.drew) (by kernel_rfl) rfl (fun hHeld => ?_)
        have CB := CA.drew
        generalize wA.drew = wB at *
        have k1 := CB.fact (.head _) (i := 1) rfl
        obtain ⟨b', o', ki', id', ot', nn', hbb, hxx, e0, e5, e2, e3, e4⟩ := (HR.out.later CB.low).ev (k := n) (by omega)
        cases hbb
        rw [Hat.out] at e5
        simp only at k1
        clear hxx e0 e2 e3 e4
        refine wpAnyT_begin [0, 2, 6, 8] (by kernel_rfl) (by kernel_rfl) ?_
        refine wpAnyT_take (oi := ⟨some 48, Op.fieldAddr 25 (Operand.tmp 2) 1, 0, _, _, none⟩) (v := .pointer (some ⟨w.heap.size, 1, none⟩)) rfl (fun _ _ _ h => h) (by rfl) (by assumption) (fun wS hSw => ?_) ?_
        · (try dsimp only at hSw); subst hSw; go_simp <;> omega
        simp only [Act.put, List.setIfInBounds_toArray, List.set_cons_zero, List.set_cons_succ]
        refine wpAnyT_take (oi := ⟨some 50, Op.move (Operand.tmp 7), 3, _, _, none⟩) (v := .int .i64 (n : Int)) rfl (fun _ _ _ h => h) (by rfl) (by assumption) (fun wS hSw => ?_) ?_
        · (try dsimp only at hSw); subst hSw; go_simp <;> omega
        simp only [Act.put, List.setIfInBounds_toArray, List.set_cons_zero, List.set_cons_succ]
        refine wpAnyT_take (oi := ⟨some 54, Op.fieldAddr 25 (Operand.tmp 2) 1, 0, _, _, none⟩) (v := .pointer (some ⟨w.heap.size, 1, none⟩)) rfl (fun _ _ _ h => h) (by rfl) (by assumption) (fun wS hSw => ?_) ?_
        · (try dsimp only at hSw); subst hSw; go_simp <;> omega
        simp only [Act.put, List.setIfInBounds_toArray, List.set_cons_zero, List.set_cons_succ]
        refine wpAnyT_take (oi := ⟨some 56, Op.move (Operand.tmp 7), 3, _, _, none⟩) (v := .int .i64 (n : Int)) rfl (fun _ _ _ h => h) (by rfl) (by assumption) (fun wS hSw => ?_) ?_
        · (try dsimp only at hSw); subst hSw; go_simp <;> omega
        simp only [Act.put, List.setIfInBounds_toArray, List.set_cons_zero, List.set_cons_succ]
        refine wpAnyT_end ?_
        refine wpAnyH_listed #[true, false, true, false, false, false, true, false, true, false, false, false, false, false] (by kernel_rfl) ?_
        refine wpAnyT_begin [1, 7] (by kernel_rfl) (by kernel_rfl) ?_
        refine wpAnyT_take (oi := ⟨some 49, Op.load 23 (Operand.tmp 48), 23, _, _, none⟩) (v := .slice (some ⟨b, o, none⟩) L c) rfl (fun _ _ _ h => h) (by rfl) (by assumption) (fun wS hSw => ?_) ?_
        · (try dsimp only at hSw); subst hSw; go_simp <;> omega
        simp only [Act.put, List.setIfInBounds_toArray, List.set_cons_zero, List.set_cons_succ]
        refine wpAnyT_take (oi := ⟨some 55, Op.load 23 (Operand.tmp 54), 23, _, _, none⟩) (v := .slice (some ⟨b, o, none⟩) L c) rfl (fun _ _ _ h => h) (by rfl) (by assumption) (fun wS hSw => ?_) ?_
        · (try dsimp only at hSw); subst hSw; go_simp <;> omega
        simp only [Act.put, List.setIfInBounds_toArray, List.set_cons_zero, List.set_cons_succ]
        refine wpAnyT_end ?_
        refine wpAnyH_listed #[true, true, true, false, false, false, true, true, true, false, false, false, false, false] (by kernel_rfl) ?_
        refine wpAnyT_begin [3, 9] (by kernel_rfl) (by kernel_rfl) ?_
        refine wpAnyT_take (oi := ⟨some 51, Op.indexAddr 23 (Operand.tmp 49) (Operand.tmp 50), 0, _, _, none⟩) (v := .pointer (some ⟨b, o + n * 5, none⟩)) rfl (fun _ _ _ h => h) (by rfl) (by assumption) (fun wS hSw => ?_) ?_
        · (try dsimp only at hSw); subst hSw; go_simp <;> omega
        simp only [Act.put, List.setIfInBounds_toArray, List.set_cons_zero, List.set_cons_succ]
        refine wpAnyT_take (oi := ⟨some 57, Op.indexAddr 23 (Operand.tmp 55) (Operand.tmp 56), 0, _, _, none⟩) (v := .pointer (some ⟨b, o + n * 5, none⟩)) rfl (fun _ _ _ h => h) (by rfl) (by assumption) (fun wS hSw => ?_) ?_
        · (try dsimp only at hSw); subst hSw; go_simp <;> omega
        simp only [Act.put, List.setIfInBounds_toArray, List.set_cons_zero, List.set_cons_succ]
        refine wpAnyT_end ?_
        refine wpAnyH_listed #[true, true, true, true, false, false, true, true, true, true, false, false, false, false] (by kernel_rfl) ?_
        refine wpAnyT_begin [4, 10] (by kernel_rfl) (by kernel_rfl) ?_
        refine wpAnyT_take (oi := ⟨some 52, Op.fieldAddr 30 (Operand.tmp 51) 1, 0, _, _, none⟩) (v := .pointer (some ⟨b, o + n * 5 + 1, none⟩)) rfl (fun _ _ _ h => h) (by rfl) (by assumption) (fun wS hSw => ?_) ?_
        · (try dsimp only at hSw); subst hSw; go_simp <;> omega
        simp only [Act.put, List.setIfInBounds_toArray, List.set_cons_zero, List.set_cons_succ]
        refine wpAnyT_take (oi := ⟨some 58, Op.fieldAddr 30 (Operand.tmp 57) 1, 0, _, _, none⟩) (v := .pointer (some ⟨b, o + n * 5 + 1, none⟩)) rfl (fun _ _ _ h => h) (by rfl) (by assumption) (fun wS hSw => ?_) ?_
        · (try dsimp only at hSw); subst hSw; go_simp <;> omega
        simp only [Act.put, List.setIfInBounds_toArray, List.set_cons_zero, List.set_cons_succ]
        refine wpAnyT_end ?_
        refine wpAnyH_listed #[true, true, true, true, true, false, true, true, true, true, true, false, false, false] (by kernel_rfl) ?_
        refine wpAnyT_begin [5, 11] (by kernel_rfl) (by kernel_rfl) ?_
        refine wpAnyT_take (oi := ⟨some 53, Op.load 3 (Operand.tmp 52), 3, _, _, none⟩) (v := .int .i64 at1) rfl (fun _ _ _ h => h) (by rfl) (by assumption) (fun wS hSw => ?_) ?_
        · (try dsimp only at hSw); subst hSw; go_simp <;> omega
        simp only [Act.put, List.setIfInBounds_toArray, List.set_cons_zero, List.set_cons_succ]
        refine wpAnyT_take (oi := ⟨some 59, Op.load 3 (Operand.tmp 58), 3, _, _, none⟩) (v := .int .i64 at1) rfl (fun _ _ _ h => h) (by rfl) (by assumption) (fun wS hSw => ?_) ?_
        · (try dsimp only at hSw); subst hSw; go_simp <;> omega
        simp only [Act.put, List.setIfInBounds_toArray, List.set_cons_zero, List.set_cons_succ]
        refine wpAnyT_end ?_
        refine wpAnyH_listed #[true, true, true, true, true, true, true, true, true, true, true, true, false, false] (by kernel_rfl) ?_
        refine wpAnyT_begin [12] (by kernel_rfl) (by kernel_rfl) ?_
        refine wpAnyT_take (oi := ⟨some 60, Op.binOp BinOp.mul 3 (Operand.tmp 53) (Operand.tmp 59) 3, 3, _, _, none⟩) (v := .int .i64 en) rfl (fun _ _ _ h => h) (by rfl) (by assumption) (fun wS hSw => ?_) ?_
        · (try dsimp only at hSw); subst hSw; go_simp <;> omega
        simp only [Act.put, List.setIfInBounds_toArray, List.set_cons_zero, List.set_cons_succ]
        refine wpAnyT_end ?_
        refine wpAnyH_listed #[true, true, true, true, true, true, true, true, true, true, true, true, true, false] (by kernel_rfl) ?_
        refine wpAnyT_begin [13] (by kernel_rfl) (by kernel_rfl) ?_
        refine wpAnyT_take (oi := ⟨some 9, Op.assign (Operand.tmp 60), 3, _, _, none⟩) (v := .int .i64 en) rfl (fun _ _ _ h => h) (by rfl) (by assumption) (fun wS hSw => ?_) ?_
        · (try dsimp only at hSw); subst hSw; go_simp <;> omega
        simp only [Act.put, List.setIfInBounds_toArray, List.set_cons_zero, List.set_cons_succ]
        refine wpAnyT_end ?_
        refine wpAnyH_listed #[true, true, true, true, true, true, true, true, true, true, true, true, true, true] (by kernel_rfl) ?_
        refine wpAnyH_done (by kernel_rfl) ?_ _
        clear hHeld
        clear k1 e5
        have k2 := CB.tail.fact (.head _) (i := 0) rfl
        have k3 := CB.tail.fact (.head _) (i := 1) rfl
        have f2 := CB.tail.free (.head _) (i := 0) rfl
        have f3 := CB.tail.free (.head _) (i := 1) rfl
        simp only at k2 k3 f2 f3
        have hse2 : ¬ en ≤ s := by omega
        have hse3 : ¬ s ≥ en := by omega
        by_cases hsb : s ≤ bg
        · have Hno := Lib.hid (doA_no (show doI s es = false by unfold doI; rw [Hn.out, Hbg.out, decide_eq_false (show ¬ bg < s by omega)]; simp))
          go_wp2_with fail
          have X := CB.swap.set2 (.int .i64 0) (.int .i64 0)
          generalize (wB.setCell ⟨w.heap.size + 1, 0, none⟩ (.int .i64 0)).setCell ⟨w.heap.size + 1, 1, none⟩ (.int .i64 0) = w9 at *
          obtain ⟨d1, d2⟩ := X.pt
          exact bodyPost_ret (v := .tuple #[.int .i64 0, .agg #[.int .i64 0, .int .i64 0], .bool false]) (by simp [results, Try.results14, go_sem, d1, d2]) rfl ⟨by rw [Hno.out], X.low⟩
        · have hI : doI s es = true := by unfold doI; rw [Hn.out, Hbg.out, Hat.out, Hok.out, decide_eq_true (show bg < s by omega), decide_eq_true (show n < es.length by omega)]; rfl
          have Hyes := Lib.hid (doA_yes hI Hn.out Hbg.out (show endA (atE es n) = en by rw [Hat.out, ← Hen.out]; unfold endA; rw [Hok.out]; rfl))
          clear hI
          have q1 : wrap64 (s - bg) = s - bg := IntWalk.wrap64_in _ ⟨by omega, by omega⟩
          have q2 : wrap64 (en - bg) = en - bg := IntWalk.wrap64_in _ ⟨by omega, by omega⟩
          have q3 : 1 ≤ en - bg := by omega
          go_wp2_with fail
          refine (Has.call CB (rlowest_all (s - bg) (en - bg) _ (by omega) (by omega))).mono ?_
          rintro e w5 ⟨rfl, C5⟩
          obtain ⟨u, hu⟩ : ∃ u, lowN (s - bg) (en - bg) = u := ⟨_, rfl⟩
          obtain ⟨z, hz⟩ : ∃ u, lowD (s - bg) (en - bg) = u := ⟨_, rfl⟩
          have Hu := Lib.hid hu
          have Hz := Lib.hid hz
          rw [hu, hz]
          clear hu hz k2 k3 f2 f3 CB q1 q2 q3
          have C6 := C5.push [.int .i64 u, .int .i64 z] 36
          go_wp2_with fail
          generalize w5.alloc (.cells #[.int .i64 u, .int .i64 z] 36) = w6 at *
          generalize w5.heap.size = G at *
          have k0 := C6.fact (.head _) (i := 0) rfl
          have k1 := C6.fact (.head _) (i := 1) rfl
          have k2 := C6.tail.tail.fact (.head _) (i := 0) rfl
          have k3 := C6.tail.tail.fact (.head _) (i := 1) rfl
          have f2 := C6.tail.tail.free (.head _) (i := 0) rfl
          have f3 := C6.tail.tail.free (.head _) (i := 1) rfl
          simp only at k0 k1 k2 k3 f2 f3
          go_region
          all_goals
            have X := (C6.third.set2 (.int .i64 u) (.int .i64 z)).drew
            generalize ((w6.setCell ⟨w.heap.size + 1, 0, none⟩ (.int .i64 u)).setCell ⟨w.heap.size + 1, 1, none⟩ (.int .i64 z)).drew = w7 at *
            obtain ⟨d1, d2⟩ := X.pt
            go_wp2_with fail
            exact bodyPost_ret (v := .tuple #[.int .i64 (n : Int), .agg #[.int .i64 u, .int .i64 z], .bool true]) (by simp [results, Try.results14, go_sem, d1, d2]) rfl ⟨by rw [Hyes.out, Hu.out, Hz.out], X.low⟩
      · obtain ⟨m, hm⟩ : ∃ m : Nat, n = m + 1 := ⟨n - 1, by omega⟩
        obtain ⟨p, hp⟩ : ∃ p, atE es m = p := ⟨_, rfl⟩
        have hlt2 : m < es.length := by omega
        have hdm := Dn.of_done (s := s) (es := es) m _ (by rw [Hn.out]; omega) (List.getElem?_eq_getElem hlt2)
        rw [← atE_of (List.getElem?_eq_getElem hlt2), hp] at hdm
        have hokp : okA p = true := by unfold dnA at hdm; simp only [Bool.and_eq_true] at hdm; exact hdm.1
        obtain ⟨y1, y2⟩ := sq_in hokp
        obtain ⟨bg, hbg⟩ : ∃ q, p * p = q := ⟨_, rfl⟩
        have Hbg := Lib.hid (show begE es n = bg by unfold begE; rw [if_neg (by omega), hm, Nat.add_sub_cancel, hp]; unfold endA; rw [hokp]; exact hbg)
        rw [hbg] at y1 y2
        have b1 : 0 ≤ bg ∧ bg ≤ 1048576 := ⟨y1, y2⟩
        have g7 : (n : Int) > 0 := by omega
        have q1 : (n : Int) - 1 = (m : Int) := by omega
        have q2 : (m : Int) < L := by omega
        have q3 : IntKind.i64.wrap (m : Int) = (m : Int) := by rw [IntKind.wrap_i64]; omega
        have q4 : IntKind.i64.wrap bg = bg := by rw [IntKind.wrap_i64]; omega
        have q5 : wrap64 bg = bg := IntWalk.wrap64_in _ ⟨by omega, by omega⟩
        have Hm := Lib.hid hm
        have Hp := Lib.hid hp
        have bg1 : p * p = bg := hbg
        clear hz hm hp hbg hdm hokp y1 y2 k1 k2 k3 f2 f3
        go_wp2_with fail
        refine wp_region_held_drew (S := fun wz => wz = w2.drew) (by kernel_rfl) rfl (fun hHeld => ?_)
        have CA := C2.drew
        generalize w2.drew = wA at *
        have k1 := CA.fact (.head _) (i := 1) rfl
        obtain ⟨b', o', ki', id', ot', nn', hbb, hxx, e0, e1, e2, e3, e4⟩ := (HR.out.later CA.low).ev (k := m) (by have := Hm.out; omega)
        cases hbb
        rw [Hp.out] at e1
        simp only at k1
        clear hxx e0 e2 e3 e4
        refine wpAnyT_begin [0, 2, 7, 9] (by kernel_rfl) (by kernel_rfl) ?_
        refine wpAnyT_take (oi := ⟨some 33, Op.fieldAddr 25 (Operand.tmp 2) 1, 0, _, _, none⟩) (v := .pointer (some ⟨w.heap.size, 1, none⟩)) rfl (fun _ _ _ h => h) (by rfl) (by assumption) (fun wS hSw => ?_) ?_
        · (try dsimp only at hSw); subst hSw; go_simp <;> omega
        simp only [Act.put, List.setIfInBounds_toArray, List.set_cons_zero, List.set_cons_succ]
        refine wpAnyT_take (oi := ⟨some 35, Op.move (Operand.tmp 7), 3, _, _, none⟩) (v := .int .i64 (n : Int)) rfl (fun _ _ _ h => h) (by rfl) (by assumption) (fun wS hSw => ?_) ?_
        · (try dsimp only at hSw); subst hSw; go_simp <;> omega
        simp only [Act.put, List.setIfInBounds_toArray, List.set_cons_zero, List.set_cons_succ]
        refine wpAnyT_take (oi := ⟨some 40, Op.fieldAddr 25 (Operand.tmp 2) 1, 0, _, _, none⟩) (v := .pointer (some ⟨w.heap.size, 1, none⟩)) rfl (fun _ _ _ h => h) (by rfl) (by assumption) (fun wS hSw => ?_) ?_
        · (try dsimp only at hSw); subst hSw; go_simp <;> omega
        simp only [Act.put, List.setIfInBounds_toArray, List.set_cons_zero, List.set_cons_succ]
        refine wpAnyT_take (oi := ⟨some 42, Op.move (Operand.tmp 7), 3, _, _, none⟩) (v := .int .i64 (n : Int)) rfl (fun _ _ _ h => h) (by rfl) (by assumption) (fun wS hSw => ?_) ?_
        · (try dsimp only at hSw); subst hSw; go_simp <;> omega
        simp only [Act.put, List.setIfInBounds_toArray, List.set_cons_zero, List.set_cons_succ]
        refine wpAnyT_end ?_
        refine wpAnyH_listed #[true, false, true, false, false, false, false, true, false, true, false, false, false, false, false, false] (by kernel_rfl) ?_
        refine wpAnyT_begin [1, 3, 8, 10] (by kernel_rfl) (by kernel_rfl) ?_
        refine wpAnyT_take (oi := ⟨some 34, Op.load 23 (Operand.tmp 33), 23, _, _, none⟩) (v := .slice (some ⟨b, o, none⟩) L c) rfl (fun _ _ _ h => h) (by rfl) (by assumption) (fun wS hSw => ?_) ?_
        · (try dsimp only at hSw); subst hSw; go_simp <;> omega
        simp only [Act.put, List.setIfInBounds_toArray, List.set_cons_zero, List.set_cons_succ]
        refine wpAnyT_take (oi := ⟨some 36, Op.binOp BinOp.sub 3 (Operand.tmp 35) (Operand.const (Value.int IntKind.i64 1)) 3, 3, _, _, none⟩) (v := .int .i64 (m : Int)) rfl (fun _ _ _ h => h) (by rfl) (by assumption) (fun wS hSw => ?_) ?_
        · (try dsimp only at hSw); subst hSw; go_simp <;> omega
        simp only [Act.put, List.setIfInBounds_toArray, List.set_cons_zero, List.set_cons_succ]
        refine wpAnyT_take (oi := ⟨some 41, Op.load 23 (Operand.tmp 40), 23, _, _, none⟩) (v := .slice (some ⟨b, o, none⟩) L c) rfl (fun _ _ _ h => h) (by rfl) (by assumption) (fun wS hSw => ?_) ?_
        · (try dsimp only at hSw); subst hSw; go_simp <;> omega
        simp only [Act.put, List.setIfInBounds_toArray, List.set_cons_zero, List.set_cons_succ]
        refine wpAnyT_take (oi := ⟨some 43, Op.binOp BinOp.sub 3 (Operand.tmp 42) (Operand.const (Value.int IntKind.i64 1)) 3, 3, _, _, none⟩) (v := .int .i64 (m : Int)) rfl (fun _ _ _ h => h) (by rfl) (by assumption) (fun wS hSw => ?_) ?_
        · (try dsimp only at hSw); subst hSw; go_simp <;> omega
        simp only [Act.put, List.setIfInBounds_toArray, List.set_cons_zero, List.set_cons_succ]
        refine wpAnyT_end ?_
        refine wpAnyH_listed #[true, true, true, true, false, false, false, true, true, true, true, false, false, false, false, false] (by kernel_rfl) ?_
        refine wpAnyT_begin [4, 11] (by kernel_rfl) (by kernel_rfl) ?_
        refine wpAnyT_take (oi := ⟨some 37, Op.indexAddr 23 (Operand.tmp 34) (Operand.tmp 36), 0, _, _, none⟩) (v := .pointer (some ⟨b, o + m * 5, none⟩)) rfl (fun _ _ _ h => h) (by rfl) (by assumption) (fun wS hSw => ?_) ?_
        · (try dsimp only at hSw); subst hSw; go_simp <;> omega
        simp only [Act.put, List.setIfInBounds_toArray, List.set_cons_zero, List.set_cons_succ]
        refine wpAnyT_take (oi := ⟨some 44, Op.indexAddr 23 (Operand.tmp 41) (Operand.tmp 43), 0, _, _, none⟩) (v := .pointer (some ⟨b, o + m * 5, none⟩)) rfl (fun _ _ _ h => h) (by rfl) (by assumption) (fun wS hSw => ?_) ?_
        · (try dsimp only at hSw); subst hSw; go_simp <;> omega
        simp only [Act.put, List.setIfInBounds_toArray, List.set_cons_zero, List.set_cons_succ]
        refine wpAnyT_end ?_
        refine wpAnyH_listed #[true, true, true, true, true, false, false, true, true, true, true, true, false, false, false, false] (by kernel_rfl) ?_
        refine wpAnyT_begin [5, 12] (by kernel_rfl) (by kernel_rfl) ?_
        refine wpAnyT_take (oi := ⟨some 38, Op.fieldAddr 30 (Operand.tmp 37) 1, 0, _, _, none⟩) (v := .pointer (some ⟨b, o + m * 5 + 1, none⟩)) rfl (fun _ _ _ h => h) (by rfl) (by assumption) (fun wS hSw => ?_) ?_
        · (try dsimp only at hSw); subst hSw; go_simp <;> omega
        simp only [Act.put, List.setIfInBounds_toArray, List.set_cons_zero, List.set_cons_succ]
        refine wpAnyT_take (oi := ⟨some 45, Op.fieldAddr 30 (Operand.tmp 44) 1, 0, _, _, none⟩) (v := .pointer (some ⟨b, o + m * 5 + 1, none⟩)) rfl (fun _ _ _ h => h) (by rfl) (by assumption) (fun wS hSw => ?_) ?_
        · (try dsimp only at hSw); subst hSw; go_simp <;> omega
        simp only [Act.put, List.setIfInBounds_toArray, List.set_cons_zero, List.set_cons_succ]
        refine wpAnyT_end ?_
        refine wpAnyH_listed #[true, true, true, true, true, true, false, true, true, true, true, true, true, false, false, false] (by kernel_rfl) ?_
        refine wpAnyT_begin [6, 13] (by kernel_rfl) (by kernel_rfl) ?_
        refine wpAnyT_take (oi := ⟨some 39, Op.load 3 (Operand.tmp 38), 3, _, _, none⟩) (v := .int .i64 p) rfl (fun _ _ _ h => h) (by rfl) (by assumption) (fun wS hSw => ?_) ?_
        · (try dsimp only at hSw); subst hSw; go_simp <;> omega
        simp only [Act.put, List.setIfInBounds_toArray, List.set_cons_zero, List.set_cons_succ]
        refine wpAnyT_take (oi := ⟨some 46, Op.load 3 (Operand.tmp 45), 3, _, _, none⟩) (v := .int .i64 p) rfl (fun _ _ _ h => h) (by rfl) (by assumption) (fun wS hSw => ?_) ?_
        · (try dsimp only at hSw); subst hSw; go_simp <;> omega
        simp only [Act.put, List.setIfInBounds_toArray, List.set_cons_zero, List.set_cons_succ]
        refine wpAnyT_end ?_
        refine wpAnyH_listed #[true, true, true, true, true, true, true, true, true, true, true, true, true, true, false, false] (by kernel_rfl) ?_
        refine wpAnyT_begin [14] (by kernel_rfl) (by kernel_rfl) ?_
        refine wpAnyT_take (oi := ⟨some 47, Op.binOp BinOp.mul 3 (Operand.tmp 39) (Operand.tmp 46) 3, 3, _, _, none⟩) (v := .int .i64 bg) rfl (fun _ _ _ h => h) (by rfl) (by assumption) (fun wS hSw => ?_) ?_
        · (try dsimp only at hSw); subst hSw; go_simp <;> omega
        simp only [Act.put, List.setIfInBounds_toArray, List.set_cons_zero, List.set_cons_succ]
        refine wpAnyT_end ?_
        refine wpAnyH_listed #[true, true, true, true, true, true, true, true, true, true, true, true, true, true, true, false] (by kernel_rfl) ?_
        refine wpAnyT_begin [15] (by kernel_rfl) (by kernel_rfl) ?_
        refine wpAnyT_take (oi := ⟨some 8, Op.assign (Operand.tmp 47), 3, _, _, none⟩) (v := .int .i64 bg) rfl (fun _ _ _ h => h) (by rfl) (by assumption) (fun wS hSw => ?_) ?_
        · (try dsimp only at hSw); subst hSw; go_simp <;> omega
        simp only [Act.put, List.setIfInBounds_toArray, List.set_cons_zero, List.set_cons_succ]
        refine wpAnyT_end ?_
        refine wpAnyH_listed #[true, true, true, true, true, true, true, true, true, true, true, true, true, true, true, true] (by kernel_rfl) ?_
        refine wpAnyH_done (by kernel_rfl) ?_ _
        clear hHeld
        clear k1 e1 bg1
        go_wp2_with fail
        refine wp_region_held_drew (S := fun wz => wz = wA.drew) (by kernel_rfl) rfl (fun hHeld => ?_)
        have CB := CA.drew
        generalize wA.drew = wB at *
        have k1 := CB.fact (.head _) (i := 1) rfl
        obtain ⟨b', o', ki', id', ot', nn', hbb, hxx, e0, e5, e2, e3, e4⟩ := (HR.out.later CB.low).ev (k := n) (by omega)
        cases hbb
        rw [Hat.out] at e5
        simp only at k1
        clear hxx e0 e2 e3 e4
        refine wpAnyT_begin [0, 2, 6, 8] (by kernel_rfl) (by kernel_rfl) ?_
        refine wpAnyT_take (oi := ⟨some 48, Op.fieldAddr 25 (Operand.tmp 2) 1, 0, _, _, none⟩) (v := .pointer (some ⟨w.heap.size, 1, none⟩)) rfl (fun _ _ _ h => h) (by rfl) (by assumption) (fun wS hSw => ?_) ?_
        · (try dsimp only at hSw); subst hSw; go_simp <;> omega
        simp only [Act.put, List.setIfInBounds_toArray, List.set_cons_zero, List.set_cons_succ]
        refine wpAnyT_take (oi := ⟨some 50, Op.move (Operand.tmp 7), 3, _, _, none⟩) (v := .int .i64 (n : Int)) rfl (fun _ _ _ h => h) (by rfl) (by assumption) (fun wS hSw => ?_) ?_
        · (try dsimp only at hSw); subst hSw; go_simp <;> omega
        simp only [Act.put, List.setIfInBounds_toArray, List.set_cons_zero, List.set_cons_succ]
        refine wpAnyT_take (oi := ⟨some 54, Op.fieldAddr 25 (Operand.tmp 2) 1, 0, _, _, none⟩) (v := .pointer (some ⟨w.heap.size, 1, none⟩)) rfl (fun _ _ _ h => h) (by rfl) (by assumption) (fun wS hSw => ?_) ?_
        · (try dsimp only at hSw); subst hSw; go_simp <;> omega
        simp only [Act.put, List.setIfInBounds_toArray, List.set_cons_zero, List.set_cons_succ]
        refine wpAnyT_take (oi := ⟨some 56, Op.move (Operand.tmp 7), 3, _, _, none⟩) (v := .int .i64 (n : Int)) rfl (fun _ _ _ h => h) (by rfl) (by assumption) (fun wS hSw => ?_) ?_
        · (try dsimp only at hSw); subst hSw; go_simp <;> omega
        simp only [Act.put, List.setIfInBounds_toArray, List.set_cons_zero, List.set_cons_succ]
        refine wpAnyT_end ?_
        refine wpAnyH_listed #[true, false, true, false, false, false, true, false, true, false, false, false, false, false] (by kernel_rfl) ?_
        refine wpAnyT_begin [1, 7] (by kernel_rfl) (by kernel_rfl) ?_
        refine wpAnyT_take (oi := ⟨some 49, Op.load 23 (Operand.tmp 48), 23, _, _, none⟩) (v := .slice (some ⟨b, o, none⟩) L c) rfl (fun _ _ _ h => h) (by rfl) (by assumption) (fun wS hSw => ?_) ?_
        · (try dsimp only at hSw); subst hSw; go_simp <;> omega
        simp only [Act.put, List.setIfInBounds_toArray, List.set_cons_zero, List.set_cons_succ]
        refine wpAnyT_take (oi := ⟨some 55, Op.load 23 (Operand.tmp 54), 23, _, _, none⟩) (v := .slice (some ⟨b, o, none⟩) L c) rfl (fun _ _ _ h => h) (by rfl) (by assumption) (fun wS hSw => ?_) ?_
        · (try dsimp only at hSw); subst hSw; go_simp <;> omega
        simp only [Act.put, List.setIfInBounds_toArray, List.set_cons_zero, List.set_cons_succ]
        refine wpAnyT_end ?_
        refine wpAnyH_listed #[true, true, true, false, false, false, true, true, true, false, false, false, false, false] (by kernel_rfl) ?_
        refine wpAnyT_begin [3, 9] (by kernel_rfl) (by kernel_rfl) ?_
        refine wpAnyT_take (oi := ⟨some 51, Op.indexAddr 23 (Operand.tmp 49) (Operand.tmp 50), 0, _, _, none⟩) (v := .pointer (some ⟨b, o + n * 5, none⟩)) rfl (fun _ _ _ h => h) (by rfl) (by assumption) (fun wS hSw => ?_) ?_
        · (try dsimp only at hSw); subst hSw; go_simp <;> omega
        simp only [Act.put, List.setIfInBounds_toArray, List.set_cons_zero, List.set_cons_succ]
        refine wpAnyT_take (oi := ⟨some 57, Op.indexAddr 23 (Operand.tmp 55) (Operand.tmp 56), 0, _, _, none⟩) (v := .pointer (some ⟨b, o + n * 5, none⟩)) rfl (fun _ _ _ h => h) (by rfl) (by assumption) (fun wS hSw => ?_) ?_
        · (try dsimp only at hSw); subst hSw; go_simp <;> omega
        simp only [Act.put, List.setIfInBounds_toArray, List.set_cons_zero, List.set_cons_succ]
        refine wpAnyT_end ?_
        refine wpAnyH_listed #[true, true, true, true, false, false, true, true, true, true, false, false, false, false] (by kernel_rfl) ?_
        refine wpAnyT_begin [4, 10] (by kernel_rfl) (by kernel_rfl) ?_
        refine wpAnyT_take (oi := ⟨some 52, Op.fieldAddr 30 (Operand.tmp 51) 1, 0, _, _, none⟩) (v := .pointer (some ⟨b, o + n * 5 + 1, none⟩)) rfl (fun _ _ _ h => h) (by rfl) (by assumption) (fun wS hSw => ?_) ?_
        · (try dsimp only at hSw); subst hSw; go_simp <;> omega
        simp only [Act.put, List.setIfInBounds_toArray, List.set_cons_zero, List.set_cons_succ]
        refine wpAnyT_take (oi := ⟨some 58, Op.fieldAddr 30 (Operand.tmp 57) 1, 0, _, _, none⟩) (v := .pointer (some ⟨b, o + n * 5 + 1, none⟩)) rfl (fun _ _ _ h => h) (by rfl) (by assumption) (fun wS hSw => ?_) ?_
        · (try dsimp only at hSw); subst hSw; go_simp <;> omega
        simp only [Act.put, List.setIfInBounds_toArray, List.set_cons_zero, List.set_cons_succ]
        refine wpAnyT_end ?_
        refine wpAnyH_listed #[true, true, true, true, true, false, true, true, true, true, true, false, false, false] (by kernel_rfl) ?_
        refine wpAnyT_begin [5, 11] (by kernel_rfl) (by kernel_rfl) ?_
        refine wpAnyT_take (oi := ⟨some 53, Op.load 3 (Operand.tmp 52), 3, _, _, none⟩) (v := .int .i64 at1) rfl (fun _ _ _ h => h) (by rfl) (by assumption) (fun wS hSw => ?_) ?_
        · (try dsimp only at hSw); subst hSw; go_simp <;> omega
        simp only [Act.put, List.setIfInBounds_toArray, List.set_cons_zero, List.set_cons_succ]
        refine wpAnyT_take (oi := ⟨some 59, Op.load 3 (Operand.tmp 58), 3, _, _, none⟩) (v := .int .i64 at1) rfl (fun _ _ _ h => h) (by rfl) (by assumption) (fun wS hSw => ?_) ?_
        · (try dsimp only at hSw); subst hSw; go_simp <;> omega
        simp only [Act.put, List.setIfInBounds_toArray, List.set_cons_zero, List.set_cons_succ]
        refine wpAnyT_end ?_
        refine wpAnyH_listed #[true, true, true, true, true, true, true, true, true, true, true, true, false, false] (by kernel_rfl) ?_
        refine wpAnyT_begin [12] (by kernel_rfl) (by kernel_rfl) ?_
        refine wpAnyT_take (oi := ⟨some 60, Op.binOp BinOp.mul 3 (Operand.tmp 53) (Operand.tmp 59) 3, 3, _, _, none⟩) (v := .int .i64 en) rfl (fun _ _ _ h => h) (by rfl) (by assumption) (fun wS hSw => ?_) ?_
        · (try dsimp only at hSw); subst hSw; go_simp <;> omega
        simp only [Act.put, List.setIfInBounds_toArray, List.set_cons_zero, List.set_cons_succ]
        refine wpAnyT_end ?_
        refine wpAnyH_listed #[true, true, true, true, true, true, true, true, true, true, true, true, true, false] (by kernel_rfl) ?_
        refine wpAnyT_begin [13] (by kernel_rfl) (by kernel_rfl) ?_
        refine wpAnyT_take (oi := ⟨some 9, Op.assign (Operand.tmp 60), 3, _, _, none⟩) (v := .int .i64 en) rfl (fun _ _ _ h => h) (by rfl) (by assumption) (fun wS hSw => ?_) ?_
        · (try dsimp only at hSw); subst hSw; go_simp <;> omega
        simp only [Act.put, List.setIfInBounds_toArray, List.set_cons_zero, List.set_cons_succ]
        refine wpAnyT_end ?_
        refine wpAnyH_listed #[true, true, true, true, true, true, true, true, true, true, true, true, true, true] (by kernel_rfl) ?_
        refine wpAnyH_done (by kernel_rfl) ?_ _
        clear hHeld
        clear k1 e5
        have k2 := CB.tail.fact (.head _) (i := 0) rfl
        have k3 := CB.tail.fact (.head _) (i := 1) rfl
        have f2 := CB.tail.free (.head _) (i := 0) rfl
        have f3 := CB.tail.free (.head _) (i := 1) rfl
        simp only at k2 k3 f2 f3
        have hse2 : ¬ en ≤ s := by omega
        have hse3 : ¬ s ≥ en := by omega
        by_cases hsb : s ≤ bg
        · have Hno := Lib.hid (doA_no (show doI s es = false by unfold doI; rw [Hn.out, Hbg.out, decide_eq_false (show ¬ bg < s by omega)]; simp))
          go_wp2_with fail
          have X := CB.swap.set2 (.int .i64 0) (.int .i64 0)
          generalize (wB.setCell ⟨w.heap.size + 1, 0, none⟩ (.int .i64 0)).setCell ⟨w.heap.size + 1, 1, none⟩ (.int .i64 0) = w9 at *
          obtain ⟨d1, d2⟩ := X.pt
          exact bodyPost_ret (v := .tuple #[.int .i64 0, .agg #[.int .i64 0, .int .i64 0], .bool false]) (by simp [results, Try.results14, go_sem, d1, d2]) rfl ⟨by rw [Hno.out], X.low⟩
        · have hI : doI s es = true := by unfold doI; rw [Hn.out, Hbg.out, Hat.out, Hok.out, decide_eq_true (show bg < s by omega), decide_eq_true (show n < es.length by omega)]; rfl
          have Hyes := Lib.hid (doA_yes hI Hn.out Hbg.out (show endA (atE es n) = en by rw [Hat.out, ← Hen.out]; unfold endA; rw [Hok.out]; rfl))
          clear hI
          have q1 : wrap64 (s - bg) = s - bg := IntWalk.wrap64_in _ ⟨by omega, by omega⟩
          have q2 : wrap64 (en - bg) = en - bg := IntWalk.wrap64_in _ ⟨by omega, by omega⟩
          have q3 : 1 ≤ en - bg := by omega
          go_wp2_with fail
          refine (Has.call CB (rlowest_all (s - bg) (en - bg) _ (by omega) (by omega))).mono ?_
          rintro e w5 ⟨rfl, C5⟩
          obtain ⟨u, hu⟩ : ∃ u, lowN (s - bg) (en - bg) = u := ⟨_, rfl⟩
          obtain ⟨z, hz⟩ : ∃ u, lowD (s - bg) (en - bg) = u := ⟨_, rfl⟩
          have Hu := Lib.hid hu
          have Hz := Lib.hid hz
          rw [hu, hz]
          clear hu hz k2 k3 f2 f3 CB q1 q2 q3
          have C6 := C5.push [.int .i64 u, .int .i64 z] 36
          go_wp2_with fail
          generalize w5.alloc (.cells #[.int .i64 u, .int .i64 z] 36) = w6 at *
          generalize w5.heap.size = G at *
          have k0 := C6.fact (.head _) (i := 0) rfl
          have k1 := C6.fact (.head _) (i := 1) rfl
          have k2 := C6.tail.tail.fact (.head _) (i := 0) rfl
          have k3 := C6.tail.tail.fact (.head _) (i := 1) rfl
          have f2 := C6.tail.tail.free (.head _) (i := 0) rfl
          have f3 := C6.tail.tail.free (.head _) (i := 1) rfl
          simp only at k0 k1 k2 k3 f2 f3
          go_region
          all_goals
            have X := (C6.third.set2 (.int .i64 u) (.int .i64 z)).drew
            generalize ((w6.setCell ⟨w.heap.size + 1, 0, none⟩ (.int .i64 u)).setCell ⟨w.heap.size + 1, 1, none⟩ (.int .i64 z)).drew = w7 at *
            obtain ⟨d1, d2⟩ := X.pt
            go_wp2_with fail
            exact bodyPost_ret (v := .tuple #[.int .i64 (n : Int), .agg #[.int .i64 u, .int .i64 z], .bool true]) (by simp [results, Try.results14, go_sem, d1, d2]) rfl ⟨by rw [Hyes.out, Hu.out, Hz.out], X.low⟩
  · have g1 : ((n : Int) == (L : Int)) = true := by rw [beq_iff_eq]; omega
    have Hno := Lib.hid (doA_no (show doI s es = false by unfold doI; rw [Hn.out, decide_eq_false (by omega)]; rfl))
    go_wp2_with fail
    have X := C2.swap.set2 (.int .i64 0) (.int .i64 0)
    generalize (w2.setCell ⟨w.heap.size + 1, 0, none⟩ (.int .i64 0)).setCell ⟨w.heap.size + 1, 1, none⟩ (.int .i64 0) = w9 at *
    obtain ⟨d1, d2⟩ := X.pt
    exact bodyPost_ret (v := .tuple #[.int .i64 0, .agg #[.int .i64 0, .int .i64 0], .bool false]) (by simp [results, Try.results14, go_sem, d1, d2]) rfl ⟨by rw [Hno.out], X.low⟩
end Go.Proofs.Ytfcoblapbcdaiaa
