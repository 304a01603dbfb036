/- The law on fractions. -/
import Derived.Test.YtfcoblapbcdaiaaM1
namespace Go.Proofs.Ytfcoblapbcdaiaa
open Go.RowKit Go.Lib
attribute [local go_sem] Oper.semAt_some
set_option linter.unusedSimpArgs false in
set_option maxRecDepth 100000 in
set_option maxHeartbeats 16000000 in
theorem fractions_any (v : Value) (xs : List Int) (q p : Nat) (w : World) (hv : Row tI w v xs) (hq : q < 256) (hp : p < 4294967296) :
    Calls Try.prog 5 #[v, .int .u8 (q : Int), .int .u32 (p : Int)] w fun e w' => e = .returned (.bool true) ∧ Below w.heap.size w w' := by
  have HV := Lib.hid hv
  clear hv
  go_enter Try.func5, Try.ntmps5
  go_wp2_with fail
  refine (sane_any _).mono ?_
  rintro e w1 ⟨rfl, g1⟩
  go_wp2_with fail
  refine (made_any v xs _ (HV.out.later g1)).mono ?_
  rintro e w2 ⟨d, ev, es, rfl, R, HA0, g2⟩
  have g := Below.trans g1 (g2.mono g1.size)
  clear g1 g2
  obtain ⟨a, L, c, rfl, hL, hc1, hc2, R⟩ := R.form
  have HR := Lib.hid R
  have HA := Lib.hid HA0
  have HG := Lib.hid g
  have hL8 : L ≤ 8 := by have := HA0.len; omega
  clear R HA0 g
  have C := has1 (w := w2) [.int .i64 d, .slice a L c] 25
  change Has w2 _ (w2.alloc (.cells #[.int .i64 d, .slice a L c] 25)) at C
  rcases Nat.eq_zero_or_pos L with hz | hz
  · have hes : es = [] := List.eq_nil_of_length_eq_zero (by omega)
    subst hz
    go_wp2_with fail
    generalize w2.alloc (.cells #[.int .i64 d, .slice a 0 c] 25) = w3 at *
    generalize hA2 : w2.heap.size = A at *
    clear hA2
    refine (Has.call C (doing_any d _ es (p : Int) _ (by omega) (HR.out.later C.low))).mono ?_
    rintro e w4 ⟨rfl, C4⟩
    rw [doA_no (show doI (p : Int) es = false by rw [hes]; rfl)]
    have C5 := C4.push [.int .i64 0, .int .i64 0] 36
    go_wp2_with fail
    go_ret
    exact ⟨rfl, Below.trans HG.out (C5.low.mono HG.out.size)⟩
  · have g1 : ((L : Int) == 0) = false := by rw [beq_eq_false_iff_ne]; omega
    have g2 : ¬ (L : Int) = 0 := by omega
    have g3 : ¬ L = 0 := by omega
    go_wp2_with fail
    generalize w2.alloc (.cells #[.int .i64 d, .slice a L c] 25) = w3 at *
    generalize hA2 : w2.heap.size = A at *
    clear hA2
    generalize hkq : ((q : Int) % (L : Int)) = kk at *
    have hk0 : 0 ≤ kk := by rw [← hkq]; exact Int.emod_nonneg _ (by omega)
    have hk1 : kk < L := by rw [← hkq]; exact Int.emod_lt_of_pos _ (by omega)
    obtain ⟨k, rfl⟩ : ∃ k : Nat, kk = k := ⟨kk.toNat, by omega⟩
    clear hkq hk0 g1 g2 g3 hz
    have hkL : k < es.length := by omega
    have Ha := HA.out
    obtain ⟨at1, hat⟩ : ∃ x, atE es k = x := ⟨_, rfl⟩
    obtain ⟨en, hen⟩ : ∃ x, endA (atE es k) = x := ⟨_, rfl⟩
    have hea := Ha.end_ hkL
    have hbe := Ha.beg_lt hkL
    obtain ⟨x1, x2⟩ := endA_bd (atE es k)
    obtain ⟨y1, y2⟩ := begE_bd es k
    obtain ⟨bg, hbg⟩ : ∃ x, begE es k = x := ⟨_, rfl⟩
    rw [hen] at hea hbe x1 x2
    rw [hbg] at hbe y1 y2
    rw [hat] at hea
    have Hat := Lib.hid hat
    have Hen := Lib.hid hen
    have Hbg := Lib.hid hbg
    have en1 : at1 * at1 = en := hea.symm
    have x3 : IntKind.i64.wrap en = en := by rw [IntKind.wrap_i64]; omega
    have x4 : wrap64 en = en := IntWalk.wrap64_in _ ⟨by omega, by omega⟩
    clear hea hat hen hbg Ha
    refine wp_region_held_drew (S := fun wz => wz = w3.drew) (by kernel_rfl) rfl (fun hHeld => ?_)
    have C4 := C.drew
    generalize w3.drew = w4 at *
    have k1 := C4.fact (.head _) (i := 1) rfl
    obtain ⟨b, o, ki', id', ot', nn', rfl, hxx, e0, e5, e2, e3, e4⟩ := (HR.out.later C4.low).ev (k := k) (by omega)
    rw [Hat.out] at e5
    simp only at k1
    clear hxx e0 e2 e3 e4
    refine wpAnyT_begin [0, 2, 6, 8, 13] (by kernel_rfl) (by kernel_rfl) ?_
    refine wpAnyT_take (oi := ⟨some 51, Op.fieldAddr 25 (Operand.tmp 8) 1, 0, _, _, none⟩) (v := .pointer (some ⟨A, 1, none⟩)) rfl (fun _ _ _ h => h) (by rfl) (by assumption) (fun wS hSw => ?_) ?_
    · (try dsimp only at hSw); subst hSw; go_simp <;> omega
    simp only [Act.put, List.setIfInBounds_toArray, List.set_cons_zero, List.set_cons_succ]
    refine wpAnyT_take (oi := ⟨some 53, Op.move (Operand.tmp 12), 3, _, _, none⟩) (v := .int .i64 (k : Int)) rfl (fun _ _ _ h => h) (by rfl) (by assumption) (fun wS hSw => ?_) ?_
    · (try dsimp only at hSw); subst hSw; go_simp <;> omega
    simp only [Act.put, List.setIfInBounds_toArray, List.set_cons_zero, List.set_cons_succ]
    refine wpAnyT_take (oi := ⟨some 57, Op.fieldAddr 25 (Operand.tmp 8) 1, 0, _, _, none⟩) (v := .pointer (some ⟨A, 1, none⟩)) rfl (fun _ _ _ h => h) (by rfl) (by assumption) (fun wS hSw => ?_) ?_
    · (try dsimp only at hSw); subst hSw; go_simp <;> omega
    simp only [Act.put, List.setIfInBounds_toArray, List.set_cons_zero, List.set_cons_succ]
    refine wpAnyT_take (oi := ⟨some 59, Op.move (Operand.tmp 12), 3, _, _, none⟩) (v := .int .i64 (k : Int)) rfl (fun _ _ _ h => h) (by rfl) (by assumption) (fun wS hSw => ?_) ?_
    · (try dsimp only at hSw); subst hSw; go_simp <;> omega
    simp only [Act.put, List.setIfInBounds_toArray, List.set_cons_zero, List.set_cons_succ]
    refine wpAnyT_take (oi := ⟨some 13, Op.assign (Operand.const (Value.int IntKind.i64 0)), 3, _, _, none⟩) (v := .int .i64 0) rfl (fun _ _ _ h => h) (by rfl) (by assumption) (fun wS hSw => ?_) ?_
    · (try dsimp only at hSw); subst hSw; go_simp <;> omega
    simp only [Act.put, List.setIfInBounds_toArray, List.set_cons_zero, List.set_cons_succ]
    refine wpAnyT_end ?_
    refine wpAnyH_listed #[true, false, true, false, false, false, true, false, true, false, false, false, false, true, false] (by kernel_rfl) ?_
    refine wpAnyT_begin [1, 7] (by kernel_rfl) (by kernel_rfl) ?_
    refine wpAnyT_take (oi := ⟨some 52, Op.load 23 (Operand.tmp 51), 23, _, _, none⟩) (v := .slice (some ⟨b, o, none⟩) L c) rfl (fun _ _ _ h => h) (by rfl) (by assumption) (fun wS hSw => ?_) ?_
    · (try dsimp only at hSw); subst hSw; go_simp <;> omega
    simp only [Act.put, List.setIfInBounds_toArray, List.set_cons_zero, List.set_cons_succ]
    refine wpAnyT_take (oi := ⟨some 58, Op.load 23 (Operand.tmp 57), 23, _, _, none⟩) (v := .slice (some ⟨b, o, none⟩) L c) rfl (fun _ _ _ h => h) (by rfl) (by assumption) (fun wS hSw => ?_) ?_
    · (try dsimp only at hSw); subst hSw; go_simp <;> omega
    simp only [Act.put, List.setIfInBounds_toArray, List.set_cons_zero, List.set_cons_succ]
    refine wpAnyT_end ?_
    refine wpAnyH_listed #[true, true, true, false, false, false, true, true, true, false, false, false, false, true, false] (by kernel_rfl) ?_
    refine wpAnyT_begin [3, 9] (by kernel_rfl) (by kernel_rfl) ?_
    refine wpAnyT_take (oi := ⟨some 54, Op.indexAddr 23 (Operand.tmp 52) (Operand.tmp 53), 0, _, _, none⟩) (v := .pointer (some ⟨b, o + k * 5, none⟩)) rfl (fun _ _ _ h => h) (by rfl) (by assumption) (fun wS hSw => ?_) ?_
    · (try dsimp only at hSw); subst hSw; go_simp <;> omega
    simp only [Act.put, List.setIfInBounds_toArray, List.set_cons_zero, List.set_cons_succ]
    refine wpAnyT_take (oi := ⟨some 60, Op.indexAddr 23 (Operand.tmp 58) (Operand.tmp 59), 0, _, _, none⟩) (v := .pointer (some ⟨b, o + k * 5, none⟩)) rfl (fun _ _ _ h => h) (by rfl) (by assumption) (fun wS hSw => ?_) ?_
    · (try dsimp only at hSw); subst hSw; go_simp <;> omega
    simp only [Act.put, List.setIfInBounds_toArray, List.set_cons_zero, List.set_cons_succ]
    refine wpAnyT_end ?_
    refine wpAnyH_listed #[true, true, true, true, false, false, true, true, true, true, false, false, false, true, false] (by kernel_rfl) ?_
    refine wpAnyT_begin [4, 10] (by kernel_rfl) (by kernel_rfl) ?_
    refine wpAnyT_take (oi := ⟨some 55, Op.fieldAddr 30 (Operand.tmp 54) 1, 0, _, _, none⟩) (v := .pointer (some ⟨b, o + k * 5 + 1, none⟩)) rfl (fun _ _ _ h => h) (by rfl) (by assumption) (fun wS hSw => ?_) ?_
    · (try dsimp only at hSw); subst hSw; go_simp <;> omega
    simp only [Act.put, List.setIfInBounds_toArray, List.set_cons_zero, List.set_cons_succ]
    refine wpAnyT_take (oi := ⟨some 61, Op.fieldAddr 30 (Operand.tmp 60) 1, 0, _, _, none⟩) (v := .pointer (some ⟨b, o + k * 5 + 1, none⟩)) rfl (fun _ _ _ h => h) (by rfl) (by assumption) (fun wS hSw => ?_) ?_
    · (try dsimp only at hSw); subst hSw; go_simp <;> omega
    simp only [Act.put, List.setIfInBounds_toArray, List.set_cons_zero, List.set_cons_succ]
    refine wpAnyT_end ?_
    refine wpAnyH_listed #[true, true, true, true, true, false, true, true, true, true, true, false, false, true, false] (by kernel_rfl) ?_
    refine wpAnyT_begin [5, 11] (by kernel_rfl) (by kernel_rfl) ?_
    refine wpAnyT_take (oi := ⟨some 56, Op.load 3 (Operand.tmp 55), 3, _, _, none⟩) (v := .int .i64 at1) rfl (fun _ _ _ h => h) (by rfl) (by assumption) (fun wS hSw => ?_) ?_
    · (try dsimp only at hSw); subst hSw; go_simp <;> omega
    simp only [Act.put, List.setIfInBounds_toArray, List.set_cons_zero, List.set_cons_succ]
    refine wpAnyT_take (oi := ⟨some 62, Op.load 3 (Operand.tmp 61), 3, _, _, none⟩) (v := .int .i64 at1) rfl (fun _ _ _ h => h) (by rfl) (by assumption) (fun wS hSw => ?_) ?_
    · (try dsimp only at hSw); subst hSw; go_simp <;> omega
    simp only [Act.put, List.setIfInBounds_toArray, List.set_cons_zero, List.set_cons_succ]
    refine wpAnyT_end ?_
    refine wpAnyH_listed #[true, true, true, true, true, true, true, true, true, true, true, true, false, true, false] (by kernel_rfl) ?_
    refine wpAnyT_begin [12] (by kernel_rfl) (by kernel_rfl) ?_
    refine wpAnyT_take (oi := ⟨some 63, Op.binOp BinOp.mul 3 (Operand.tmp 56) (Operand.tmp 62) 3, 3, _, _, none⟩) (v := .int .i64 en) rfl (fun _ _ _ h => h) (by rfl) (by assumption) (fun wS hSw => ?_) ?_
    · (try dsimp only at hSw); subst hSw; go_simp <;> omega
    simp only [Act.put, List.setIfInBounds_toArray, List.set_cons_zero, List.set_cons_succ]
    refine wpAnyT_end ?_
    refine wpAnyH_listed #[true, true, true, true, true, true, true, true, true, true, true, true, true, true, false] (by kernel_rfl) ?_
    refine wpAnyT_begin [14] (by kernel_rfl) (by kernel_rfl) ?_
    refine wpAnyT_take (oi := ⟨some 14, Op.assign (Operand.tmp 63), 3, _, _, none⟩) (v := .int .i64 en) rfl (fun _ _ _ h => h) (by rfl) (by assumption) (fun wS hSw => ?_) ?_
    · (try dsimp only at hSw); subst hSw; go_simp <;> omega
    simp only [Act.put, List.setIfInBounds_toArray, List.set_cons_zero, List.set_cons_succ]
    refine wpAnyT_end ?_
    refine wpAnyH_listed #[true, true, true, true, true, true, true, true, true, true, true, true, true, true, true] (by kernel_rfl) ?_
    refine wpAnyH_done (by kernel_rfl) ?_ _
    clear hHeld
    clear k1 e5 en1
    go_upto_if 65 with fail
    go_cut [13] (fun v wx => v = .int .i64 bg ∧ Has w2 [(A, [.int .i64 d, .slice (some ⟨b, o, none⟩) L c])] wx)
    case first =>
      rcases Nat.eq_zero_or_pos k with hz | hz
      · have z0 : bg = 0 := by rw [← Hbg.out, hz]; rfl
        have g7 : ¬ (k : Int) > 0 := by omega
        have ZZ := Lib.hid z0
        clear z0 hz
        go_wp2_with fail
        go_meet
        exact ⟨by rw [ZZ.out], C4⟩
      · obtain ⟨m, hm⟩ : ∃ m : Nat, k = m + 1 := ⟨k - 1, by omega⟩
        obtain ⟨p1, hp1⟩ : ∃ x, atE es m = x := ⟨_, rfl⟩
        have bg1 : p1 * p1 = bg := by rw [← Hbg.out, hm, begE_succ, HA.out.end_ (by omega), hp1]
        have g7 : (k : Int) > 0 := by omega
        have q1 : (k : Int) - 1 = (m : Int) := by omega
        have q2 : (m : Int) < L := by omega
        have q3 : IntKind.i64.wrap (m : Int) = (m : Int) := by rw [IntKind.wrap_i64]; omega
        have q4 : IntKind.i64.wrap bg = bg := by rw [IntKind.wrap_i64]; omega
        have q5 : wrap64 bg = bg := IntWalk.wrap64_in _ ⟨by omega, by omega⟩
        have Hm := Lib.hid hm
        have Hp := Lib.hid hp1
        clear hz hm hp1
        go_wp2_with fail
        refine wp_region_held_drew (S := fun wz => wz = w4.drew) (by kernel_rfl) rfl (fun hHeld => ?_)
        have CA := C4.drew
        generalize w4.drew = wA at *
        have k1 := CA.fact (.head _) (i := 1) rfl
        obtain ⟨b', o', ki', id', ot', nn', hbb, hxx, e0, e1, e2, e3, e4⟩ := (HR.out.later CA.low).ev (k := m) (by have := Hm.out; omega)
        cases hbb
        rw [Hp.out] at e1
        simp only at k1
        clear hxx e0 e2 e3 e4
        refine wpAnyT_begin [0, 2, 7, 9] (by kernel_rfl) (by kernel_rfl) ?_
        refine wpAnyT_take (oi := ⟨some 66, Op.fieldAddr 25 (Operand.tmp 8) 1, 0, _, _, none⟩) (v := .pointer (some ⟨A, 1, none⟩)) rfl (fun _ _ _ h => h) (by rfl) (by assumption) (fun wS hSw => ?_) ?_
        · (try dsimp only at hSw); subst hSw; go_simp <;> omega
        simp only [Act.put, List.setIfInBounds_toArray, List.set_cons_zero, List.set_cons_succ]
        refine wpAnyT_take (oi := ⟨some 68, Op.move (Operand.tmp 12), 3, _, _, none⟩) (v := .int .i64 (k : Int)) rfl (fun _ _ _ h => h) (by rfl) (by assumption) (fun wS hSw => ?_) ?_
        · (try dsimp only at hSw); subst hSw; go_simp <;> omega
        simp only [Act.put, List.setIfInBounds_toArray, List.set_cons_zero, List.set_cons_succ]
        refine wpAnyT_take (oi := ⟨some 73, Op.fieldAddr 25 (Operand.tmp 8) 1, 0, _, _, none⟩) (v := .pointer (some ⟨A, 1, none⟩)) rfl (fun _ _ _ h => h) (by rfl) (by assumption) (fun wS hSw => ?_) ?_
        · (try dsimp only at hSw); subst hSw; go_simp <;> omega
        simp only [Act.put, List.setIfInBounds_toArray, List.set_cons_zero, List.set_cons_succ]
        refine wpAnyT_take (oi := ⟨some 75, Op.move (Operand.tmp 12), 3, _, _, none⟩) (v := .int .i64 (k : Int)) rfl (fun _ _ _ h => h) (by rfl) (by assumption) (fun wS hSw => ?_) ?_
        · (try dsimp only at hSw); subst hSw; go_simp <;> omega
        simp only [Act.put, List.setIfInBounds_toArray, List.set_cons_zero, List.set_cons_succ]
        refine wpAnyT_end ?_
        refine wpAnyH_listed #[true, false, true, false, false, false, false, true, false, true, false, false, false, false, false, false] (by kernel_rfl) ?_
        refine wpAnyT_begin [1, 3, 8, 10] (by kernel_rfl) (by kernel_rfl) ?_
        refine wpAnyT_take (oi := ⟨some 67, Op.load 23 (Operand.tmp 66), 23, _, _, none⟩) (v := .slice (some ⟨b, o, none⟩) L c) rfl (fun _ _ _ h => h) (by rfl) (by assumption) (fun wS hSw => ?_) ?_
        · (try dsimp only at hSw); subst hSw; go_simp <;> omega
        simp only [Act.put, List.setIfInBounds_toArray, List.set_cons_zero, List.set_cons_succ]
        refine wpAnyT_take (oi := ⟨some 69, Op.binOp BinOp.sub 3 (Operand.tmp 68) (Operand.const (Value.int IntKind.i64 1)) 3, 3, _, _, none⟩) (v := .int .i64 (m : Int)) rfl (fun _ _ _ h => h) (by rfl) (by assumption) (fun wS hSw => ?_) ?_
        · (try dsimp only at hSw); subst hSw; go_simp <;> omega
        simp only [Act.put, List.setIfInBounds_toArray, List.set_cons_zero, List.set_cons_succ]
        refine wpAnyT_take (oi := ⟨some 74, Op.load 23 (Operand.tmp 73), 23, _, _, none⟩) (v := .slice (some ⟨b, o, none⟩) L c) rfl (fun _ _ _ h => h) (by rfl) (by assumption) (fun wS hSw => ?_) ?_
        · (try dsimp only at hSw); subst hSw; go_simp <;> omega
        simp only [Act.put, List.setIfInBounds_toArray, List.set_cons_zero, List.set_cons_succ]
        refine wpAnyT_take (oi := ⟨some 76, Op.binOp BinOp.sub 3 (Operand.tmp 75) (Operand.const (Value.int IntKind.i64 1)) 3, 3, _, _, none⟩) (v := .int .i64 (m : Int)) rfl (fun _ _ _ h => h) (by rfl) (by assumption) (fun wS hSw => ?_) ?_
        · (try dsimp only at hSw); subst hSw; go_simp <;> omega
        simp only [Act.put, List.setIfInBounds_toArray, List.set_cons_zero, List.set_cons_succ]
        refine wpAnyT_end ?_
        refine wpAnyH_listed #[true, true, true, true, false, false, false, true, true, true, true, false, false, false, false, false] (by kernel_rfl) ?_
        refine wpAnyT_begin [4, 11] (by kernel_rfl) (by kernel_rfl) ?_
        refine wpAnyT_take (oi := ⟨some 70, Op.indexAddr 23 (Operand.tmp 67) (Operand.tmp 69), 0, _, _, none⟩) (v := .pointer (some ⟨b, o + m * 5, none⟩)) rfl (fun _ _ _ h => h) (by rfl) (by assumption) (fun wS hSw => ?_) ?_
        · (try dsimp only at hSw); subst hSw; go_simp <;> omega
        simp only [Act.put, List.setIfInBounds_toArray, List.set_cons_zero, List.set_cons_succ]
        refine wpAnyT_take (oi := ⟨some 77, Op.indexAddr 23 (Operand.tmp 74) (Operand.tmp 76), 0, _, _, none⟩) (v := .pointer (some ⟨b, o + m * 5, none⟩)) rfl (fun _ _ _ h => h) (by rfl) (by assumption) (fun wS hSw => ?_) ?_
        · (try dsimp only at hSw); subst hSw; go_simp <;> omega
        simp only [Act.put, List.setIfInBounds_toArray, List.set_cons_zero, List.set_cons_succ]
        refine wpAnyT_end ?_
        refine wpAnyH_listed #[true, true, true, true, true, false, false, true, true, true, true, true, false, false, false, false] (by kernel_rfl) ?_
        refine wpAnyT_begin [5, 12] (by kernel_rfl) (by kernel_rfl) ?_
        refine wpAnyT_take (oi := ⟨some 71, Op.fieldAddr 30 (Operand.tmp 70) 1, 0, _, _, none⟩) (v := .pointer (some ⟨b, o + m * 5 + 1, none⟩)) rfl (fun _ _ _ h => h) (by rfl) (by assumption) (fun wS hSw => ?_) ?_
        · (try dsimp only at hSw); subst hSw; go_simp <;> omega
        simp only [Act.put, List.setIfInBounds_toArray, List.set_cons_zero, List.set_cons_succ]
        refine wpAnyT_take (oi := ⟨some 78, Op.fieldAddr 30 (Operand.tmp 77) 1, 0, _, _, none⟩) (v := .pointer (some ⟨b, o + m * 5 + 1, none⟩)) rfl (fun _ _ _ h => h) (by rfl) (by assumption) (fun wS hSw => ?_) ?_
        · (try dsimp only at hSw); subst hSw; go_simp <;> omega
        simp only [Act.put, List.setIfInBounds_toArray, List.set_cons_zero, List.set_cons_succ]
        refine wpAnyT_end ?_
        refine wpAnyH_listed #[true, true, true, true, true, true, false, true, true, true, true, true, true, false, false, false] (by kernel_rfl) ?_
        refine wpAnyT_begin [6, 13] (by kernel_rfl) (by kernel_rfl) ?_
        refine wpAnyT_take (oi := ⟨some 72, Op.load 3 (Operand.tmp 71), 3, _, _, none⟩) (v := .int .i64 p1) rfl (fun _ _ _ h => h) (by rfl) (by assumption) (fun wS hSw => ?_) ?_
        · (try dsimp only at hSw); subst hSw; go_simp <;> omega
        simp only [Act.put, List.setIfInBounds_toArray, List.set_cons_zero, List.set_cons_succ]
        refine wpAnyT_take (oi := ⟨some 79, Op.load 3 (Operand.tmp 78), 3, _, _, none⟩) (v := .int .i64 p1) rfl (fun _ _ _ h => h) (by rfl) (by assumption) (fun wS hSw => ?_) ?_
        · (try dsimp only at hSw); subst hSw; go_simp <;> omega
        simp only [Act.put, List.setIfInBounds_toArray, List.set_cons_zero, List.set_cons_succ]
        refine wpAnyT_end ?_
        refine wpAnyH_listed #[true, true, true, true, true, true, true, true, true, true, true, true, true, true, false, false] (by kernel_rfl) ?_
        refine wpAnyT_begin [14] (by kernel_rfl) (by kernel_rfl) ?_
        refine wpAnyT_take (oi := ⟨some 80, Op.binOp BinOp.mul 3 (Operand.tmp 72) (Operand.tmp 79) 3, 3, _, _, none⟩) (v := .int .i64 bg) rfl (fun _ _ _ h => h) (by rfl) (by assumption) (fun wS hSw => ?_) ?_
        · (try dsimp only at hSw); subst hSw; go_simp <;> omega
        simp only [Act.put, List.setIfInBounds_toArray, List.set_cons_zero, List.set_cons_succ]
        refine wpAnyT_end ?_
        refine wpAnyH_listed #[true, true, true, true, true, true, true, true, true, true, true, true, true, true, true, false] (by kernel_rfl) ?_
        refine wpAnyT_begin [15] (by kernel_rfl) (by kernel_rfl) ?_
        refine wpAnyT_take (oi := ⟨some 13, Op.assign (Operand.tmp 80), 3, _, _, none⟩) (v := .int .i64 bg) rfl (fun _ _ _ h => h) (by rfl) (by assumption) (fun wS hSw => ?_) ?_
        · (try dsimp only at hSw); subst hSw; go_simp <;> omega
        simp only [Act.put, List.setIfInBounds_toArray, List.set_cons_zero, List.set_cons_succ]
        refine wpAnyT_end ?_
        refine wpAnyH_listed #[true, true, true, true, true, true, true, true, true, true, true, true, true, true, true, true] (by kernel_rfl) ?_
        refine wpAnyH_done (by kernel_rfl) ?_ _
        clear hHeld
        go_wp2_with fail
        go_meet
        exact ⟨rfl, CA⟩
    case rest =>
      obtain ⟨rfl, CA⟩ := hcut
      rename World => wA
      clear C4
      have k0 := CA.fact (.head _) (i := 0) rfl
      have k1 := CA.fact (.head _) (i := 1) rfl
      simp only at k0 k1
      go_wp2_with fail
      refine (Has.call CA (doing_any d _ es bg _ (by omega) (HR.out.later CA.low))).mono ?_
      rintro e w5 ⟨rfl, C5⟩
      rw [doA_no (by rw [← Hbg.out]; exact HA.out.doing_beg (by omega))]
      clear k0 k1 CA
      have C6 := C5.push [.int .i64 0, .int .i64 0] 36
      change Has w2 _ (w5.alloc (.cells #[.int .i64 0, .int .i64 0] 36)) at C6
      by_cases hsm : en - bg < 2
      · go_wp2_with fail
        go_ret
        exact ⟨rfl, Below.trans HG.out (C6.low.mono HG.out.size)⟩
      · obtain ⟨DD, hDD⟩ : ∃ x, en - bg = x := ⟨_, rfl⟩
        have hDb : 2 ≤ DD ∧ DD ≤ 1048576 := by omega
        have r0 : 0 ≤ (p : Int) % (DD - 1) := Int.emod_nonneg _ (by omega)
        have r1 : (p : Int) % (DD - 1) < DD - 1 := Int.emod_lt_of_pos _ (by omega)
        have dz : ¬ DD - 1 = 0 := by omega
        have dz2 : (DD - 1 == 0) = false := by rw [beq_eq_false_iff_ne]; omega
        have hsm2 : ¬ DD < 2 := by omega
        obtain ⟨s1, hs1⟩ : ∃ x, bg + 1 + (p : Int) % (DD - 1) = x := ⟨_, rfl⟩
        have t1 : bg < s1 ∧ s1 < en := by omega
        have t2 : wrap64 s1 = s1 := IntWalk.wrap64_in _ ⟨by omega, by omega⟩
        have t3 : IntKind.i64.wrap s1 = s1 := by rw [IntKind.wrap_i64]; omega
        obtain ⟨NN, hNN⟩ : ∃ x, s1 - bg = x := ⟨_, rfl⟩
        have hNb : 1 ≤ NN ∧ NN < DD := by omega
        obtain ⟨gg, u, z, hu, hz', hg1, hgN, hgD, hu1, huz, hgcd, hzb⟩ := low_parts hNb.1 hNb.2 hDb.2
        have hcross := low_cross hNb.1 hNb.2 hDb.2
        rw [hu, hz'] at hcross
        obtain ⟨PP, hPP⟩ : ∃ x, u * DD = x := ⟨_, rfl⟩
        have hPb : 0 ≤ PP ∧ PP ≤ 1099511627776 := by
          rw [← hPP]
          exact ⟨Int.mul_nonneg (by omega) (by omega), by have := Int.mul_le_mul (show u ≤ 1048576 by omega) hDb.2 (by omega) (by omega); omega⟩
        have hPP2 : z * NN = PP := by rw [← hPP, hcross]
        have t4 : wrap64 PP = PP := IntWalk.wrap64_in _ ⟨by omega, by omega⟩
        have t5 : IntKind.i64.wrap PP = PP := by rw [IntKind.wrap_i64]; omega
        have Hu := Lib.hid hu
        have Hz := Lib.hid hz'
        have Hgcd := Lib.hid hgcd
        have Hes := Lib.hid (show endA (atE es k) = en from Hen.out)
        have HD1 := Lib.hid (HA.out.done hkL (s := s1) (by rw [Hbg.out]; omega) (by rw [Hen.out]; omega))
        have HY1 := Lib.hid (doA_yes (HA.out.doing_in hkL (s := s1) (by rw [Hbg.out]; omega) (by rw [Hen.out]; omega)) HD1.out Hbg.out Hen.out)
        rw [hNN, hDD, hu, hz'] at HY1
        have HC1 := Lib.hid (fun (h : NN + 1 < DD) => low_grows hNb.1 h hDb.2)
        rw [hu, hz'] at HC1
        clear hu hz' hgcd hg1 hgN hgD hcross
        have k0 := C6.tail.fact (.head _) (i := 0) rfl
        have k1 := C6.tail.fact (.head _) (i := 1) rfl
        simp only at k0 k1
        go_wp2_with fail
        generalize w5.alloc (.cells #[.int .i64 0, .int .i64 0] 36) = w6 at *
        generalize w5.heap.size = G0 at *
        refine (Has.call C6 (doing_any d _ es s1 _ (by omega) (HR.out.later C6.low))).mono ?_
        rintro e w7 ⟨rfl, C7⟩
        rw [HY1.out]
        clear k0 k1 C6 C5
        have C8 := C7.push [.int .i64 u, .int .i64 z] 36
        change Has w2 _ (w7.alloc (.cells #[.int .i64 u, .int .i64 z] 36)) at C8
        go_wp2_with fail
        generalize w7.alloc (.cells #[.int .i64 u, .int .i64 z] 36) = w8 at *
        generalize w7.heap.size = G1 at *
        refine (Has.call C8 (gcd_any u z _ (by omega) (by omega))).mono ?_
        rintro e w9 ⟨rfl, C9⟩
        rw [Hgcd.out]
        clear C7 C8
        have k0 := C9.tail.tail.fact (.head _) (i := 0) rfl
        have k1 := C9.tail.tail.fact (.head _) (i := 1) rfl
        have k2 := C9.fact (.head _) (i := 0) rfl
        have k3 := C9.fact (.head _) (i := 1) rfl
        simp only at k0 k1 k2 k3
        have u1 : ¬ u < 1 := by omega
        have u2 : ¬ z ≤ u := by omega
        by_cases hend : s1 + 1 = en
        · have HY2 := Lib.hid (doA_no (show doI (s1 + 1) es = false by rw [hend, ← Hen.out, ← begE_succ]; exact HA.out.doing_beg (by omega)))
          have HE := Lib.hid (show doneN (s1 + 1) es = k + 1 by rw [hend, ← Hen.out]; exact HA.out.done_end hkL)
          have e1 : (s1 + 1 == en) = true := beq_iff_eq.2 hend
          clear hend
          go_wp2_with fail
          refine (Has.call C9 (doing_any d _ es (s1 + 1) _ (by omega) (HR.out.later C9.low))).mono ?_
          rintro e w10 ⟨rfl, C10⟩
          rw [HY2.out]
          have C11 := C10.push [.int .i64 0, .int .i64 0] 36
          change Has w2 _ (w10.alloc (.cells #[.int .i64 0, .int .i64 0] 36)) at C11
          clear k0 k1 k2 k3 C9
          have k0 := C11.tail.tail.tail.fact (.head _) (i := 0) rfl
          have k1 := C11.tail.tail.tail.fact (.head _) (i := 1) rfl
          simp only at k0 k1
          go_wp2_with fail
          refine (Has.call C11 (done_any d _ es (s1 + 1) _ (HR.out.later C11.low))).mono ?_
          rintro e w12 ⟨rfl, C12⟩
          rw [HE.out]
          have ek : (((k + 1 : Nat) : Int) == (k : Int) + 1) = true := by rw [beq_iff_eq]; omega
          go_wp2_with fail
          go_ret
          exact ⟨ret_b (by simp), Below.trans HG.out (C12.low.mono HG.out.size)⟩
        · have hs2 : s1 + 1 < en := by omega
          have e1 : (s1 + 1 == en) = false := by rw [beq_eq_false_iff_ne]; exact hend
          have HD2 := Lib.hid (HA.out.done hkL (s := s1 + 1) (by rw [Hbg.out]; omega) (by rw [Hen.out]; omega))
          have HY2 := Lib.hid (doA_yes (HA.out.doing_in hkL (s := s1 + 1) (by rw [Hbg.out]; omega) (by rw [Hen.out]; omega)) HD2.out Hbg.out Hen.out)
          rw [show s1 + 1 - bg = NN + 1 by omega, hDD] at HY2
          have HC2 := Lib.hid (HC1.out (by omega))
          obtain ⟨u', hu'⟩ : ∃ x, lowN (NN + 1) DD = x := ⟨_, rfl⟩
          obtain ⟨z', hz2⟩ : ∃ x, lowD (NN + 1) DD = x := ⟨_, rfl⟩
          obtain ⟨gq, uq, zq, huq, hzq, -, -, -, hq1, hq2, -, hq3⟩ := low_parts (N := NN + 1) (D := DD) (by omega) (by omega) hDb.2
          have b1 : 1 ≤ u' ∧ u' ≤ 1048576 := by rw [← hu', huq]; omega
          have b2 : 1 ≤ z' ∧ z' ≤ 1048576 := by rw [← hz2, hzq]; omega
          rw [hu', hz2] at HY2 HC2
          clear hu' hz2 huq hzq hq1 hq2 hq3 hend
          go_wp2_with fail
          refine (Has.call C9 (doing_any d _ es (s1 + 1) _ (by omega) (HR.out.later C9.low))).mono ?_
          rintro e w10 ⟨rfl, C10⟩
          rw [HY2.out]
          have C11 := C10.push [.int .i64 u', .int .i64 z'] 36
          change Has w2 _ (w10.alloc (.cells #[.int .i64 u', .int .i64 z'] 36)) at C11
          clear k0 k1 k2 k3 C9
          have k2 := C11.tail.fact (.head _) (i := 0) rfl
          have k3 := C11.tail.fact (.head _) (i := 1) rfl
          simp only at k2 k3
          go_wp2_with fail
          refine (Has.call C11 (cmp_any u z u' z' _ (by omega) (by omega) (by omega) (by omega))).mono ?_
          rintro e w12 ⟨rfl, C12⟩
          rw [HC2.out]
          go_wp2_with fail
          go_ret
          exact ⟨ret_b (by simp), Below.trans HG.out (C12.low.mono HG.out.size)⟩
end Go.Proofs.Ytfcoblapbcdaiaa
