/- The law that compares all functions with the reference. -/
import Derived.Test.YtfcoblapbcdaiaaQ3
namespace Go.Proofs.Ytfcoblapbcdaiaa
open Go.RowKit Go.Lib
attribute [local go_sem] Oper.semAt_some
theorem Has.ownN {w0 w : World} {bs : List (Nat × List Value)} {b g n cap : Nat} {es : List Ev} (C : Has w0 bs w) (h : Own tE b w (.slice (some ⟨g, 0, none⟩) n cap) es) (hb : w0.heap.size ≤ b) (hn : ∀ p ∈ bs, g ≠ p.1) : Has w0 ((g, es.flatMap tE.enc) :: bs) w := by
  obtain ⟨h1, h2, h3⟩ := h.block
  refine ⟨fun p hp => ?_, fun p hp => ?_, fun p hp => ?_, List.pairwise_cons.2 ⟨fun p hp e => hn p hp e, C.nd⟩, C.low⟩
  · rcases List.mem_cons.1 hp with rfl | hp
    · exact h1
    · exact C.c p hp
  · rcases List.mem_cons.1 hp with rfl | hp
    · exact h3
    · exact C.lt p hp
  · rcases List.mem_cons.1 hp with rfl | hp
    · exact Nat.le_trans hb h2
    · exact C.ge p hp
set_option linter.unusedSimpArgs false in
set_option maxRecDepth 100000 in
set_option maxHeartbeats 32000000 in
theorem checks_any (v : Value) (xs : List Int) (d1 : Int) (sl1 : Value) (es1 : List Ev) (i0 i1 i2 i3 : Int) (w : World) (hv : Row tI w v xs) (hv1 : Row tE w sl1 es1)
    (b0 : -9223372036854775808 ≤ i0 ∧ i0 ≤ 9223372036854775807) (b3 : -9223372036854775808 ≤ i3 ∧ i3 ≤ 9223372036854775807) :
    Calls Try.prog 3 #[v, .agg #[.int .i64 d1, sl1], .agg #[.int .i64 i0, .int .i64 i1, .int .i64 i2, .int .i64 i3]] w fun e w' => e = .returned (.bool true) ∧ Below w.heap.size w w' := by
  have HV := Lib.hid hv

  obtain ⟨a1, L1, c1, rfl, hL1, hcc1, hcd1, R1⟩ := hv1.form
  have HR1 := Lib.hid R1
  clear hv hv1 R1
  have C0 := has2 (w := w) [.int .i64 d1, .slice a1 L1 c1] [.int .i64 i0, .int .i64 i1, .int .i64 i2, .int .i64 i3] 25 26
  change Has w _ ((w.alloc (.cells #[.int .i64 d1, .slice a1 L1 c1] 25)).alloc (.cells #[.int .i64 i0, .int .i64 i1, .int .i64 i2, .int .i64 i3] 26)) at C0
  go_enter Try.func3, Try.ntmps3
  go_wp2_with fail
  generalize (w.alloc (.cells #[.int .i64 d1, .slice a1 L1 c1] 25)).alloc (.cells #[.int .i64 i0, .int .i64 i1, .int .i64 i2, .int .i64 i3] 26) = w0 at *
  refine (Has.call C0 (sane_any _)).mono ?_
  rintro e w1 ⟨rfl, C1⟩
  go_wp2_with fail
  refine (made_any v xs _ (HV.out.later C1.low)).mono ?_
  rintro e w2 ⟨d, ev, es, rfl, R, HA0, g2⟩
  have C2 := C1.later g2
  have HG := Lib.hid C2.low
  obtain ⟨a, L, c, rfl, hL, hc1, hc2, R⟩ := R.form
  have HR := Lib.hid R
  have hL8 : L ≤ 8 := by have := HA0.len; omega
  have HRaw := Lib.hid (HR1.out.later C2.low)
  have p40 := C2.fact (.head _) (i := 0) rfl
  have p41 := C2.fact (.head _) (i := 1) rfl
  have p50 := C2.tail.fact (.head _) (i := 0) rfl
  have p51 := C2.tail.fact (.head _) (i := 1) rfl
  have p52 := C2.tail.fact (.head _) (i := 2) rfl
  have p53 := C2.tail.fact (.head _) (i := 3) rfl
  have l4 := C2.lt0
  have l5 := C2.tail.lt0
  simp only at p40 p41 p50 p51 p52 p53
  have HP := Lib.hid (And.intro (And.intro p40 p41) (And.intro (And.intro p50 p51) (And.intro p52 p53)))
  generalize hB4 : w.heap.size = B4 at *
  generalize hB5 : B4 + 1 = B5 at *
  clear R HA0 C0 C1 C2 g2 p40 p41 p50 p51 p52 p53 HR1 HV
  have C := has1 (w := w2) [.int .i64 d, .slice a L c] 25
  change Has w2 _ (w2.alloc (.cells #[.int .i64 d, .slice a L c] 25)) at C
  have X := C.push [] 30
  have OA := own_empty (T := tE) (b := (w2.alloc (.cells #[.int .i64 d, .slice a L c] 25)).heap.size) (w2.alloc (.cells #[.int .i64 d, .slice a L c] 25)) 30 (Nat.le_refl _)
  rw [size_alloc] at X OA
  change Has w2 _ ((w2.alloc (.cells #[.int .i64 d, .slice a L c] 25)).alloc (.cells #[] 30)) at X
  go_wp2_with (at_builtin; refine wpList_append tE_ok rfl _ _ rfl rfl OA rfl (HR.out.later X.low) (by simp only [List.length_nil]; omega) (by rw [size_alloc, size_alloc]; omega) ?_)
  intro u4 w4 O4 G4 _
  have C4 := X.tail.grownN (by intro r hr e; simp only [List.mem_cons, List.not_mem_nil, or_false] at hr; subst hr; injection e with e; simp only at e; omega) (fun r e => by cases e; exact X.ge _ (.head _)) G4
  generalize hA2 : w2.heap.size = A at *
  have l5' : B5 < w2.heap.size := by rw [hA2]; exact l5
  have l4' : B4 < w2.heap.size := by rw [hA2]; exact l4
  clear X OA G4 C
  obtain ⟨ua, uc, rfl, u1, u2⟩ := O4.form
  rw [hL] at u1 O4 ⊢
  have hAl : A < w4.heap.size := C4.lt0
  have C5 := C4.push [.int .i64 0, .slice ua L uc] 25
  change Has w2 _ (w4.alloc (.cells #[.int .i64 0, .slice ua L uc] 25)) at C5
  have O5 := O4.later ((Below.refl _ w4).alloc (Nat.le_refl _) (.cells #[.int .i64 0, .slice ua L uc] 25))
  change Own tE _ (w4.alloc (.cells #[.int .i64 0, .slice ua L uc] 25)) _ _ at O5
  have hgl := fun (g : Nat) (e : ua = some ⟨g, 0, none⟩) => show g < w4.heap.size by subst e; exact O4.block.2.2
  go_upto_if 35 with fail
  generalize w4.alloc (.cells #[.int .i64 0, .slice ua L uc] 25) = w5 at *
  generalize hB9 : w4.heap.size = B9 at *
  clear C4 O4
  go_cut [10] (fun _ wx => ∃ (ua : Option Addr) (uc : Nat) (es2 : List Ev), Has w2 [(B9, [.int .i64 0, .slice ua L uc]), (A, [.int .i64 d, .slice a L c])] wx ∧ Row tE wx (.slice ua L uc) es2)
  case first =>
    have n50 := ((Below.cell C5.low (p := ⟨B5, 1, none⟩) l5').trans HP.out.2.1.2)
    have n51 := ((Below.cell C5.low (p := ⟨B5, 2, none⟩) l5').trans HP.out.2.2.1)
    have k0 := C5.fact (.head _) (i := 0) rfl
    have k1 := C5.fact (.head _) (i := 1) rfl
    simp only at k0 k1
    rcases Nat.eq_zero_or_pos L with hz | hz
    · have z1 : ¬ (L : Int) > 0 := by omega
      have z2 : ¬ (0 : Int) < L := by omega
      have z3 : ¬ 0 < L := by omega
      go_wp2_with fail
      go_meet
      exact ⟨ua, uc, es, C5, O5.row⟩
    · have z1 : (L : Int) > 0 := by omega
      have z2 : (0 : Int) < L := by omega
      have z4 : ¬ (L : Int) = 0 := by omega
      have z5 : ((L : Int) == 0) = false := by rw [beq_eq_false_iff_ne]; omega
      obtain ⟨ra, hra⟩ : ∃ r, i1.tmod (L : Int) = r := ⟨_, rfl⟩
      have hr1 : -(L : Int) < ra ∧ ra < L := by
        rw [← hra]
        have h1 := Int.tmod_lt_of_pos i1 z2
        have h2 := Int.tmod_lt_of_pos (-i1) z2
        rw [Int.neg_tmod] at h2
        omega
      obtain ⟨k, hk⟩ : ∃ k : Nat, (ra + L).tmod (L : Int) = k := ⟨((ra + L).tmod (L : Int)).toNat, by
        have := Int.tmod_nonneg (L : Int) (show 0 ≤ ra + L by omega); omega⟩
      have hkL : (k : Int) < L := by rw [← hk]; exact Int.tmod_lt_of_pos _ z2
      have hk' : (ra + L) % (L : Int) = k := by rw [← Int.tmod_eq_emod_of_nonneg (by omega)]; exact hk
      have rw1 : wrap64 (ra + L) = ra + L := IntWalk.wrap64_in _ ⟨by omega, by omega⟩
      have rw2 : IntKind.i64.wrap (ra + L) = ra + L := by rw [IntKind.wrap_i64]; omega
      have rw3 : IntKind.i64.wrap ra = ra := by rw [IntKind.wrap_i64]; omega
      have rw4 : IntKind.i64.wrap (k : Int) = k := by rw [IntKind.wrap_i64]; omega
      obtain ⟨g, cap, hsl, v1, v2⟩ := O5.some' (by omega)
      rw [hL] at hsl v1
      injection hsl with e1 e2 e3
      subst e1 e3
      go_wp2_with fail
      clear k0 k1
      have O6 := O5.later ((Below.refl _ w5).drew)
      refine wp_region_held_drew (S := fun wz => wz = w5.drew) (by kernel_rfl) rfl (fun hHeld => ?_)
      have C6 := C5.drew
      generalize w5.drew = w6 at *
      have k1 := C6.fact (.head _) (i := 1) rfl
      simp only at k1
      have n50 := ((Below.cell C6.low (p := ⟨B5, 1, none⟩) l5').trans HP.out.2.1.2)
      refine wpAnyT_begin [0, 2, 6, 10] (by kernel_rfl) (by kernel_rfl) ?_
      refine wpAnyT_take (oi := ⟨some 36, Op.indexAddr 26 (Operand.tmp 5) (Operand.const (Value.int IntKind.i64 1)), 0, _, _, none⟩) (v := .pointer (some ⟨B5, 1, none⟩)) rfl (fun _ _ _ h => h) (by rfl) (by assumption) (fun wS hSw => ?_) ?_
      · (try dsimp only at hSw); subst hSw; go_simp <;> omega
      simp only [Act.put, List.setIfInBounds_toArray, List.set_cons_zero, List.set_cons_succ]
      refine wpAnyT_take (oi := ⟨some 38, Op.fieldAddr 25 (Operand.tmp 9) 1, 0, _, _, none⟩) (v := .pointer (some ⟨B9, 1, none⟩)) rfl (fun _ _ _ h => h) (by rfl) (by assumption) (fun wS hSw => ?_) ?_
      · (try dsimp only at hSw); subst hSw; go_simp <;> omega
      simp only [Act.put, List.setIfInBounds_toArray, List.set_cons_zero, List.set_cons_succ]
      refine wpAnyT_take (oi := ⟨some 42, Op.fieldAddr 25 (Operand.tmp 9) 1, 0, _, _, none⟩) (v := .pointer (some ⟨B9, 1, none⟩)) rfl (fun _ _ _ h => h) (by rfl) (by assumption) (fun wS hSw => ?_) ?_
      · (try dsimp only at hSw); subst hSw; go_simp <;> omega
      simp only [Act.put, List.setIfInBounds_toArray, List.set_cons_zero, List.set_cons_succ]
      refine wpAnyT_take (oi := ⟨some 46, Op.fieldAddr 25 (Operand.tmp 9) 1, 0, _, _, none⟩) (v := .pointer (some ⟨B9, 1, none⟩)) rfl (fun _ _ _ h => h) (by rfl) (by assumption) (fun wS hSw => ?_) ?_
      · (try dsimp only at hSw); subst hSw; go_simp <;> omega
      simp only [Act.put, List.setIfInBounds_toArray, List.set_cons_zero, List.set_cons_succ]
      refine wpAnyT_end ?_
      refine wpAnyH_listed #[true, false, true, false, false, false, true, false, false, false, true, false, false, false, false] (by kernel_rfl) ?_
      refine wpAnyT_begin [1, 3, 7, 11] (by kernel_rfl) (by kernel_rfl) ?_
      refine wpAnyT_take (oi := ⟨some 37, Op.load 3 (Operand.tmp 36), 3, _, _, none⟩) (v := .int .i64 i1) rfl (fun _ _ _ h => h) (by rfl) (by assumption) (fun wS hSw => ?_) ?_
      · (try dsimp only at hSw); subst hSw; go_simp <;> omega
      simp only [Act.put, List.setIfInBounds_toArray, List.set_cons_zero, List.set_cons_succ]
      refine wpAnyT_take (oi := ⟨some 39, Op.load 23 (Operand.tmp 38), 23, _, _, none⟩) (v := .slice (some ⟨g, 0, none⟩) L uc) rfl (fun _ _ _ h => h) (by rfl) (by assumption) (fun wS hSw => ?_) ?_
      · (try dsimp only at hSw); subst hSw; go_simp <;> omega
      simp only [Act.put, List.setIfInBounds_toArray, List.set_cons_zero, List.set_cons_succ]
      refine wpAnyT_take (oi := ⟨some 43, Op.load 23 (Operand.tmp 42), 23, _, _, none⟩) (v := .slice (some ⟨g, 0, none⟩) L uc) rfl (fun _ _ _ h => h) (by rfl) (by assumption) (fun wS hSw => ?_) ?_
      · (try dsimp only at hSw); subst hSw; go_simp <;> omega
      simp only [Act.put, List.setIfInBounds_toArray, List.set_cons_zero, List.set_cons_succ]
      refine wpAnyT_take (oi := ⟨some 47, Op.load 23 (Operand.tmp 46), 23, _, _, none⟩) (v := .slice (some ⟨g, 0, none⟩) L uc) rfl (fun _ _ _ h => h) (by rfl) (by assumption) (fun wS hSw => ?_) ?_
      · (try dsimp only at hSw); subst hSw; go_simp <;> omega
      simp only [Act.put, List.setIfInBounds_toArray, List.set_cons_zero, List.set_cons_succ]
      refine wpAnyT_end ?_
      refine wpAnyH_listed #[true, true, true, true, false, false, true, true, false, false, true, true, false, false, false] (by kernel_rfl) ?_
      refine wpAnyT_begin [4, 8, 12] (by kernel_rfl) (by kernel_rfl) ?_
      refine wpAnyT_take (oi := ⟨some 40, Op.call { callee := Callee.builtin Builtin.len, args := #[Operand.tmp 39], argTypes := #[23] }, 3, _, _, none⟩) (v := .int .i64 (L : Int)) rfl (fun _ _ _ h => h) (by rfl) (by assumption) (fun wS hSw => ?_) ?_
      · (try dsimp only at hSw); subst hSw; go_simp <;> omega
      simp only [Act.put, List.setIfInBounds_toArray, List.set_cons_zero, List.set_cons_succ]
      refine wpAnyT_take (oi := ⟨some 44, Op.call { callee := Callee.builtin Builtin.len, args := #[Operand.tmp 43], argTypes := #[23] }, 3, _, _, none⟩) (v := .int .i64 (L : Int)) rfl (fun _ _ _ h => h) (by rfl) (by assumption) (fun wS hSw => ?_) ?_
      · (try dsimp only at hSw); subst hSw; go_simp <;> omega
      simp only [Act.put, List.setIfInBounds_toArray, List.set_cons_zero, List.set_cons_succ]
      refine wpAnyT_take (oi := ⟨some 48, Op.call { callee := Callee.builtin Builtin.len, args := #[Operand.tmp 47], argTypes := #[23] }, 3, _, _, none⟩) (v := .int .i64 (L : Int)) rfl (fun _ _ _ h => h) (by rfl) (by assumption) (fun wS hSw => ?_) ?_
      · (try dsimp only at hSw); subst hSw; go_simp <;> omega
      simp only [Act.put, List.setIfInBounds_toArray, List.set_cons_zero, List.set_cons_succ]
      refine wpAnyT_end ?_
      refine wpAnyH_listed #[true, true, true, true, true, false, true, true, true, false, true, true, true, false, false] (by kernel_rfl) ?_
      refine wpAnyT_begin [5] (by kernel_rfl) (by kernel_rfl) ?_
      refine wpAnyT_take (oi := ⟨some 41, Op.binOp BinOp.rem 3 (Operand.tmp 37) (Operand.tmp 40) 3, 3, _, _, none⟩) (v := .int .i64 ra) rfl (fun _ _ _ h => h) (by rfl) (by assumption) (fun wS hSw => ?_) ?_
      · (try dsimp only at hSw); subst hSw; go_simp <;> omega
      simp only [Act.put, List.setIfInBounds_toArray, List.set_cons_zero, List.set_cons_succ]
      refine wpAnyT_end ?_
      refine wpAnyH_listed #[true, true, true, true, true, true, true, true, true, false, true, true, true, false, false] (by kernel_rfl) ?_
      refine wpAnyT_begin [9] (by kernel_rfl) (by kernel_rfl) ?_
      refine wpAnyT_take (oi := ⟨some 45, Op.binOp BinOp.add 3 (Operand.tmp 41) (Operand.tmp 44) 3, 3, _, _, none⟩) (v := .int .i64 (ra + L)) rfl (fun _ _ _ h => h) (by rfl) (by assumption) (fun wS hSw => ?_) ?_
      · (try dsimp only at hSw); subst hSw; go_simp <;> omega
      simp only [Act.put, List.setIfInBounds_toArray, List.set_cons_zero, List.set_cons_succ]
      refine wpAnyT_end ?_
      refine wpAnyH_listed #[true, true, true, true, true, true, true, true, true, true, true, true, true, false, false] (by kernel_rfl) ?_
      refine wpAnyT_begin [13] (by kernel_rfl) (by kernel_rfl) ?_
      refine wpAnyT_take (oi := ⟨some 49, Op.binOp BinOp.rem 3 (Operand.tmp 45) (Operand.tmp 48) 3, 3, _, _, none⟩) (v := .int .i64 (k : Int)) rfl (fun _ _ _ h => h) (by rfl) (by assumption) (fun wS hSw => ?_) ?_
      · (try dsimp only at hSw); subst hSw; go_simp <;> omega
      simp only [Act.put, List.setIfInBounds_toArray, List.set_cons_zero, List.set_cons_succ]
      refine wpAnyT_end ?_
      refine wpAnyH_listed #[true, true, true, true, true, true, true, true, true, true, true, true, true, true, false] (by kernel_rfl) ?_
      refine wpAnyT_begin [14] (by kernel_rfl) (by kernel_rfl) ?_
      refine wpAnyT_take (oi := ⟨some 10, Op.assign (Operand.tmp 49), 3, _, _, none⟩) (v := .int .i64 (k : Int)) rfl (fun _ _ _ h => h) (by rfl) (by assumption) (fun wS hSw => ?_) ?_
      · (try dsimp only at hSw); subst hSw; go_simp <;> omega
      simp only [Act.put, List.setIfInBounds_toArray, List.set_cons_zero, List.set_cons_succ]
      refine wpAnyT_end ?_
      refine wpAnyH_listed #[true, true, true, true, true, true, true, true, true, true, true, true, true, true, true] (by kernel_rfl) ?_
      refine wpAnyH_done (by kernel_rfl) ?_ _
      clear hHeld
      clear n50 n51 k1 C5 O5
      have hkn : k < es.length := by omega
      obtain ⟨x, hx⟩ : ∃ x, es[k]? = some x := ⟨_, List.getElem?_eq_getElem hkn⟩
      have HX := Lib.hid hx
      clear hx
      have hB9l : B9 < w6.heap.size := C6.lt0
      have hgB := O6.block.2.1
      have n52 := ((Below.cell C6.low (p := ⟨B5, 2, none⟩) l5').trans HP.out.2.2.1)
      have hgB9 := hgl g rfl
      have Z0 := Has.ownN C6 O6 (by omega) (by intro r hr; simp only [List.mem_cons, List.not_mem_nil, or_false] at hr; rcases hr with rfl | rfl <;> simp only <;> omega)
      have c1' := Z0.fact (.head _) (flat_at tE_ok HX.out (j := 1) rfl)
      have f1' := Z0.free (.head _) (flat_at tE_ok HX.out (j := 1) rfl)
      simp only [show tE.k = 5 from rfl] at c1' f1'
      have k1 := C6.fact (.head _) (i := 1) rfl
      simp only at k1
      go_wp2_with fail
      go_meet
      have Z := Z0.set (k * 5 + 1) (by rw [flat_length tE_ok, show tE.k = 5 from rfl]; omega) (.int .i64 i2)
      rw [flat_setE es k x i2 HX.out] at Z
      have hRow := row_cells (T := tE) (xs := es.set k (x.put i2)) (c := uc) (Z.c _ (.head _)) (by rw [List.length_set]; omega) u2
      rw [List.length_set, hL] at hRow
      exact ⟨_, _, _, Z.tail, hRow⟩
  case rest =>
    obtain ⟨va, vc, es2, C6, R2⟩ := hcut
    rename World => w6
    clear C5 O5 hgl
    have R2' := Lib.hid R2
    obtain ⟨m1, hm1⟩ : ∃ m, min L1 210 = m := ⟨_, rfl⟩
    have HM1 := Lib.hid hm1
    have R1' := Lib.hid (show Row tE w6 (.slice a1 m1 c1) (es1.take 210) by
      have h := (HRaw.out.later C6.low).take m1 (by omega)
      rw [← hm1, take_min es1 hL1, hm1] at h
      exact h)
    have R0' := Lib.hid (HR.out.later C6.low)
    have HG6 := Lib.hid (Below.trans HG.out (C6.low.mono (by have := HG.out.size; omega)))
    have HF := Lib.hid (And.intro (And.intro (And.intro (C6.tail.fact (.head _) (i := 0) rfl) (C6.tail.fact (.head _) (i := 1) rfl)) (And.intro (C6.fact (.head _) (i := 0) rfl) (C6.fact (.head _) (i := 1) rfl)))
      (And.intro (And.intro ((Below.cell C6.low (p := ⟨B4, 0, none⟩) l4').trans HP.out.1.1) ((Below.cell C6.low (p := ⟨B4, 1, none⟩) l4').trans HP.out.1.2))
       (And.intro (And.intro ((Below.cell C6.low (p := ⟨B5, 0, none⟩) l5').trans HP.out.2.1.1) ((Below.cell C6.low (p := ⟨B5, 1, none⟩) l5').trans HP.out.2.1.2))
        (And.intro ((Below.cell C6.low (p := ⟨B5, 2, none⟩) l5').trans HP.out.2.2.1) ((Below.cell C6.low (p := ⟨B5, 3, none⟩) l5').trans HP.out.2.2.2)))))
    have lA : A < w6.heap.size := C6.tail.lt0
    have l9 : B9 < w6.heap.size := C6.lt0
    have l46 : B4 < w6.heap.size := Nat.lt_of_lt_of_le l4' C6.low.size
    have l56 : B5 < w6.heap.size := Nat.lt_of_lt_of_le l5' C6.low.size
    have K0 : Has w6 [] w6 := Has.nil (Below.refl _ _)
    clear R2 hm1 C6 HG HR HRaw HP hB9 hA2 hB5 l4 l5 l4' l5'
    go_upto_region 7 with fail
    go_cut [11] (fun p wx => ∃ G, p = .pointer (some ⟨G, 0, none⟩) ∧ Has w6 [(G, [.int .i64 d, .slice a L c, .int .i64 0, .slice va L vc, .int .i64 d1, .slice a1 m1 c1])] wx)
    case first =>
      have Cz0 := K0.drew
      refine wp_region_held_drew (S := (fun wz => Has w6 [] wz)) (by kernel_rfl) Cz0 (fun hHeld => ?_)
      generalize w6.drew = wz0 at *
      refine wpAnyT_begin [0, 1, 2] (by kernel_rfl) (by kernel_rfl) ?_
      refine wpAnyT_take (oi := ⟨some 57, Op.load 25 (Operand.tmp 8), 25, _, _, none⟩) (v := .agg #[.int .i64 d, .slice a L c]) rfl (fun _ _ _ h => h) (by rfl) (by assumption) (fun wS hSw => ?_) ?_
      · (try dsimp only at hSw); have qA0 := (Below.cell (Has.low hSw) (p := ⟨A, 0, none⟩) lA).trans HF.out.1.1.1; have qA1 := (Below.cell (Has.low hSw) (p := ⟨A, 1, none⟩) lA).trans HF.out.1.1.2; have q90 := (Below.cell (Has.low hSw) (p := ⟨B9, 0, none⟩) l9).trans HF.out.1.2.1; have q91 := (Below.cell (Has.low hSw) (p := ⟨B9, 1, none⟩) l9).trans HF.out.1.2.2; have q40 := (Below.cell (Has.low hSw) (p := ⟨B4, 0, none⟩) l46).trans HF.out.2.1.1; have q41 := (Below.cell (Has.low hSw) (p := ⟨B4, 1, none⟩) l46).trans HF.out.2.1.2; (try simp only at qA0 qA1 q90 q91 q40 q41); go_simp <;> omega
      simp only [Act.put, List.setIfInBounds_toArray, List.set_cons_zero, List.set_cons_succ]
      refine wpAnyT_take (oi := ⟨some 58, Op.load 25 (Operand.tmp 9), 25, _, _, none⟩) (v := .agg #[.int .i64 0, .slice va L vc]) rfl (fun _ _ _ h => h) (by rfl) (by assumption) (fun wS hSw => ?_) ?_
      · (try dsimp only at hSw); have qA0 := (Below.cell (Has.low hSw) (p := ⟨A, 0, none⟩) lA).trans HF.out.1.1.1; have qA1 := (Below.cell (Has.low hSw) (p := ⟨A, 1, none⟩) lA).trans HF.out.1.1.2; have q90 := (Below.cell (Has.low hSw) (p := ⟨B9, 0, none⟩) l9).trans HF.out.1.2.1; have q91 := (Below.cell (Has.low hSw) (p := ⟨B9, 1, none⟩) l9).trans HF.out.1.2.2; have q40 := (Below.cell (Has.low hSw) (p := ⟨B4, 0, none⟩) l46).trans HF.out.2.1.1; have q41 := (Below.cell (Has.low hSw) (p := ⟨B4, 1, none⟩) l46).trans HF.out.2.1.2; (try simp only at qA0 qA1 q90 q91 q40 q41); go_simp <;> omega
      simp only [Act.put, List.setIfInBounds_toArray, List.set_cons_zero, List.set_cons_succ]
      refine wpAnyT_take (oi := ⟨some 59, Op.load 25 (Operand.tmp 4), 25, _, _, none⟩) (v := .agg #[.int .i64 d1, .slice a1 L1 c1]) rfl (fun _ _ _ h => h) (by rfl) (by assumption) (fun wS hSw => ?_) ?_
      · (try dsimp only at hSw); have qA0 := (Below.cell (Has.low hSw) (p := ⟨A, 0, none⟩) lA).trans HF.out.1.1.1; have qA1 := (Below.cell (Has.low hSw) (p := ⟨A, 1, none⟩) lA).trans HF.out.1.1.2; have q90 := (Below.cell (Has.low hSw) (p := ⟨B9, 0, none⟩) l9).trans HF.out.1.2.1; have q91 := (Below.cell (Has.low hSw) (p := ⟨B9, 1, none⟩) l9).trans HF.out.1.2.2; have q40 := (Below.cell (Has.low hSw) (p := ⟨B4, 0, none⟩) l46).trans HF.out.2.1.1; have q41 := (Below.cell (Has.low hSw) (p := ⟨B4, 1, none⟩) l46).trans HF.out.2.1.2; (try simp only at qA0 qA1 q90 q91 q40 q41); go_simp <;> omega
      simp only [Act.put, List.setIfInBounds_toArray, List.set_cons_zero, List.set_cons_succ]
      refine wpAnyT_end ?_
      refine wpAnyH_listed #[true, true, true, false, false, false, false] (by kernel_rfl) ?_
      refine wpAnyH_ready (rs := [3, 5]) (by kernel_rfl) (by simp) ?_
      refine AllReadyH.cons (o := ⟨some 60, Op.call { callee := Callee.value (Operand.func 10), args := #[Operand.tmp 59], argTypes := #[25] }, 25, _, _, none⟩) rfl (fun K hK => ?_) ?_
      · go_simp
        go_at_call 10
        refine (Has.call Cz0 (cut_is d1 a1 L1 c1 m1 _ HM1.out hcc1)).mono ?_
        rintro e wz1 ⟨rfl, Cz1⟩
        go_wp2_with fail
        clear hHeld
        refine hK.out _ _ (Cz1) (fun hHeld => ?_)
        clear hK K
        try simp only [List.setIfInBounds_toArray, List.set_cons_zero, List.set_cons_succ]
        refine wpAnyH_listed #[true, true, true, true, false, false, false] (by kernel_rfl) ?_
        clear Cz0
        refine wpAnyT_begin [4] (by kernel_rfl) (by kernel_rfl) ?_
        refine wpAnyT_take (oi := ⟨some 61, Op.build 32 #[(0, Operand.tmp 57), (1, Operand.tmp 58), (2, Operand.tmp 60)], 32, _, _, none⟩) (v := .agg #[.int .i64 d, .slice a L c, .int .i64 0, .slice va L vc, .int .i64 d1, .slice a1 m1 c1]) rfl (fun _ _ _ h => h) (by rfl) (by assumption) (fun wS hSw => ?_) ?_
        · (try dsimp only at hSw); have qA0 := (Below.cell (Has.low hSw) (p := ⟨A, 0, none⟩) lA).trans HF.out.1.1.1; have qA1 := (Below.cell (Has.low hSw) (p := ⟨A, 1, none⟩) lA).trans HF.out.1.1.2; have q90 := (Below.cell (Has.low hSw) (p := ⟨B9, 0, none⟩) l9).trans HF.out.1.2.1; have q91 := (Below.cell (Has.low hSw) (p := ⟨B9, 1, none⟩) l9).trans HF.out.1.2.2; have q40 := (Below.cell (Has.low hSw) (p := ⟨B4, 0, none⟩) l46).trans HF.out.2.1.1; have q41 := (Below.cell (Has.low hSw) (p := ⟨B4, 1, none⟩) l46).trans HF.out.2.1.2; (try simp only at qA0 qA1 q90 q91 q40 q41); go_simp <;> omega
        simp only [Act.put, List.setIfInBounds_toArray, List.set_cons_zero, List.set_cons_succ]
        refine wpAnyT_end ?_
        refine wpAnyH_listed #[true, true, true, true, true, false, false] (by kernel_rfl) ?_
        refine wpAnyH_ready (rs := [5]) (by kernel_rfl) (by simp) ?_
        refine AllReadyH.cons (o := ⟨some 11, Op.alloc 32, 0, _, _, none⟩) rfl (fun K hK => ?_) AllReadyH.nil
        have Cz2 := Cz1.push [.int .i64 0, .slice none 0 0, .int .i64 0, .slice none 0 0, .int .i64 0, .slice none 0 0] 32
        go_simp
        change Has w6 _ (wz1.alloc (.cells #[.int .i64 0, .slice none 0 0, .int .i64 0, .slice none 0 0, .int .i64 0, .slice none 0 0] 32)) at Cz2
        generalize wz1.alloc (.cells #[.int .i64 0, .slice none 0 0, .int .i64 0, .slice none 0 0, .int .i64 0, .slice none 0 0] 32) = wz2 at *
        generalize wz1.heap.size = Gz at *
        clear hHeld
        refine hK.out _ _ (Cz2.tail) (fun hHeld => ?_)
        clear hK K
        try simp only [List.setIfInBounds_toArray, List.set_cons_zero, List.set_cons_succ]
        refine wpAnyH_listed #[true, true, true, true, true, true, false] (by kernel_rfl) ?_
        clear Cz1
        refine wpAnyH_ready (rs := [6]) (by kernel_rfl) (by simp) ?_
        refine AllReadyH.cons (o := ⟨none, Op.store 32 (Operand.tmp 11) (Operand.tmp 61), 0, _, _, none⟩) rfl (fun K hK => ?_) AllReadyH.nil
        have kz0 := Cz2.fact (.head _) (i := 0) rfl
        have fz0 := Cz2.free (.head _) (i := 0) rfl
        have kz1 := Cz2.fact (.head _) (i := 1) rfl
        have fz1 := Cz2.free (.head _) (i := 1) rfl
        have kz2 := Cz2.fact (.head _) (i := 2) rfl
        have fz2 := Cz2.free (.head _) (i := 2) rfl
        have kz3 := Cz2.fact (.head _) (i := 3) rfl
        have fz3 := Cz2.free (.head _) (i := 3) rfl
        have kz4 := Cz2.fact (.head _) (i := 4) rfl
        have fz4 := Cz2.free (.head _) (i := 4) rfl
        have kz5 := Cz2.fact (.head _) (i := 5) rfl
        have fz5 := Cz2.free (.head _) (i := 5) rfl
        simp only at kz0 fz0 kz1 fz1 kz2 fz2 kz3 fz3 kz4 fz4 kz5 fz5
        go_simp
        have Cz3 := ((((((Cz2.set 0 (by simp) (.int .i64 d)).set 1 (by simp) (.slice a L c)).set 2 (by simp) (.int .i64 0)).set 3 (by simp) (.slice va L vc)).set 4 (by simp) (.int .i64 d1)).set 5 (by simp) (.slice a1 m1 c1))
        clear kz0 fz0 kz1 fz1 kz2 fz2 kz3 fz3 kz4 fz4 kz5 fz5
        simp only [List.set_cons_zero, List.set_cons_succ] at Cz3
        generalize ((((((wz2.setCell ⟨Gz, 0, none⟩ (.int .i64 d)).setCell ⟨Gz, 1, none⟩ (.slice a L c)).setCell ⟨Gz, 2, none⟩ (.int .i64 0)).setCell ⟨Gz, 3, none⟩ (.slice va L vc)).setCell ⟨Gz, 4, none⟩ (.int .i64 d1)).setCell ⟨Gz, 5, none⟩ (.slice a1 m1 c1)) = wz3 at *
        clear hHeld
        refine hK.out _ _ (Cz3.tail) (fun hHeld => ?_)
        clear hK K
        try simp only [List.setIfInBounds_toArray, List.set_cons_zero, List.set_cons_succ]
        refine wpAnyH_listed #[true, true, true, true, true, true, true] (by kernel_rfl) ?_
        clear Cz2
        refine wpAnyH_done (by kernel_rfl) ?_ _
        clear hHeld
        go_wp2_with fail
        go_meet
        exact ⟨Gz, rfl, Cz3⟩
      · refine AllReadyH.cons (o := ⟨some 11, Op.alloc 32, 0, _, _, none⟩) rfl (fun K hK => ?_) AllReadyH.nil
        have Cz1 := Cz0.push [.int .i64 0, .slice none 0 0, .int .i64 0, .slice none 0 0, .int .i64 0, .slice none 0 0] 32
        go_simp
        change Has w6 _ (wz0.alloc (.cells #[.int .i64 0, .slice none 0 0, .int .i64 0, .slice none 0 0, .int .i64 0, .slice none 0 0] 32)) at Cz1
        generalize wz0.alloc (.cells #[.int .i64 0, .slice none 0 0, .int .i64 0, .slice none 0 0, .int .i64 0, .slice none 0 0] 32) = wz1 at *
        generalize wz0.heap.size = Gz at *
        clear hHeld
        refine hK.out _ _ (Cz1.tail) (fun hHeld => ?_)
        clear hK K
        try simp only [List.setIfInBounds_toArray, List.set_cons_zero, List.set_cons_succ]
        refine wpAnyH_listed #[true, true, true, false, false, true, false] (by kernel_rfl) ?_
        clear Cz0
        refine wpAnyH_ready (rs := [3]) (by kernel_rfl) (by simp) ?_
        refine AllReadyH.cons (o := ⟨some 60, Op.call { callee := Callee.value (Operand.func 10), args := #[Operand.tmp 59], argTypes := #[25] }, 25, _, _, none⟩) rfl (fun K hK => ?_) AllReadyH.nil
        go_simp
        go_at_call 10
        refine (Has.call Cz1 (cut_is d1 a1 L1 c1 m1 _ HM1.out hcc1)).mono ?_
        rintro e wz2 ⟨rfl, Cz2⟩
        go_wp2_with fail
        clear hHeld
        refine hK.out _ _ (Cz2.tail) (fun hHeld => ?_)
        clear hK K
        try simp only [List.setIfInBounds_toArray, List.set_cons_zero, List.set_cons_succ]
        refine wpAnyH_listed #[true, true, true, true, false, true, false] (by kernel_rfl) ?_
        clear Cz1
        refine wpAnyT_begin [4] (by kernel_rfl) (by kernel_rfl) ?_
        refine wpAnyT_take (oi := ⟨some 61, Op.build 32 #[(0, Operand.tmp 57), (1, Operand.tmp 58), (2, Operand.tmp 60)], 32, _, _, none⟩) (v := .agg #[.int .i64 d, .slice a L c, .int .i64 0, .slice va L vc, .int .i64 d1, .slice a1 m1 c1]) rfl (fun _ _ _ h => h) (by rfl) (by assumption) (fun wS hSw => ?_) ?_
        · (try dsimp only at hSw); have qA0 := (Below.cell (Has.low hSw) (p := ⟨A, 0, none⟩) lA).trans HF.out.1.1.1; have qA1 := (Below.cell (Has.low hSw) (p := ⟨A, 1, none⟩) lA).trans HF.out.1.1.2; have q90 := (Below.cell (Has.low hSw) (p := ⟨B9, 0, none⟩) l9).trans HF.out.1.2.1; have q91 := (Below.cell (Has.low hSw) (p := ⟨B9, 1, none⟩) l9).trans HF.out.1.2.2; have q40 := (Below.cell (Has.low hSw) (p := ⟨B4, 0, none⟩) l46).trans HF.out.2.1.1; have q41 := (Below.cell (Has.low hSw) (p := ⟨B4, 1, none⟩) l46).trans HF.out.2.1.2; (try simp only at qA0 qA1 q90 q91 q40 q41); go_simp <;> omega
        simp only [Act.put, List.setIfInBounds_toArray, List.set_cons_zero, List.set_cons_succ]
        refine wpAnyT_end ?_
        refine wpAnyH_listed #[true, true, true, true, true, true, false] (by kernel_rfl) ?_
        refine wpAnyH_ready (rs := [6]) (by kernel_rfl) (by simp) ?_
        refine AllReadyH.cons (o := ⟨none, Op.store 32 (Operand.tmp 11) (Operand.tmp 61), 0, _, _, none⟩) rfl (fun K hK => ?_) AllReadyH.nil
        have kz0 := Cz2.fact (.head _) (i := 0) rfl
        have fz0 := Cz2.free (.head _) (i := 0) rfl
        have kz1 := Cz2.fact (.head _) (i := 1) rfl
        have fz1 := Cz2.free (.head _) (i := 1) rfl
        have kz2 := Cz2.fact (.head _) (i := 2) rfl
        have fz2 := Cz2.free (.head _) (i := 2) rfl
        have kz3 := Cz2.fact (.head _) (i := 3) rfl
        have fz3 := Cz2.free (.head _) (i := 3) rfl
        have kz4 := Cz2.fact (.head _) (i := 4) rfl
        have fz4 := Cz2.free (.head _) (i := 4) rfl
        have kz5 := Cz2.fact (.head _) (i := 5) rfl
        have fz5 := Cz2.free (.head _) (i := 5) rfl
        simp only at kz0 fz0 kz1 fz1 kz2 fz2 kz3 fz3 kz4 fz4 kz5 fz5
        go_simp
        have Cz3 := ((((((Cz2.set 0 (by simp) (.int .i64 d)).set 1 (by simp) (.slice a L c)).set 2 (by simp) (.int .i64 0)).set 3 (by simp) (.slice va L vc)).set 4 (by simp) (.int .i64 d1)).set 5 (by simp) (.slice a1 m1 c1))
        clear kz0 fz0 kz1 fz1 kz2 fz2 kz3 fz3 kz4 fz4 kz5 fz5
        simp only [List.set_cons_zero, List.set_cons_succ] at Cz3
        generalize ((((((wz2.setCell ⟨Gz, 0, none⟩ (.int .i64 d)).setCell ⟨Gz, 1, none⟩ (.slice a L c)).setCell ⟨Gz, 2, none⟩ (.int .i64 0)).setCell ⟨Gz, 3, none⟩ (.slice va L vc)).setCell ⟨Gz, 4, none⟩ (.int .i64 d1)).setCell ⟨Gz, 5, none⟩ (.slice a1 m1 c1)) = wz3 at *
        clear hHeld
        refine hK.out _ _ (Cz3.tail) (fun hHeld => ?_)
        clear hK K
        try simp only [List.setIfInBounds_toArray, List.set_cons_zero, List.set_cons_succ]
        refine wpAnyH_listed #[true, true, true, true, true, true, true] (by kernel_rfl) ?_
        clear Cz2
        refine wpAnyH_done (by kernel_rfl) ?_ _
        clear hHeld
        go_wp2_with fail
        go_meet
        exact ⟨Gz, rfl, Cz3⟩
    case rest =>
      obtain ⟨GA, rfl, KA⟩ := hcut
      rename World => w7
      have q50 := (Below.cell KA.low (p := ⟨B5, 0, none⟩) l56).trans HF.out.2.2.1.1
      have q53 := (Below.cell KA.low (p := ⟨B5, 3, none⟩) l56).trans HF.out.2.2.2.2
      obtain ⟨s1, hs1⟩ : ∃ x, i0.tmod 2000 = x := ⟨_, rfl⟩
      obtain ⟨sx, hsx⟩ : ∃ x, i3.tmod 1100 = x := ⟨_, rfl⟩
      have bs1 : -2000 < s1 ∧ s1 < 2000 := by
        rw [← hs1]
        have h1 := Int.tmod_lt_of_pos i0 (show (0 : Int) < 2000 by omega)
        have h2 := Int.tmod_lt_of_pos (-i0) (show (0 : Int) < 2000 by omega)
        rw [Int.neg_tmod] at h2
        omega
      have bsx : -1100 < sx ∧ sx < 1100 := by
        rw [← hsx]
        have h1 := Int.tmod_lt_of_pos i3 (show (0 : Int) < 1100 by omega)
        have h2 := Int.tmod_lt_of_pos (-i3) (show (0 : Int) < 1100 by omega)
        rw [Int.neg_tmod] at h2
        omega
      obtain ⟨s3, hs3⟩ : ∃ x, sx * sx = x := ⟨_, rfl⟩
      have bs3 : -1210000 ≤ s3 ∧ s3 ≤ 1210000 := by
        rw [← hs3]
        have e : (sx * sx).natAbs = sx.natAbs * sx.natAbs := Int.natAbs_mul sx sx
        have := Nat.mul_le_mul (show sx.natAbs ≤ 1100 by omega) (show sx.natAbs ≤ 1100 by omega)
        omega
      have ws3 : wrap64 s3 = s3 := IntWalk.wrap64_in _ ⟨by omega, by omega⟩
      have KB := KA.push [.int .i64 i0, .int .i64 s1, .int .i64 i3, .int .i64 s3] 26
      change Has w6 _ (w7.alloc (.cells #[.int .i64 i0, .int .i64 s1, .int .i64 i3, .int .i64 s3] 26)) at KB
      go_wp2_with fail
      generalize w7.alloc (.cells #[.int .i64 i0, .int .i64 s1, .int .i64 i3, .int .i64 s3] 26) = w8 at *
      generalize w7.heap.size = BQ at *
      have HSix := Lib.hid (KB.tail.c _ (.head _))
      have HFour := Lib.hid (KB.c _ (.head _))
      have HB5 := Lib.hid (And.intro ((Below.cell KB.low (p := ⟨B5, 0, none⟩) l56).trans HF.out.2.2.1.1) ((Below.cell KB.low (p := ⟨B5, 3, none⟩) l56).trans HF.out.2.2.2.2))
      have lQ : BQ < w8.heap.size := KB.lt0
      have lA6 : GA < w8.heap.size := KB.tail.lt0
      have l58 : B5 < w8.heap.size := Nat.lt_of_lt_of_le l56 KB.low.size
      have HG8 := Lib.hid (Below.trans HG6.out (KB.low.mono (by have := HG6.out.size; omega)))
      have HH := Lib.hid (fun (k : Nat) (hk : k < 3) => show ∃ (D : Int) (aa : Option Addr) (nn cc : Nat) (ES : List Ev), ([.int .i64 d, .slice a L c, .int .i64 0, .slice va L vc, .int .i64 d1, .slice a1 m1 c1] : List Value)[k * 2]? = some (.int .i64 D) ∧ ([.int .i64 d, .slice a L c, .int .i64 0, .slice va L vc, .int .i64 d1, .slice a1 m1 c1] : List Value)[k * 2 + 1]? = some (.slice aa nn cc) ∧ Row tE w8 (.slice aa nn cc) ES by
        rcases k with _ | _ | _ | k
        · exact ⟨d, _, _, _, es, rfl, rfl, R0'.out.later KB.low⟩
        · exact ⟨0, _, _, _, es2, rfl, rfl, R2'.out.later KB.low⟩
        · exact ⟨d1, _, _, _, _, rfl, rfl, R1'.out.later KB.low⟩
        · omega)
      have HQ := Lib.hid (fun (k : Nat) (hk : k < 4) => show ∃ s : Int, ([.int .i64 i0, .int .i64 s1, .int .i64 i3, .int .i64 s3] : List Value)[k]? = some (.int .i64 s) ∧ (-9223372036854775808 ≤ s ∧ s ≤ 9223372036854775807) by
        rcases k with _ | _ | _ | _ | k
        · exact ⟨i0, rfl, b0⟩
        · exact ⟨s1, rfl, by omega⟩
        · exact ⟨i3, rfl, b3⟩
        · exact ⟨s3, rfl, by omega⟩
        · omega)
      clear KA KB q50 q53 hs1 hsx hs3 bs1 bsx bs3 ws3 R0' R1' R2' HF HG6 K0 lA l9 l46 l56
      go_loopw [13] (fun i wr => ∃ k : Nat, k ≤ 3 ∧ i = .int .i64 k ∧ Below w8.heap.size w8 wr) (fun i _ => 3 - (RowKit.intOf i).toNat)
      case atStart => exact ⟨0, by omega, rfl, Below.refl _ _⟩
      case round =>
        obtain ⟨k, hk, rfl, gB⟩ := hrel
        by_cases hlt : k < 3
        · have g5 : (k : Int) < 3 := by omega
          have ksum : IntKind.i64.wrap ((k : Int) + 1) = ((k + 1 : Nat) : Int) := by rw [IntWalk.i64_in _ (by omega)]; rfl
          obtain ⟨D, ha, hn, hc, ES, hD, hS, hR⟩ := HH.out k hlt
          have cD := (gB.cell (p := ⟨GA, k * 2, none⟩) lA6).trans (HSix.out _ _ hD).1
          have cS := (gB.cell (p := ⟨GA, k * 2 + 1, none⟩) lA6).trans (HSix.out _ _ hS).1
          have HRk := Lib.hid (hR.later gB)
          have C9 := has1 (w := wr) [.int .i64 D, .slice ha hn hc] 25
          change Has wr _ (wr.alloc (.cells #[.int .i64 D, .slice ha hn hc] 25)) at C9
          clear hD hS hR
          go_wp2_with fail
          generalize wr.alloc (.cells #[.int .i64 D, .slice ha hn hc] 25) = w9 at *
          generalize wr.heap.size = GH at *
          have HR9 := Lib.hid (HRk.out.later C9.low)
          have H9 := Lib.hid (And.intro (C9.fact (.head _) (i := 0) rfl) (C9.fact (.head _) (i := 1) rfl))
          have lGH : GH < w9.heap.size := C9.lt0
          have gB9 : Below w8.heap.size w8 w9 := Grows.then gB C9.low
          have K9 : Has w9 [] w9 := Has.nil (Below.refl _ _)
          obtain ⟨ck, hck⟩ : ∃ x, chkE ES = x := ⟨_, rfl⟩
          have HCK := Lib.hid hck
          clear hck cD cS HRk C9 gB
          have Cm0 := K9.drew
          refine wp_region_held_drew (S := (fun wz => Has w9 [] wz)) (by kernel_rfl) Cm0 (fun hHeld => ?_)
          generalize w9.drew = wm0 at *
          refine wpAnyT_begin [0, 2] (by kernel_rfl) (by kernel_rfl) ?_
          refine wpAnyT_take (oi := ⟨some 84, Op.load 25 (Operand.tmp 14), 25, _, _, none⟩) (v := .agg #[.int .i64 D, .slice ha hn hc]) rfl (fun _ _ _ h => h) (by rfl) (by assumption) (fun wS hSw => ?_) ?_
          · (try dsimp only at hSw); have qD := (Below.cell (Has.low hSw) (p := ⟨GH, 0, none⟩) lGH).trans H9.out.1; have qS := (Below.cell (Has.low hSw) (p := ⟨GH, 1, none⟩) lGH).trans H9.out.2; (try simp only at qD qS); go_simp <;> omega
          simp only [Act.put, List.setIfInBounds_toArray, List.set_cons_zero, List.set_cons_succ]
          refine wpAnyT_take (oi := ⟨some 86, Op.load 25 (Operand.tmp 14), 25, _, _, none⟩) (v := .agg #[.int .i64 D, .slice ha hn hc]) rfl (fun _ _ _ h => h) (by rfl) (by assumption) (fun wS hSw => ?_) ?_
          · (try dsimp only at hSw); have qD := (Below.cell (Has.low hSw) (p := ⟨GH, 0, none⟩) lGH).trans H9.out.1; have qS := (Below.cell (Has.low hSw) (p := ⟨GH, 1, none⟩) lGH).trans H9.out.2; (try simp only at qD qS); go_simp <;> omega
          simp only [Act.put, List.setIfInBounds_toArray, List.set_cons_zero, List.set_cons_succ]
          refine wpAnyT_end ?_
          refine wpAnyH_listed #[true, false, true, false, false] (by kernel_rfl) ?_
          refine wpAnyH_ready (rs := [1]) (by kernel_rfl) (by simp) ?_
          refine AllReadyH.cons (o := ⟨some 85, Op.call { callee := Callee.value (Operand.func 11), args := #[Operand.tmp 84], argTypes := #[25] }, 33, _, _, none⟩) rfl (fun K hK => ?_) AllReadyH.nil
          go_simp
          go_at_call 11
          refine (Has.call Cm0 (show Calls Try.prog 11 #[.agg #[.int .i64 D, .slice ha hn hc]] _ fun e w' => e = .returned (.int .i64 ck) ∧ Below _ _ w' from HCK.out ▸ check_any D _ ES _ (HR9.out.later Cm0.low))).mono ?_
          rintro e wm1 ⟨rfl, Cm1⟩
          go_wp2_with fail
          clear hHeld
          refine hK.out _ _ (Cm1) (fun hHeld => ?_)
          clear hK K
          try simp only [List.setIfInBounds_toArray, List.set_cons_zero, List.set_cons_succ]
          refine wpAnyH_listed #[true, true, true, false, false] (by kernel_rfl) ?_
          clear Cm0
          refine wpAnyH_ready (rs := [3]) (by kernel_rfl) (by simp) ?_
          refine AllReadyH.cons (o := ⟨some 87, Op.call { callee := Callee.value (Operand.func 12), args := #[Operand.tmp 86], argTypes := #[25] }, 33, _, _, none⟩) rfl (fun K hK => ?_) AllReadyH.nil
          go_simp
          go_at_call 12
          refine (Has.call Cm1 (show Calls Try.prog 12 #[.agg #[.int .i64 D, .slice ha hn hc]] _ fun e w' => e = .returned (.int .i64 ck) ∧ Below _ _ w' from HCK.out ▸ rcheck_any D _ ES _ (HR9.out.later Cm1.low))).mono ?_
          rintro e wm2 ⟨rfl, Cm2⟩
          go_wp2_with fail
          clear hHeld
          refine hK.out _ _ (Cm2) (fun hHeld => ?_)
          clear hK K
          try simp only [List.setIfInBounds_toArray, List.set_cons_zero, List.set_cons_succ]
          refine wpAnyH_listed #[true, true, true, true, false] (by kernel_rfl) ?_
          clear Cm1
          refine wpAnyT_begin [4] (by kernel_rfl) (by kernel_rfl) ?_
          refine wpAnyT_take (oi := ⟨some 88, Op.binOp BinOp.neq 33 (Operand.tmp 85) (Operand.tmp 87) 33, 4, _, _, none⟩) (v := .bool false) rfl (fun _ _ _ h => h) (by rfl) (by assumption) (fun wS hSw => ?_) ?_
          · (try dsimp only at hSw); have qD := (Below.cell (Has.low hSw) (p := ⟨GH, 0, none⟩) lGH).trans H9.out.1; have qS := (Below.cell (Has.low hSw) (p := ⟨GH, 1, none⟩) lGH).trans H9.out.2; (try simp only at qD qS); go_simp <;> omega
          simp only [Act.put, List.setIfInBounds_toArray, List.set_cons_zero, List.set_cons_succ]
          refine wpAnyT_end ?_
          refine wpAnyH_listed #[true, true, true, true, true] (by kernel_rfl) ?_
          refine wpAnyH_done (by kernel_rfl) ?_ _
          clear hHeld
          go_wp2_with fail
          go_loopw [15] (fun i wx => ∃ k2 : Nat, k2 ≤ 4 ∧ i = .int .i64 k2 ∧ Has w9 [] wx) (fun i _ => 4 - (RowKit.intOf i).toNat)
          case atStart => exact ⟨0, by omega, rfl, Cm2⟩
          case round =>
            clear Cm2
            rename World => wi
            obtain ⟨k2, hk2, rfl, KI⟩ := hrel
            by_cases hlt2 : k2 < 4
            · have g6 : (k2 : Int) < 4 := by omega
              have ksum2 : IntKind.i64.wrap ((k2 : Int) + 1) = ((k2 + 1 : Nat) : Int) := by rw [IntWalk.i64_in _ (by omega)]; rfl
              obtain ⟨s, hs, hsb⟩ := HQ.out k2 hlt2
              have lQ9 : BQ < w9.heap.size := Nat.lt_of_lt_of_le lQ gB9.size
              have H10 := Lib.hid (And.intro ((Below.cell KI.low (p := ⟨BQ, k2, none⟩) lQ9).trans ((gB9.cell (p := ⟨BQ, k2, none⟩) lQ).trans (HFour.out _ _ hs).1)) (And.intro ((Below.cell KI.low (p := ⟨GH, 0, none⟩) lGH).trans H9.out.1) ((Below.cell KI.low (p := ⟨GH, 1, none⟩) lGH).trans H9.out.2)))
              have lQi : BQ < wi.heap.size := Nat.lt_of_lt_of_le lQ9 KI.low.size
              have lGi : GH < wi.heap.size := Nat.lt_of_lt_of_le lGH KI.low.size
              have HRi := Lib.hid (HR9.out.later KI.low)
              have K10 : Has wi [] wi := Has.nil (Below.refl _ _)
              obtain ⟨Kk, hKk⟩ : ∃ x, doK s ES = x := ⟨_, rfl⟩
              obtain ⟨U, hU⟩ : ∃ x, doU s ES = x := ⟨_, rfl⟩
              obtain ⟨Z, hZ⟩ : ∃ x, doW s ES = x := ⟨_, rfl⟩
              obtain ⟨Bb, hBb⟩ : ∃ x, doI s ES = x := ⟨_, rfl⟩
              obtain ⟨nd, hnd⟩ : ∃ x, doneN s ES = x := ⟨_, rfl⟩
              have HT := Lib.hid (show doA s ES = .tuple #[.int .i64 Kk, .agg #[.int .i64 U, .int .i64 Z], .bool Bb] by unfold doA; rw [hKk, hU, hZ, hBb])
              have HND := Lib.hid hnd
              clear hs hKk hU hZ hBb hnd
              go_upto_region 18 with fail
              go_cut [16, 17, 18] (fun x p y wx => x = .int .i64 Kk ∧ y = .bool Bb ∧ ∃ G, p = .pointer (some ⟨G, 0, none⟩) ∧ Has wi [(G, [.int .i64 U, .int .i64 Z])] wx)
              case first =>
                have Cy0 := K10.drew
                refine wp_region_held_drew (S := (fun wz => Has wi [] wz)) (by kernel_rfl) Cy0 (fun hHeld => ?_)
                generalize wi.drew = wy0 at *
                refine wpAnyT_begin [0, 1] (by kernel_rfl) (by kernel_rfl) ?_
                refine wpAnyT_take (oi := ⟨some 94, Op.load 25 (Operand.tmp 14), 25, _, _, none⟩) (v := .agg #[.int .i64 D, .slice ha hn hc]) rfl (fun _ _ _ h => h) (by rfl) (by assumption) (fun wS hSw => ?_) ?_
                · (try dsimp only at hSw); have qQ := (Below.cell (Has.low hSw) (p := ⟨BQ, k2, none⟩) lQi).trans H10.out.1; have qD := (Below.cell (Has.low hSw) (p := ⟨GH, 0, none⟩) lGi).trans H10.out.2.1; have qS := (Below.cell (Has.low hSw) (p := ⟨GH, 1, none⟩) lGi).trans H10.out.2.2; (try simp only at qQ qD qS); go_simp <;> omega
                simp only [Act.put, List.setIfInBounds_toArray, List.set_cons_zero, List.set_cons_succ]
                refine wpAnyT_take (oi := ⟨some 95, Op.move (Operand.tmp 15), 3, _, _, none⟩) (v := .int .i64 (k2 : Int)) rfl (fun _ _ _ h => h) (by rfl) (by assumption) (fun wS hSw => ?_) ?_
                · (try dsimp only at hSw); have qQ := (Below.cell (Has.low hSw) (p := ⟨BQ, k2, none⟩) lQi).trans H10.out.1; have qD := (Below.cell (Has.low hSw) (p := ⟨GH, 0, none⟩) lGi).trans H10.out.2.1; have qS := (Below.cell (Has.low hSw) (p := ⟨GH, 1, none⟩) lGi).trans H10.out.2.2; (try simp only at qQ qD qS); go_simp <;> omega
                simp only [Act.put, List.setIfInBounds_toArray, List.set_cons_zero, List.set_cons_succ]
                refine wpAnyT_end ?_
                refine wpAnyH_listed #[true, true, false, false, false, false, false, false, false, false, false, false, false] (by kernel_rfl) ?_
                refine wpAnyT_begin [2] (by kernel_rfl) (by kernel_rfl) ?_
                refine wpAnyT_take (oi := ⟨some 96, Op.indexAddr 26 (Operand.tmp 12) (Operand.tmp 95), 0, _, _, none⟩) (v := .pointer (some ⟨BQ, k2, none⟩)) rfl (fun _ _ _ h => h) (by rfl) (by assumption) (fun wS hSw => ?_) ?_
                · (try dsimp only at hSw); have qQ := (Below.cell (Has.low hSw) (p := ⟨BQ, k2, none⟩) lQi).trans H10.out.1; have qD := (Below.cell (Has.low hSw) (p := ⟨GH, 0, none⟩) lGi).trans H10.out.2.1; have qS := (Below.cell (Has.low hSw) (p := ⟨GH, 1, none⟩) lGi).trans H10.out.2.2; (try simp only at qQ qD qS); go_simp <;> omega
                simp only [Act.put, List.setIfInBounds_toArray, List.set_cons_zero, List.set_cons_succ]
                refine wpAnyT_end ?_
                refine wpAnyH_listed #[true, true, true, false, false, false, false, false, false, false, false, false, false] (by kernel_rfl) ?_
                refine wpAnyT_begin [3] (by kernel_rfl) (by kernel_rfl) ?_
                refine wpAnyT_take (oi := ⟨some 97, Op.load 3 (Operand.tmp 96), 3, _, _, none⟩) (v := .int .i64 s) rfl (fun _ _ _ h => h) (by rfl) (by assumption) (fun wS hSw => ?_) ?_
                · (try dsimp only at hSw); have qQ := (Below.cell (Has.low hSw) (p := ⟨BQ, k2, none⟩) lQi).trans H10.out.1; have qD := (Below.cell (Has.low hSw) (p := ⟨GH, 0, none⟩) lGi).trans H10.out.2.1; have qS := (Below.cell (Has.low hSw) (p := ⟨GH, 1, none⟩) lGi).trans H10.out.2.2; (try simp only at qQ qD qS); go_simp <;> omega
                simp only [Act.put, List.setIfInBounds_toArray, List.set_cons_zero, List.set_cons_succ]
                refine wpAnyT_end ?_
                refine wpAnyH_listed #[true, true, true, true, false, false, false, false, false, false, false, false, false] (by kernel_rfl) ?_
                refine wpAnyH_ready (rs := [4, 9]) (by kernel_rfl) (by simp) ?_
                refine AllReadyH.cons (o := ⟨some 98, Op.call { callee := Callee.value (Operand.func 13), args := #[Operand.tmp 94, Operand.tmp 97], argTypes := #[25, 3] }, 37, _, _, none⟩) rfl (fun K hK => ?_) ?_
                · go_simp
                  go_at_call 13
                  refine (Has.call Cy0 (show Calls Try.prog 13 #[.agg #[.int .i64 D, .slice ha hn hc], .int .i64 s] _ fun e w' => e = .returned (.tuple #[.int .i64 Kk, .agg #[.int .i64 U, .int .i64 Z], .bool Bb]) ∧ Below _ _ w' from HT.out ▸ doing_any D _ ES s _ hsb (HRi.out.later Cy0.low))).mono ?_
                  rintro e wy1 ⟨rfl, Cy1⟩
                  go_wp2_with fail
                  clear hHeld
                  refine hK.out _ _ (Cy1) (fun hHeld => ?_)
                  clear hK K
                  try simp only [List.setIfInBounds_toArray, List.set_cons_zero, List.set_cons_succ]
                  refine wpAnyH_listed #[true, true, true, true, true, false, false, false, false, false, false, false, false] (by kernel_rfl) ?_
                  clear Cy0
                  refine wpAnyT_begin [5] (by kernel_rfl) (by kernel_rfl) ?_
                  refine wpAnyT_take (oi := ⟨some 93, Op.move (Operand.tmp 98), 37, _, _, none⟩) (v := .tuple #[.int .i64 Kk, .agg #[.int .i64 U, .int .i64 Z], .bool Bb]) rfl (fun _ _ _ h => h) (by rfl) (by assumption) (fun wS hSw => ?_) ?_
                  · (try dsimp only at hSw); have qQ := (Below.cell (Has.low hSw) (p := ⟨BQ, k2, none⟩) lQi).trans H10.out.1; have qD := (Below.cell (Has.low hSw) (p := ⟨GH, 0, none⟩) lGi).trans H10.out.2.1; have qS := (Below.cell (Has.low hSw) (p := ⟨GH, 1, none⟩) lGi).trans H10.out.2.2; (try simp only at qQ qD qS); go_simp <;> omega
                  simp only [Act.put, List.setIfInBounds_toArray, List.set_cons_zero, List.set_cons_succ]
                  refine wpAnyT_end ?_
                  refine wpAnyH_listed #[true, true, true, true, true, true, false, false, false, false, false, false, false] (by kernel_rfl) ?_
                  refine wpAnyT_begin [6, 7, 8] (by kernel_rfl) (by kernel_rfl) ?_
                  refine wpAnyT_take (oi := ⟨some 99, Op.extract (Operand.tmp 93) 0, 3, _, _, none⟩) (v := .int .i64 Kk) rfl (fun _ _ _ h => h) (by rfl) (by assumption) (fun wS hSw => ?_) ?_
                  · (try dsimp only at hSw); have qQ := (Below.cell (Has.low hSw) (p := ⟨BQ, k2, none⟩) lQi).trans H10.out.1; have qD := (Below.cell (Has.low hSw) (p := ⟨GH, 0, none⟩) lGi).trans H10.out.2.1; have qS := (Below.cell (Has.low hSw) (p := ⟨GH, 1, none⟩) lGi).trans H10.out.2.2; (try simp only at qQ qD qS); go_simp <;> omega
                  simp only [Act.put, List.setIfInBounds_toArray, List.set_cons_zero, List.set_cons_succ]
                  refine wpAnyT_take (oi := ⟨some 100, Op.extract (Operand.tmp 93) 1, 36, _, _, none⟩) (v := .agg #[.int .i64 U, .int .i64 Z]) rfl (fun _ _ _ h => h) (by rfl) (by assumption) (fun wS hSw => ?_) ?_
                  · (try dsimp only at hSw); have qQ := (Below.cell (Has.low hSw) (p := ⟨BQ, k2, none⟩) lQi).trans H10.out.1; have qD := (Below.cell (Has.low hSw) (p := ⟨GH, 0, none⟩) lGi).trans H10.out.2.1; have qS := (Below.cell (Has.low hSw) (p := ⟨GH, 1, none⟩) lGi).trans H10.out.2.2; (try simp only at qQ qD qS); go_simp <;> omega
                  simp only [Act.put, List.setIfInBounds_toArray, List.set_cons_zero, List.set_cons_succ]
                  refine wpAnyT_take (oi := ⟨some 101, Op.extract (Operand.tmp 93) 2, 4, _, _, none⟩) (v := .bool Bb) rfl (fun _ _ _ h => h) (by rfl) (by assumption) (fun wS hSw => ?_) ?_
                  · (try dsimp only at hSw); have qQ := (Below.cell (Has.low hSw) (p := ⟨BQ, k2, none⟩) lQi).trans H10.out.1; have qD := (Below.cell (Has.low hSw) (p := ⟨GH, 0, none⟩) lGi).trans H10.out.2.1; have qS := (Below.cell (Has.low hSw) (p := ⟨GH, 1, none⟩) lGi).trans H10.out.2.2; (try simp only at qQ qD qS); go_simp <;> omega
                  simp only [Act.put, List.setIfInBounds_toArray, List.set_cons_zero, List.set_cons_succ]
                  refine wpAnyT_end ?_
                  refine wpAnyH_listed #[true, true, true, true, true, true, true, true, true, false, false, false, false] (by kernel_rfl) ?_
                  refine wpAnyH_ready (rs := [9]) (by kernel_rfl) (by simp) ?_
                  refine AllReadyH.cons (o := ⟨some 17, Op.alloc 36, 0, _, _, none⟩) rfl (fun K hK => ?_) AllReadyH.nil
                  have Cy2 := Cy1.push [.int .i64 0, .int .i64 0] 36
                  go_simp
                  change Has wi _ (wy1.alloc (.cells #[.int .i64 0, .int .i64 0] 36)) at Cy2
                  generalize wy1.alloc (.cells #[.int .i64 0, .int .i64 0] 36) = wy2 at *
                  generalize wy1.heap.size = Gy at *
                  clear hHeld
                  refine hK.out _ _ (Cy2.tail) (fun hHeld => ?_)
                  clear hK K
                  try simp only [List.setIfInBounds_toArray, List.set_cons_zero, List.set_cons_succ]
                  refine wpAnyH_listed #[true, true, true, true, true, true, true, true, true, true, false, false, false] (by kernel_rfl) ?_
                  clear Cy1
                  refine wpAnyT_begin [10] (by kernel_rfl) (by kernel_rfl) ?_
                  refine wpAnyT_take (oi := ⟨some 16, Op.assign (Operand.tmp 99), 3, _, _, none⟩) (v := .int .i64 Kk) rfl (fun _ _ _ h => h) (by rfl) (by assumption) (fun wS hSw => ?_) ?_
                  · (try dsimp only at hSw); have qQ := (Below.cell (Has.low hSw) (p := ⟨BQ, k2, none⟩) lQi).trans H10.out.1; have qD := (Below.cell (Has.low hSw) (p := ⟨GH, 0, none⟩) lGi).trans H10.out.2.1; have qS := (Below.cell (Has.low hSw) (p := ⟨GH, 1, none⟩) lGi).trans H10.out.2.2; (try simp only at qQ qD qS); go_simp <;> omega
                  simp only [Act.put, List.setIfInBounds_toArray, List.set_cons_zero, List.set_cons_succ]
                  refine wpAnyT_end ?_
                  refine wpAnyH_listed #[true, true, true, true, true, true, true, true, true, true, true, false, false] (by kernel_rfl) ?_
                  refine wpAnyH_ready (rs := [11]) (by kernel_rfl) (by simp) ?_
                  refine AllReadyH.cons (o := ⟨none, Op.store 36 (Operand.tmp 17) (Operand.tmp 100), 0, _, _, none⟩) rfl (fun K hK => ?_) AllReadyH.nil
                  have ky0 := Cy2.fact (.head _) (i := 0) rfl
                  have fy0 := Cy2.free (.head _) (i := 0) rfl
                  have ky1 := Cy2.fact (.head _) (i := 1) rfl
                  have fy1 := Cy2.free (.head _) (i := 1) rfl
                  simp only at ky0 fy0 ky1 fy1
                  go_simp
                  have Cy3 := ((Cy2.set 0 (by simp) (.int .i64 U)).set 1 (by simp) (.int .i64 Z))
                  clear ky0 fy0 ky1 fy1
                  simp only [List.set_cons_zero, List.set_cons_succ] at Cy3
                  generalize ((wy2.setCell ⟨Gy, 0, none⟩ (.int .i64 U)).setCell ⟨Gy, 1, none⟩ (.int .i64 Z)) = wy3 at *
                  clear hHeld
                  refine hK.out _ _ (Cy3.tail) (fun hHeld => ?_)
                  clear hK K
                  try simp only [List.setIfInBounds_toArray, List.set_cons_zero, List.set_cons_succ]
                  refine wpAnyH_listed #[true, true, true, true, true, true, true, true, true, true, true, true, false] (by kernel_rfl) ?_
                  clear Cy2
                  refine wpAnyT_begin [12] (by kernel_rfl) (by kernel_rfl) ?_
                  refine wpAnyT_take (oi := ⟨some 18, Op.assign (Operand.tmp 101), 4, _, _, none⟩) (v := .bool Bb) rfl (fun _ _ _ h => h) (by rfl) (by assumption) (fun wS hSw => ?_) ?_
                  · (try dsimp only at hSw); have qQ := (Below.cell (Has.low hSw) (p := ⟨BQ, k2, none⟩) lQi).trans H10.out.1; have qD := (Below.cell (Has.low hSw) (p := ⟨GH, 0, none⟩) lGi).trans H10.out.2.1; have qS := (Below.cell (Has.low hSw) (p := ⟨GH, 1, none⟩) lGi).trans H10.out.2.2; (try simp only at qQ qD qS); go_simp <;> omega
                  simp only [Act.put, List.setIfInBounds_toArray, List.set_cons_zero, List.set_cons_succ]
                  refine wpAnyT_end ?_
                  refine wpAnyH_listed #[true, true, true, true, true, true, true, true, true, true, true, true, true] (by kernel_rfl) ?_
                  refine wpAnyH_done (by kernel_rfl) ?_ _
                  clear hHeld
                  go_wp2_with fail
                  go_meet
                  exact ⟨rfl, rfl, Gy, rfl, Cy3⟩
                · refine AllReadyH.cons (o := ⟨some 17, Op.alloc 36, 0, _, _, none⟩) rfl (fun K hK => ?_) AllReadyH.nil
                  have Cy1 := Cy0.push [.int .i64 0, .int .i64 0] 36
                  go_simp
                  change Has wi _ (wy0.alloc (.cells #[.int .i64 0, .int .i64 0] 36)) at Cy1
                  generalize wy0.alloc (.cells #[.int .i64 0, .int .i64 0] 36) = wy1 at *
                  generalize wy0.heap.size = Gy at *
                  clear hHeld
                  refine hK.out _ _ (Cy1.tail) (fun hHeld => ?_)
                  clear hK K
                  try simp only [List.setIfInBounds_toArray, List.set_cons_zero, List.set_cons_succ]
                  refine wpAnyH_listed #[true, true, true, true, false, false, false, false, false, true, false, false, false] (by kernel_rfl) ?_
                  clear Cy0
                  refine wpAnyH_ready (rs := [4]) (by kernel_rfl) (by simp) ?_
                  refine AllReadyH.cons (o := ⟨some 98, Op.call { callee := Callee.value (Operand.func 13), args := #[Operand.tmp 94, Operand.tmp 97], argTypes := #[25, 3] }, 37, _, _, none⟩) rfl (fun K hK => ?_) AllReadyH.nil
                  go_simp
                  go_at_call 13
                  refine (Has.call Cy1 (show Calls Try.prog 13 #[.agg #[.int .i64 D, .slice ha hn hc], .int .i64 s] _ fun e w' => e = .returned (.tuple #[.int .i64 Kk, .agg #[.int .i64 U, .int .i64 Z], .bool Bb]) ∧ Below _ _ w' from HT.out ▸ doing_any D _ ES s _ hsb (HRi.out.later Cy1.low))).mono ?_
                  rintro e wy2 ⟨rfl, Cy2⟩
                  go_wp2_with fail
                  clear hHeld
                  refine hK.out _ _ (Cy2.tail) (fun hHeld => ?_)
                  clear hK K
                  try simp only [List.setIfInBounds_toArray, List.set_cons_zero, List.set_cons_succ]
                  refine wpAnyH_listed #[true, true, true, true, true, false, false, false, false, true, false, false, false] (by kernel_rfl) ?_
                  clear Cy1
                  refine wpAnyT_begin [5] (by kernel_rfl) (by kernel_rfl) ?_
                  refine wpAnyT_take (oi := ⟨some 93, Op.move (Operand.tmp 98), 37, _, _, none⟩) (v := .tuple #[.int .i64 Kk, .agg #[.int .i64 U, .int .i64 Z], .bool Bb]) rfl (fun _ _ _ h => h) (by rfl) (by assumption) (fun wS hSw => ?_) ?_
                  · (try dsimp only at hSw); have qQ := (Below.cell (Has.low hSw) (p := ⟨BQ, k2, none⟩) lQi).trans H10.out.1; have qD := (Below.cell (Has.low hSw) (p := ⟨GH, 0, none⟩) lGi).trans H10.out.2.1; have qS := (Below.cell (Has.low hSw) (p := ⟨GH, 1, none⟩) lGi).trans H10.out.2.2; (try simp only at qQ qD qS); go_simp <;> omega
                  simp only [Act.put, List.setIfInBounds_toArray, List.set_cons_zero, List.set_cons_succ]
                  refine wpAnyT_end ?_
                  refine wpAnyH_listed #[true, true, true, true, true, true, false, false, false, true, false, false, false] (by kernel_rfl) ?_
                  refine wpAnyT_begin [6, 7, 8] (by kernel_rfl) (by kernel_rfl) ?_
                  refine wpAnyT_take (oi := ⟨some 99, Op.extract (Operand.tmp 93) 0, 3, _, _, none⟩) (v := .int .i64 Kk) rfl (fun _ _ _ h => h) (by rfl) (by assumption) (fun wS hSw => ?_) ?_
                  · (try dsimp only at hSw); have qQ := (Below.cell (Has.low hSw) (p := ⟨BQ, k2, none⟩) lQi).trans H10.out.1; have qD := (Below.cell (Has.low hSw) (p := ⟨GH, 0, none⟩) lGi).trans H10.out.2.1; have qS := (Below.cell (Has.low hSw) (p := ⟨GH, 1, none⟩) lGi).trans H10.out.2.2; (try simp only at qQ qD qS); go_simp <;> omega
                  simp only [Act.put, List.setIfInBounds_toArray, List.set_cons_zero, List.set_cons_succ]
                  refine wpAnyT_take (oi := ⟨some 100, Op.extract (Operand.tmp 93) 1, 36, _, _, none⟩) (v := .agg #[.int .i64 U, .int .i64 Z]) rfl (fun _ _ _ h => h) (by rfl) (by assumption) (fun wS hSw => ?_) ?_
                  · (try dsimp only at hSw); have qQ := (Below.cell (Has.low hSw) (p := ⟨BQ, k2, none⟩) lQi).trans H10.out.1; have qD := (Below.cell (Has.low hSw) (p := ⟨GH, 0, none⟩) lGi).trans H10.out.2.1; have qS := (Below.cell (Has.low hSw) (p := ⟨GH, 1, none⟩) lGi).trans H10.out.2.2; (try simp only at qQ qD qS); go_simp <;> omega
                  simp only [Act.put, List.setIfInBounds_toArray, List.set_cons_zero, List.set_cons_succ]
                  refine wpAnyT_take (oi := ⟨some 101, Op.extract (Operand.tmp 93) 2, 4, _, _, none⟩) (v := .bool Bb) rfl (fun _ _ _ h => h) (by rfl) (by assumption) (fun wS hSw => ?_) ?_
                  · (try dsimp only at hSw); have qQ := (Below.cell (Has.low hSw) (p := ⟨BQ, k2, none⟩) lQi).trans H10.out.1; have qD := (Below.cell (Has.low hSw) (p := ⟨GH, 0, none⟩) lGi).trans H10.out.2.1; have qS := (Below.cell (Has.low hSw) (p := ⟨GH, 1, none⟩) lGi).trans H10.out.2.2; (try simp only at qQ qD qS); go_simp <;> omega
                  simp only [Act.put, List.setIfInBounds_toArray, List.set_cons_zero, List.set_cons_succ]
                  refine wpAnyT_end ?_
                  refine wpAnyH_listed #[true, true, true, true, true, true, true, true, true, true, false, false, false] (by kernel_rfl) ?_
                  refine wpAnyT_begin [10] (by kernel_rfl) (by kernel_rfl) ?_
                  refine wpAnyT_take (oi := ⟨some 16, Op.assign (Operand.tmp 99), 3, _, _, none⟩) (v := .int .i64 Kk) rfl (fun _ _ _ h => h) (by rfl) (by assumption) (fun wS hSw => ?_) ?_
                  · (try dsimp only at hSw); have qQ := (Below.cell (Has.low hSw) (p := ⟨BQ, k2, none⟩) lQi).trans H10.out.1; have qD := (Below.cell (Has.low hSw) (p := ⟨GH, 0, none⟩) lGi).trans H10.out.2.1; have qS := (Below.cell (Has.low hSw) (p := ⟨GH, 1, none⟩) lGi).trans H10.out.2.2; (try simp only at qQ qD qS); go_simp <;> omega
                  simp only [Act.put, List.setIfInBounds_toArray, List.set_cons_zero, List.set_cons_succ]
                  refine wpAnyT_end ?_
                  refine wpAnyH_listed #[true, true, true, true, true, true, true, true, true, true, true, false, false] (by kernel_rfl) ?_
                  refine wpAnyH_ready (rs := [11]) (by kernel_rfl) (by simp) ?_
                  refine AllReadyH.cons (o := ⟨none, Op.store 36 (Operand.tmp 17) (Operand.tmp 100), 0, _, _, none⟩) rfl (fun K hK => ?_) AllReadyH.nil
                  have ky0 := Cy2.fact (.head _) (i := 0) rfl
                  have fy0 := Cy2.free (.head _) (i := 0) rfl
                  have ky1 := Cy2.fact (.head _) (i := 1) rfl
                  have fy1 := Cy2.free (.head _) (i := 1) rfl
                  simp only at ky0 fy0 ky1 fy1
                  go_simp
                  have Cy3 := ((Cy2.set 0 (by simp) (.int .i64 U)).set 1 (by simp) (.int .i64 Z))
                  clear ky0 fy0 ky1 fy1
                  simp only [List.set_cons_zero, List.set_cons_succ] at Cy3
                  generalize ((wy2.setCell ⟨Gy, 0, none⟩ (.int .i64 U)).setCell ⟨Gy, 1, none⟩ (.int .i64 Z)) = wy3 at *
                  clear hHeld
                  refine hK.out _ _ (Cy3.tail) (fun hHeld => ?_)
                  clear hK K
                  try simp only [List.setIfInBounds_toArray, List.set_cons_zero, List.set_cons_succ]
                  refine wpAnyH_listed #[true, true, true, true, true, true, true, true, true, true, true, true, false] (by kernel_rfl) ?_
                  clear Cy2
                  refine wpAnyT_begin [12] (by kernel_rfl) (by kernel_rfl) ?_
                  refine wpAnyT_take (oi := ⟨some 18, Op.assign (Operand.tmp 101), 4, _, _, none⟩) (v := .bool Bb) rfl (fun _ _ _ h => h) (by rfl) (by assumption) (fun wS hSw => ?_) ?_
                  · (try dsimp only at hSw); have qQ := (Below.cell (Has.low hSw) (p := ⟨BQ, k2, none⟩) lQi).trans H10.out.1; have qD := (Below.cell (Has.low hSw) (p := ⟨GH, 0, none⟩) lGi).trans H10.out.2.1; have qS := (Below.cell (Has.low hSw) (p := ⟨GH, 1, none⟩) lGi).trans H10.out.2.2; (try simp only at qQ qD qS); go_simp <;> omega
                  simp only [Act.put, List.setIfInBounds_toArray, List.set_cons_zero, List.set_cons_succ]
                  refine wpAnyT_end ?_
                  refine wpAnyH_listed #[true, true, true, true, true, true, true, true, true, true, true, true, true] (by kernel_rfl) ?_
                  refine wpAnyH_done (by kernel_rfl) ?_ _
                  clear hHeld
                  go_wp2_with fail
                  go_meet
                  exact ⟨rfl, rfl, Gy, rfl, Cy3⟩
              case rest =>
                obtain ⟨rfl, rfl, G17, rfl, K17⟩ := hcut
                rename World => w11
                clear K10
                go_upto_region 19 with fail
                go_cut [19, 20, 21] (fun x p y wx => x = .int .i64 Kk ∧ y = .bool Bb ∧ ∃ G, p = .pointer (some ⟨G, 0, none⟩) ∧ Has wi [(G, [.int .i64 U, .int .i64 Z]), (G17, [.int .i64 U, .int .i64 Z])] wx)
                case first =>
                  have Cx0 := K17.drew
                  refine wp_region_held_drew (S := (fun wz => Has wi [(G17, [.int .i64 U, .int .i64 Z])] wz)) (by kernel_rfl) Cx0 (fun hHeld => ?_)
                  generalize w11.drew = wx0 at *
                  refine wpAnyT_begin [0, 1] (by kernel_rfl) (by kernel_rfl) ?_
                  refine wpAnyT_take (oi := ⟨some 103, Op.load 25 (Operand.tmp 14), 25, _, _, none⟩) (v := .agg #[.int .i64 D, .slice ha hn hc]) rfl (fun _ _ _ h => h) (by rfl) (by assumption) (fun wS hSw => ?_) ?_
                  · (try dsimp only at hSw); have qQ := (Below.cell (Has.low hSw) (p := ⟨BQ, k2, none⟩) lQi).trans H10.out.1; have qD := (Below.cell (Has.low hSw) (p := ⟨GH, 0, none⟩) lGi).trans H10.out.2.1; have qS := (Below.cell (Has.low hSw) (p := ⟨GH, 1, none⟩) lGi).trans H10.out.2.2; (try simp only at qQ qD qS); go_simp <;> omega
                  simp only [Act.put, List.setIfInBounds_toArray, List.set_cons_zero, List.set_cons_succ]
                  refine wpAnyT_take (oi := ⟨some 104, Op.move (Operand.tmp 15), 3, _, _, none⟩) (v := .int .i64 (k2 : Int)) rfl (fun _ _ _ h => h) (by rfl) (by assumption) (fun wS hSw => ?_) ?_
                  · (try dsimp only at hSw); have qQ := (Below.cell (Has.low hSw) (p := ⟨BQ, k2, none⟩) lQi).trans H10.out.1; have qD := (Below.cell (Has.low hSw) (p := ⟨GH, 0, none⟩) lGi).trans H10.out.2.1; have qS := (Below.cell (Has.low hSw) (p := ⟨GH, 1, none⟩) lGi).trans H10.out.2.2; (try simp only at qQ qD qS); go_simp <;> omega
                  simp only [Act.put, List.setIfInBounds_toArray, List.set_cons_zero, List.set_cons_succ]
                  refine wpAnyT_end ?_
                  refine wpAnyH_listed #[true, true, false, false, false, false, false, false, false, false, false, false, false] (by kernel_rfl) ?_
                  refine wpAnyT_begin [2] (by kernel_rfl) (by kernel_rfl) ?_
                  refine wpAnyT_take (oi := ⟨some 105, Op.indexAddr 26 (Operand.tmp 12) (Operand.tmp 104), 0, _, _, none⟩) (v := .pointer (some ⟨BQ, k2, none⟩)) rfl (fun _ _ _ h => h) (by rfl) (by assumption) (fun wS hSw => ?_) ?_
                  · (try dsimp only at hSw); have qQ := (Below.cell (Has.low hSw) (p := ⟨BQ, k2, none⟩) lQi).trans H10.out.1; have qD := (Below.cell (Has.low hSw) (p := ⟨GH, 0, none⟩) lGi).trans H10.out.2.1; have qS := (Below.cell (Has.low hSw) (p := ⟨GH, 1, none⟩) lGi).trans H10.out.2.2; (try simp only at qQ qD qS); go_simp <;> omega
                  simp only [Act.put, List.setIfInBounds_toArray, List.set_cons_zero, List.set_cons_succ]
                  refine wpAnyT_end ?_
                  refine wpAnyH_listed #[true, true, true, false, false, false, false, false, false, false, false, false, false] (by kernel_rfl) ?_
                  refine wpAnyT_begin [3] (by kernel_rfl) (by kernel_rfl) ?_
                  refine wpAnyT_take (oi := ⟨some 106, Op.load 3 (Operand.tmp 105), 3, _, _, none⟩) (v := .int .i64 s) rfl (fun _ _ _ h => h) (by rfl) (by assumption) (fun wS hSw => ?_) ?_
                  · (try dsimp only at hSw); have qQ := (Below.cell (Has.low hSw) (p := ⟨BQ, k2, none⟩) lQi).trans H10.out.1; have qD := (Below.cell (Has.low hSw) (p := ⟨GH, 0, none⟩) lGi).trans H10.out.2.1; have qS := (Below.cell (Has.low hSw) (p := ⟨GH, 1, none⟩) lGi).trans H10.out.2.2; (try simp only at qQ qD qS); go_simp <;> omega
                  simp only [Act.put, List.setIfInBounds_toArray, List.set_cons_zero, List.set_cons_succ]
                  refine wpAnyT_end ?_
                  refine wpAnyH_listed #[true, true, true, true, false, false, false, false, false, false, false, false, false] (by kernel_rfl) ?_
                  refine wpAnyH_ready (rs := [4, 9]) (by kernel_rfl) (by simp) ?_
                  refine AllReadyH.cons (o := ⟨some 107, Op.call { callee := Callee.value (Operand.func 14), args := #[Operand.tmp 103, Operand.tmp 106], argTypes := #[25, 3] }, 37, _, _, none⟩) rfl (fun K hK => ?_) ?_
                  · go_simp
                    go_at_call 14
                    refine (Has.call Cx0 (show Calls Try.prog 14 #[.agg #[.int .i64 D, .slice ha hn hc], .int .i64 s] _ fun e w' => e = .returned (.tuple #[.int .i64 Kk, .agg #[.int .i64 U, .int .i64 Z], .bool Bb]) ∧ Below _ _ w' from HT.out ▸ rdoing_any D _ ES s _ hsb (HRi.out.later Cx0.low))).mono ?_
                    rintro e wx1 ⟨rfl, Cx1⟩
                    go_wp2_with fail
                    clear hHeld
                    refine hK.out _ _ (Cx1) (fun hHeld => ?_)
                    clear hK K
                    try simp only [List.setIfInBounds_toArray, List.set_cons_zero, List.set_cons_succ]
                    refine wpAnyH_listed #[true, true, true, true, true, false, false, false, false, false, false, false, false] (by kernel_rfl) ?_
                    clear Cx0
                    refine wpAnyT_begin [5] (by kernel_rfl) (by kernel_rfl) ?_
                    refine wpAnyT_take (oi := ⟨some 102, Op.move (Operand.tmp 107), 37, _, _, none⟩) (v := .tuple #[.int .i64 Kk, .agg #[.int .i64 U, .int .i64 Z], .bool Bb]) rfl (fun _ _ _ h => h) (by rfl) (by assumption) (fun wS hSw => ?_) ?_
                    · (try dsimp only at hSw); have qQ := (Below.cell (Has.low hSw) (p := ⟨BQ, k2, none⟩) lQi).trans H10.out.1; have qD := (Below.cell (Has.low hSw) (p := ⟨GH, 0, none⟩) lGi).trans H10.out.2.1; have qS := (Below.cell (Has.low hSw) (p := ⟨GH, 1, none⟩) lGi).trans H10.out.2.2; (try simp only at qQ qD qS); go_simp <;> omega
                    simp only [Act.put, List.setIfInBounds_toArray, List.set_cons_zero, List.set_cons_succ]
                    refine wpAnyT_end ?_
                    refine wpAnyH_listed #[true, true, true, true, true, true, false, false, false, false, false, false, false] (by kernel_rfl) ?_
                    refine wpAnyT_begin [6, 7, 8] (by kernel_rfl) (by kernel_rfl) ?_
                    refine wpAnyT_take (oi := ⟨some 108, Op.extract (Operand.tmp 102) 0, 3, _, _, none⟩) (v := .int .i64 Kk) rfl (fun _ _ _ h => h) (by rfl) (by assumption) (fun wS hSw => ?_) ?_
                    · (try dsimp only at hSw); have qQ := (Below.cell (Has.low hSw) (p := ⟨BQ, k2, none⟩) lQi).trans H10.out.1; have qD := (Below.cell (Has.low hSw) (p := ⟨GH, 0, none⟩) lGi).trans H10.out.2.1; have qS := (Below.cell (Has.low hSw) (p := ⟨GH, 1, none⟩) lGi).trans H10.out.2.2; (try simp only at qQ qD qS); go_simp <;> omega
                    simp only [Act.put, List.setIfInBounds_toArray, List.set_cons_zero, List.set_cons_succ]
                    refine wpAnyT_take (oi := ⟨some 109, Op.extract (Operand.tmp 102) 1, 36, _, _, none⟩) (v := .agg #[.int .i64 U, .int .i64 Z]) rfl (fun _ _ _ h => h) (by rfl) (by assumption) (fun wS hSw => ?_) ?_
                    · (try dsimp only at hSw); have qQ := (Below.cell (Has.low hSw) (p := ⟨BQ, k2, none⟩) lQi).trans H10.out.1; have qD := (Below.cell (Has.low hSw) (p := ⟨GH, 0, none⟩) lGi).trans H10.out.2.1; have qS := (Below.cell (Has.low hSw) (p := ⟨GH, 1, none⟩) lGi).trans H10.out.2.2; (try simp only at qQ qD qS); go_simp <;> omega
                    simp only [Act.put, List.setIfInBounds_toArray, List.set_cons_zero, List.set_cons_succ]
                    refine wpAnyT_take (oi := ⟨some 110, Op.extract (Operand.tmp 102) 2, 4, _, _, none⟩) (v := .bool Bb) rfl (fun _ _ _ h => h) (by rfl) (by assumption) (fun wS hSw => ?_) ?_
                    · (try dsimp only at hSw); have qQ := (Below.cell (Has.low hSw) (p := ⟨BQ, k2, none⟩) lQi).trans H10.out.1; have qD := (Below.cell (Has.low hSw) (p := ⟨GH, 0, none⟩) lGi).trans H10.out.2.1; have qS := (Below.cell (Has.low hSw) (p := ⟨GH, 1, none⟩) lGi).trans H10.out.2.2; (try simp only at qQ qD qS); go_simp <;> omega
                    simp only [Act.put, List.setIfInBounds_toArray, List.set_cons_zero, List.set_cons_succ]
                    refine wpAnyT_end ?_
                    refine wpAnyH_listed #[true, true, true, true, true, true, true, true, true, false, false, false, false] (by kernel_rfl) ?_
                    refine wpAnyH_ready (rs := [9]) (by kernel_rfl) (by simp) ?_
                    refine AllReadyH.cons (o := ⟨some 20, Op.alloc 36, 0, _, _, none⟩) rfl (fun K hK => ?_) AllReadyH.nil
                    have Cx2 := Cx1.push [.int .i64 0, .int .i64 0] 36
                    go_simp
                    change Has wi _ (wx1.alloc (.cells #[.int .i64 0, .int .i64 0] 36)) at Cx2
                    generalize wx1.alloc (.cells #[.int .i64 0, .int .i64 0] 36) = wx2 at *
                    generalize wx1.heap.size = Gx at *
                    clear hHeld
                    refine hK.out _ _ (Cx2.tail) (fun hHeld => ?_)
                    clear hK K
                    try simp only [List.setIfInBounds_toArray, List.set_cons_zero, List.set_cons_succ]
                    refine wpAnyH_listed #[true, true, true, true, true, true, true, true, true, true, false, false, false] (by kernel_rfl) ?_
                    clear Cx1
                    refine wpAnyT_begin [10] (by kernel_rfl) (by kernel_rfl) ?_
                    refine wpAnyT_take (oi := ⟨some 19, Op.assign (Operand.tmp 108), 3, _, _, none⟩) (v := .int .i64 Kk) rfl (fun _ _ _ h => h) (by rfl) (by assumption) (fun wS hSw => ?_) ?_
                    · (try dsimp only at hSw); have qQ := (Below.cell (Has.low hSw) (p := ⟨BQ, k2, none⟩) lQi).trans H10.out.1; have qD := (Below.cell (Has.low hSw) (p := ⟨GH, 0, none⟩) lGi).trans H10.out.2.1; have qS := (Below.cell (Has.low hSw) (p := ⟨GH, 1, none⟩) lGi).trans H10.out.2.2; (try simp only at qQ qD qS); go_simp <;> omega
                    simp only [Act.put, List.setIfInBounds_toArray, List.set_cons_zero, List.set_cons_succ]
                    refine wpAnyT_end ?_
                    refine wpAnyH_listed #[true, true, true, true, true, true, true, true, true, true, true, false, false] (by kernel_rfl) ?_
                    refine wpAnyH_ready (rs := [11]) (by kernel_rfl) (by simp) ?_
                    refine AllReadyH.cons (o := ⟨none, Op.store 36 (Operand.tmp 20) (Operand.tmp 109), 0, _, _, none⟩) rfl (fun K hK => ?_) AllReadyH.nil
                    have kx0 := Cx2.fact (.head _) (i := 0) rfl
                    have fx0 := Cx2.free (.head _) (i := 0) rfl
                    have kx1 := Cx2.fact (.head _) (i := 1) rfl
                    have fx1 := Cx2.free (.head _) (i := 1) rfl
                    simp only at kx0 fx0 kx1 fx1
                    go_simp
                    have Cx3 := ((Cx2.set 0 (by simp) (.int .i64 U)).set 1 (by simp) (.int .i64 Z))
                    clear kx0 fx0 kx1 fx1
                    simp only [List.set_cons_zero, List.set_cons_succ] at Cx3
                    generalize ((wx2.setCell ⟨Gx, 0, none⟩ (.int .i64 U)).setCell ⟨Gx, 1, none⟩ (.int .i64 Z)) = wx3 at *
                    clear hHeld
                    refine hK.out _ _ (Cx3.tail) (fun hHeld => ?_)
                    clear hK K
                    try simp only [List.setIfInBounds_toArray, List.set_cons_zero, List.set_cons_succ]
                    refine wpAnyH_listed #[true, true, true, true, true, true, true, true, true, true, true, true, false] (by kernel_rfl) ?_
                    clear Cx2
                    refine wpAnyT_begin [12] (by kernel_rfl) (by kernel_rfl) ?_
                    refine wpAnyT_take (oi := ⟨some 21, Op.assign (Operand.tmp 110), 4, _, _, none⟩) (v := .bool Bb) rfl (fun _ _ _ h => h) (by rfl) (by assumption) (fun wS hSw => ?_) ?_
                    · (try dsimp only at hSw); have qQ := (Below.cell (Has.low hSw) (p := ⟨BQ, k2, none⟩) lQi).trans H10.out.1; have qD := (Below.cell (Has.low hSw) (p := ⟨GH, 0, none⟩) lGi).trans H10.out.2.1; have qS := (Below.cell (Has.low hSw) (p := ⟨GH, 1, none⟩) lGi).trans H10.out.2.2; (try simp only at qQ qD qS); go_simp <;> omega
                    simp only [Act.put, List.setIfInBounds_toArray, List.set_cons_zero, List.set_cons_succ]
                    refine wpAnyT_end ?_
                    refine wpAnyH_listed #[true, true, true, true, true, true, true, true, true, true, true, true, true] (by kernel_rfl) ?_
                    refine wpAnyH_done (by kernel_rfl) ?_ _
                    clear hHeld
                    go_wp2_with fail
                    go_meet
                    exact ⟨rfl, rfl, Gx, rfl, Cx3⟩
                  · refine AllReadyH.cons (o := ⟨some 20, Op.alloc 36, 0, _, _, none⟩) rfl (fun K hK => ?_) AllReadyH.nil
                    have Cx1 := Cx0.push [.int .i64 0, .int .i64 0] 36
                    go_simp
                    change Has wi _ (wx0.alloc (.cells #[.int .i64 0, .int .i64 0] 36)) at Cx1
                    generalize wx0.alloc (.cells #[.int .i64 0, .int .i64 0] 36) = wx1 at *
                    generalize wx0.heap.size = Gx at *
                    clear hHeld
                    refine hK.out _ _ (Cx1.tail) (fun hHeld => ?_)
                    clear hK K
                    try simp only [List.setIfInBounds_toArray, List.set_cons_zero, List.set_cons_succ]
                    refine wpAnyH_listed #[true, true, true, true, false, false, false, false, false, true, false, false, false] (by kernel_rfl) ?_
                    clear Cx0
                    refine wpAnyH_ready (rs := [4]) (by kernel_rfl) (by simp) ?_
                    refine AllReadyH.cons (o := ⟨some 107, Op.call { callee := Callee.value (Operand.func 14), args := #[Operand.tmp 103, Operand.tmp 106], argTypes := #[25, 3] }, 37, _, _, none⟩) rfl (fun K hK => ?_) AllReadyH.nil
                    go_simp
                    go_at_call 14
                    refine (Has.call Cx1 (show Calls Try.prog 14 #[.agg #[.int .i64 D, .slice ha hn hc], .int .i64 s] _ fun e w' => e = .returned (.tuple #[.int .i64 Kk, .agg #[.int .i64 U, .int .i64 Z], .bool Bb]) ∧ Below _ _ w' from HT.out ▸ rdoing_any D _ ES s _ hsb (HRi.out.later Cx1.low))).mono ?_
                    rintro e wx2 ⟨rfl, Cx2⟩
                    go_wp2_with fail
                    clear hHeld
                    refine hK.out _ _ (Cx2.tail) (fun hHeld => ?_)
                    clear hK K
                    try simp only [List.setIfInBounds_toArray, List.set_cons_zero, List.set_cons_succ]
                    refine wpAnyH_listed #[true, true, true, true, true, false, false, false, false, true, false, false, false] (by kernel_rfl) ?_
                    clear Cx1
                    refine wpAnyT_begin [5] (by kernel_rfl) (by kernel_rfl) ?_
                    refine wpAnyT_take (oi := ⟨some 102, Op.move (Operand.tmp 107), 37, _, _, none⟩) (v := .tuple #[.int .i64 Kk, .agg #[.int .i64 U, .int .i64 Z], .bool Bb]) rfl (fun _ _ _ h => h) (by rfl) (by assumption) (fun wS hSw => ?_) ?_
                    · (try dsimp only at hSw); have qQ := (Below.cell (Has.low hSw) (p := ⟨BQ, k2, none⟩) lQi).trans H10.out.1; have qD := (Below.cell (Has.low hSw) (p := ⟨GH, 0, none⟩) lGi).trans H10.out.2.1; have qS := (Below.cell (Has.low hSw) (p := ⟨GH, 1, none⟩) lGi).trans H10.out.2.2; (try simp only at qQ qD qS); go_simp <;> omega
                    simp only [Act.put, List.setIfInBounds_toArray, List.set_cons_zero, List.set_cons_succ]
                    refine wpAnyT_end ?_
                    refine wpAnyH_listed #[true, true, true, true, true, true, false, false, false, true, false, false, false] (by kernel_rfl) ?_
                    refine wpAnyT_begin [6, 7, 8] (by kernel_rfl) (by kernel_rfl) ?_
                    refine wpAnyT_take (oi := ⟨some 108, Op.extract (Operand.tmp 102) 0, 3, _, _, none⟩) (v := .int .i64 Kk) rfl (fun _ _ _ h => h) (by rfl) (by assumption) (fun wS hSw => ?_) ?_
                    · (try dsimp only at hSw); have qQ := (Below.cell (Has.low hSw) (p := ⟨BQ, k2, none⟩) lQi).trans H10.out.1; have qD := (Below.cell (Has.low hSw) (p := ⟨GH, 0, none⟩) lGi).trans H10.out.2.1; have qS := (Below.cell (Has.low hSw) (p := ⟨GH, 1, none⟩) lGi).trans H10.out.2.2; (try simp only at qQ qD qS); go_simp <;> omega
                    simp only [Act.put, List.setIfInBounds_toArray, List.set_cons_zero, List.set_cons_succ]
                    refine wpAnyT_take (oi := ⟨some 109, Op.extract (Operand.tmp 102) 1, 36, _, _, none⟩) (v := .agg #[.int .i64 U, .int .i64 Z]) rfl (fun _ _ _ h => h) (by rfl) (by assumption) (fun wS hSw => ?_) ?_
                    · (try dsimp only at hSw); have qQ := (Below.cell (Has.low hSw) (p := ⟨BQ, k2, none⟩) lQi).trans H10.out.1; have qD := (Below.cell (Has.low hSw) (p := ⟨GH, 0, none⟩) lGi).trans H10.out.2.1; have qS := (Below.cell (Has.low hSw) (p := ⟨GH, 1, none⟩) lGi).trans H10.out.2.2; (try simp only at qQ qD qS); go_simp <;> omega
                    simp only [Act.put, List.setIfInBounds_toArray, List.set_cons_zero, List.set_cons_succ]
                    refine wpAnyT_take (oi := ⟨some 110, Op.extract (Operand.tmp 102) 2, 4, _, _, none⟩) (v := .bool Bb) rfl (fun _ _ _ h => h) (by rfl) (by assumption) (fun wS hSw => ?_) ?_
                    · (try dsimp only at hSw); have qQ := (Below.cell (Has.low hSw) (p := ⟨BQ, k2, none⟩) lQi).trans H10.out.1; have qD := (Below.cell (Has.low hSw) (p := ⟨GH, 0, none⟩) lGi).trans H10.out.2.1; have qS := (Below.cell (Has.low hSw) (p := ⟨GH, 1, none⟩) lGi).trans H10.out.2.2; (try simp only at qQ qD qS); go_simp <;> omega
                    simp only [Act.put, List.setIfInBounds_toArray, List.set_cons_zero, List.set_cons_succ]
                    refine wpAnyT_end ?_
                    refine wpAnyH_listed #[true, true, true, true, true, true, true, true, true, true, false, false, false] (by kernel_rfl) ?_
                    refine wpAnyT_begin [10] (by kernel_rfl) (by kernel_rfl) ?_
                    refine wpAnyT_take (oi := ⟨some 19, Op.assign (Operand.tmp 108), 3, _, _, none⟩) (v := .int .i64 Kk) rfl (fun _ _ _ h => h) (by rfl) (by assumption) (fun wS hSw => ?_) ?_
                    · (try dsimp only at hSw); have qQ := (Below.cell (Has.low hSw) (p := ⟨BQ, k2, none⟩) lQi).trans H10.out.1; have qD := (Below.cell (Has.low hSw) (p := ⟨GH, 0, none⟩) lGi).trans H10.out.2.1; have qS := (Below.cell (Has.low hSw) (p := ⟨GH, 1, none⟩) lGi).trans H10.out.2.2; (try simp only at qQ qD qS); go_simp <;> omega
                    simp only [Act.put, List.setIfInBounds_toArray, List.set_cons_zero, List.set_cons_succ]
                    refine wpAnyT_end ?_
                    refine wpAnyH_listed #[true, true, true, true, true, true, true, true, true, true, true, false, false] (by kernel_rfl) ?_
                    refine wpAnyH_ready (rs := [11]) (by kernel_rfl) (by simp) ?_
                    refine AllReadyH.cons (o := ⟨none, Op.store 36 (Operand.tmp 20) (Operand.tmp 109), 0, _, _, none⟩) rfl (fun K hK => ?_) AllReadyH.nil
                    have kx0 := Cx2.fact (.head _) (i := 0) rfl
                    have fx0 := Cx2.free (.head _) (i := 0) rfl
                    have kx1 := Cx2.fact (.head _) (i := 1) rfl
                    have fx1 := Cx2.free (.head _) (i := 1) rfl
                    simp only at kx0 fx0 kx1 fx1
                    go_simp
                    have Cx3 := ((Cx2.set 0 (by simp) (.int .i64 U)).set 1 (by simp) (.int .i64 Z))
                    clear kx0 fx0 kx1 fx1
                    simp only [List.set_cons_zero, List.set_cons_succ] at Cx3
                    generalize ((wx2.setCell ⟨Gx, 0, none⟩ (.int .i64 U)).setCell ⟨Gx, 1, none⟩ (.int .i64 Z)) = wx3 at *
                    clear hHeld
                    refine hK.out _ _ (Cx3.tail) (fun hHeld => ?_)
                    clear hK K
                    try simp only [List.setIfInBounds_toArray, List.set_cons_zero, List.set_cons_succ]
                    refine wpAnyH_listed #[true, true, true, true, true, true, true, true, true, true, true, true, false] (by kernel_rfl) ?_
                    clear Cx2
                    refine wpAnyT_begin [12] (by kernel_rfl) (by kernel_rfl) ?_
                    refine wpAnyT_take (oi := ⟨some 21, Op.assign (Operand.tmp 110), 4, _, _, none⟩) (v := .bool Bb) rfl (fun _ _ _ h => h) (by rfl) (by assumption) (fun wS hSw => ?_) ?_
                    · (try dsimp only at hSw); have qQ := (Below.cell (Has.low hSw) (p := ⟨BQ, k2, none⟩) lQi).trans H10.out.1; have qD := (Below.cell (Has.low hSw) (p := ⟨GH, 0, none⟩) lGi).trans H10.out.2.1; have qS := (Below.cell (Has.low hSw) (p := ⟨GH, 1, none⟩) lGi).trans H10.out.2.2; (try simp only at qQ qD qS); go_simp <;> omega
                    simp only [Act.put, List.setIfInBounds_toArray, List.set_cons_zero, List.set_cons_succ]
                    refine wpAnyT_end ?_
                    refine wpAnyH_listed #[true, true, true, true, true, true, true, true, true, true, true, true, true] (by kernel_rfl) ?_
                    refine wpAnyH_done (by kernel_rfl) ?_ _
                    clear hHeld
                    go_wp2_with fail
                    go_meet
                    exact ⟨rfl, rfl, Gx, rfl, Cx3⟩
                case rest =>
                  obtain ⟨rfl, rfl, G20, rfl, K20⟩ := hcut
                  rename World => w12
                  clear K17
                  go_upto_region 20 with fail
                  have Cp0 := K20.drew
                  refine wp_region_held_drew (S := (fun wz => Has wi [(G20, [.int .i64 U, .int .i64 Z]), (G17, [.int .i64 U, .int .i64 Z])] wz)) (by kernel_rfl) Cp0 (fun hHeld => ?_)
                  generalize w12.drew = wp0 at *
                  refine wpAnyT_begin [0, 1, 5, 6] (by kernel_rfl) (by kernel_rfl) ?_
                  refine wpAnyT_take (oi := ⟨some 111, Op.load 25 (Operand.tmp 14), 25, _, _, none⟩) (v := .agg #[.int .i64 D, .slice ha hn hc]) rfl (fun _ _ _ h => h) (by rfl) (by assumption) (fun wS hSw => ?_) ?_
                  · (try dsimp only at hSw); have qQ := (Below.cell (Has.low hSw) (p := ⟨BQ, k2, none⟩) lQi).trans H10.out.1; have qD := (Below.cell (Has.low hSw) (p := ⟨GH, 0, none⟩) lGi).trans H10.out.2.1; have qS := (Below.cell (Has.low hSw) (p := ⟨GH, 1, none⟩) lGi).trans H10.out.2.2; have u0 := Has.fact hSw (.head _) (i := 0) rfl; have u1 := Has.fact hSw (.head _) (i := 1) rfl; have u2 := Has.fact (Has.tail hSw) (.head _) (i := 0) rfl; have u3 := Has.fact (Has.tail hSw) (.head _) (i := 1) rfl; (try simp only at qQ qD qS u0 u1 u2 u3); go_simp <;> omega
                  simp only [Act.put, List.setIfInBounds_toArray, List.set_cons_zero, List.set_cons_succ]
                  refine wpAnyT_take (oi := ⟨some 112, Op.move (Operand.tmp 15), 3, _, _, none⟩) (v := .int .i64 (k2 : Int)) rfl (fun _ _ _ h => h) (by rfl) (by assumption) (fun wS hSw => ?_) ?_
                  · (try dsimp only at hSw); have qQ := (Below.cell (Has.low hSw) (p := ⟨BQ, k2, none⟩) lQi).trans H10.out.1; have qD := (Below.cell (Has.low hSw) (p := ⟨GH, 0, none⟩) lGi).trans H10.out.2.1; have qS := (Below.cell (Has.low hSw) (p := ⟨GH, 1, none⟩) lGi).trans H10.out.2.2; have u0 := Has.fact hSw (.head _) (i := 0) rfl; have u1 := Has.fact hSw (.head _) (i := 1) rfl; have u2 := Has.fact (Has.tail hSw) (.head _) (i := 0) rfl; have u3 := Has.fact (Has.tail hSw) (.head _) (i := 1) rfl; (try simp only at qQ qD qS u0 u1 u2 u3); go_simp <;> omega
                  simp only [Act.put, List.setIfInBounds_toArray, List.set_cons_zero, List.set_cons_succ]
                  refine wpAnyT_take (oi := ⟨some 116, Op.load 25 (Operand.tmp 14), 25, _, _, none⟩) (v := .agg #[.int .i64 D, .slice ha hn hc]) rfl (fun _ _ _ h => h) (by rfl) (by assumption) (fun wS hSw => ?_) ?_
                  · (try dsimp only at hSw); have qQ := (Below.cell (Has.low hSw) (p := ⟨BQ, k2, none⟩) lQi).trans H10.out.1; have qD := (Below.cell (Has.low hSw) (p := ⟨GH, 0, none⟩) lGi).trans H10.out.2.1; have qS := (Below.cell (Has.low hSw) (p := ⟨GH, 1, none⟩) lGi).trans H10.out.2.2; have u0 := Has.fact hSw (.head _) (i := 0) rfl; have u1 := Has.fact hSw (.head _) (i := 1) rfl; have u2 := Has.fact (Has.tail hSw) (.head _) (i := 0) rfl; have u3 := Has.fact (Has.tail hSw) (.head _) (i := 1) rfl; (try simp only at qQ qD qS u0 u1 u2 u3); go_simp <;> omega
                  simp only [Act.put, List.setIfInBounds_toArray, List.set_cons_zero, List.set_cons_succ]
                  refine wpAnyT_take (oi := ⟨some 117, Op.move (Operand.tmp 15), 3, _, _, none⟩) (v := .int .i64 (k2 : Int)) rfl (fun _ _ _ h => h) (by rfl) (by assumption) (fun wS hSw => ?_) ?_
                  · (try dsimp only at hSw); have qQ := (Below.cell (Has.low hSw) (p := ⟨BQ, k2, none⟩) lQi).trans H10.out.1; have qD := (Below.cell (Has.low hSw) (p := ⟨GH, 0, none⟩) lGi).trans H10.out.2.1; have qS := (Below.cell (Has.low hSw) (p := ⟨GH, 1, none⟩) lGi).trans H10.out.2.2; have u0 := Has.fact hSw (.head _) (i := 0) rfl; have u1 := Has.fact hSw (.head _) (i := 1) rfl; have u2 := Has.fact (Has.tail hSw) (.head _) (i := 0) rfl; have u3 := Has.fact (Has.tail hSw) (.head _) (i := 1) rfl; (try simp only at qQ qD qS u0 u1 u2 u3); go_simp <;> omega
                  simp only [Act.put, List.setIfInBounds_toArray, List.set_cons_zero, List.set_cons_succ]
                  refine wpAnyT_end ?_
                  refine wpAnyH_listed #[true, true, false, false, false, true, true, false, false, false, false, false, false, false, false, false, false, false, false, false, false, false, false, false, false, false] (by kernel_rfl) ?_
                  refine wpAnyT_begin [2, 7] (by kernel_rfl) (by kernel_rfl) ?_
                  refine wpAnyT_take (oi := ⟨some 113, Op.indexAddr 26 (Operand.tmp 12) (Operand.tmp 112), 0, _, _, none⟩) (v := .pointer (some ⟨BQ, k2, none⟩)) rfl (fun _ _ _ h => h) (by rfl) (by assumption) (fun wS hSw => ?_) ?_
                  · (try dsimp only at hSw); have qQ := (Below.cell (Has.low hSw) (p := ⟨BQ, k2, none⟩) lQi).trans H10.out.1; have qD := (Below.cell (Has.low hSw) (p := ⟨GH, 0, none⟩) lGi).trans H10.out.2.1; have qS := (Below.cell (Has.low hSw) (p := ⟨GH, 1, none⟩) lGi).trans H10.out.2.2; have u0 := Has.fact hSw (.head _) (i := 0) rfl; have u1 := Has.fact hSw (.head _) (i := 1) rfl; have u2 := Has.fact (Has.tail hSw) (.head _) (i := 0) rfl; have u3 := Has.fact (Has.tail hSw) (.head _) (i := 1) rfl; (try simp only at qQ qD qS u0 u1 u2 u3); go_simp <;> omega
                  simp only [Act.put, List.setIfInBounds_toArray, List.set_cons_zero, List.set_cons_succ]
                  refine wpAnyT_take (oi := ⟨some 118, Op.indexAddr 26 (Operand.tmp 12) (Operand.tmp 117), 0, _, _, none⟩) (v := .pointer (some ⟨BQ, k2, none⟩)) rfl (fun _ _ _ h => h) (by rfl) (by assumption) (fun wS hSw => ?_) ?_
                  · (try dsimp only at hSw); have qQ := (Below.cell (Has.low hSw) (p := ⟨BQ, k2, none⟩) lQi).trans H10.out.1; have qD := (Below.cell (Has.low hSw) (p := ⟨GH, 0, none⟩) lGi).trans H10.out.2.1; have qS := (Below.cell (Has.low hSw) (p := ⟨GH, 1, none⟩) lGi).trans H10.out.2.2; have u0 := Has.fact hSw (.head _) (i := 0) rfl; have u1 := Has.fact hSw (.head _) (i := 1) rfl; have u2 := Has.fact (Has.tail hSw) (.head _) (i := 0) rfl; have u3 := Has.fact (Has.tail hSw) (.head _) (i := 1) rfl; (try simp only at qQ qD qS u0 u1 u2 u3); go_simp <;> omega
                  simp only [Act.put, List.setIfInBounds_toArray, List.set_cons_zero, List.set_cons_succ]
                  refine wpAnyT_end ?_
                  refine wpAnyH_listed #[true, true, true, false, false, true, true, true, false, false, false, false, false, false, false, false, false, false, false, false, false, false, false, false, false, false] (by kernel_rfl) ?_
                  refine wpAnyT_begin [3, 8] (by kernel_rfl) (by kernel_rfl) ?_
                  refine wpAnyT_take (oi := ⟨some 114, Op.load 3 (Operand.tmp 113), 3, _, _, none⟩) (v := .int .i64 s) rfl (fun _ _ _ h => h) (by rfl) (by assumption) (fun wS hSw => ?_) ?_
                  · (try dsimp only at hSw); have qQ := (Below.cell (Has.low hSw) (p := ⟨BQ, k2, none⟩) lQi).trans H10.out.1; have qD := (Below.cell (Has.low hSw) (p := ⟨GH, 0, none⟩) lGi).trans H10.out.2.1; have qS := (Below.cell (Has.low hSw) (p := ⟨GH, 1, none⟩) lGi).trans H10.out.2.2; have u0 := Has.fact hSw (.head _) (i := 0) rfl; have u1 := Has.fact hSw (.head _) (i := 1) rfl; have u2 := Has.fact (Has.tail hSw) (.head _) (i := 0) rfl; have u3 := Has.fact (Has.tail hSw) (.head _) (i := 1) rfl; (try simp only at qQ qD qS u0 u1 u2 u3); go_simp <;> omega
                  simp only [Act.put, List.setIfInBounds_toArray, List.set_cons_zero, List.set_cons_succ]
                  refine wpAnyT_take (oi := ⟨some 119, Op.load 3 (Operand.tmp 118), 3, _, _, none⟩) (v := .int .i64 s) rfl (fun _ _ _ h => h) (by rfl) (by assumption) (fun wS hSw => ?_) ?_
                  · (try dsimp only at hSw); have qQ := (Below.cell (Has.low hSw) (p := ⟨BQ, k2, none⟩) lQi).trans H10.out.1; have qD := (Below.cell (Has.low hSw) (p := ⟨GH, 0, none⟩) lGi).trans H10.out.2.1; have qS := (Below.cell (Has.low hSw) (p := ⟨GH, 1, none⟩) lGi).trans H10.out.2.2; have u0 := Has.fact hSw (.head _) (i := 0) rfl; have u1 := Has.fact hSw (.head _) (i := 1) rfl; have u2 := Has.fact (Has.tail hSw) (.head _) (i := 0) rfl; have u3 := Has.fact (Has.tail hSw) (.head _) (i := 1) rfl; (try simp only at qQ qD qS u0 u1 u2 u3); go_simp <;> omega
                  simp only [Act.put, List.setIfInBounds_toArray, List.set_cons_zero, List.set_cons_succ]
                  refine wpAnyT_end ?_
                  refine wpAnyH_listed #[true, true, true, true, false, true, true, true, true, false, false, false, false, false, false, false, false, false, false, false, false, false, false, false, false, false] (by kernel_rfl) ?_
                  refine wpAnyH_ready (rs := [4]) (by kernel_rfl) (by simp) ?_
                  refine AllReadyH.cons (o := ⟨some 115, Op.call { callee := Callee.value (Operand.func 15), args := #[Operand.tmp 111, Operand.tmp 114], argTypes := #[25, 3] }, 3, _, _, none⟩) rfl (fun K hK => ?_) AllReadyH.nil
                  go_simp
                  go_at_call 15
                  refine (Has.call Cp0 (show Calls Try.prog 15 #[.agg #[.int .i64 D, .slice ha hn hc], .int .i64 s] _ fun e w' => e = .returned (.int .i64 (nd : Int)) ∧ Below _ _ w' from HND.out ▸ done_any D _ ES s _ (HRi.out.later Cp0.low))).mono ?_
                  rintro e wp1 ⟨rfl, Cp1⟩
                  go_wp2_with fail
                  clear hHeld
                  refine hK.out _ _ (Cp1) (fun hHeld => ?_)
                  clear hK K
                  try simp only [List.setIfInBounds_toArray, List.set_cons_zero, List.set_cons_succ]
                  refine wpAnyH_listed #[true, true, true, true, true, true, true, true, true, false, false, false, false, false, false, false, false, false, false, false, false, false, false, false, false, false] (by kernel_rfl) ?_
                  clear Cp0
                  refine wpAnyH_ready (rs := [9]) (by kernel_rfl) (by simp) ?_
                  refine AllReadyH.cons (o := ⟨some 120, Op.call { callee := Callee.value (Operand.func 16), args := #[Operand.tmp 116, Operand.tmp 119], argTypes := #[25, 3] }, 3, _, _, none⟩) rfl (fun K hK => ?_) AllReadyH.nil
                  go_simp
                  go_at_call 16
                  refine (Has.call Cp1 (show Calls Try.prog 16 #[.agg #[.int .i64 D, .slice ha hn hc], .int .i64 s] _ fun e w' => e = .returned (.int .i64 (nd : Int)) ∧ Below _ _ w' from HND.out ▸ rdone_any D _ ES s _ (HRi.out.later Cp1.low))).mono ?_
                  rintro e wp2 ⟨rfl, Cp2⟩
                  go_wp2_with fail
                  clear hHeld
                  refine hK.out _ _ (Cp2) (fun hHeld => ?_)
                  clear hK K
                  try simp only [List.setIfInBounds_toArray, List.set_cons_zero, List.set_cons_succ]
                  refine wpAnyH_listed #[true, true, true, true, true, true, true, true, true, true, false, false, false, false, false, false, false, false, false, false, false, false, false, false, false, false] (by kernel_rfl) ?_
                  clear Cp1
                  refine wpAnyT_begin [10] (by kernel_rfl) (by kernel_rfl) ?_
                  refine wpAnyT_take (oi := ⟨some 121, Op.binOp BinOp.neq 3 (Operand.tmp 115) (Operand.tmp 120) 3, 4, _, _, none⟩) (v := .bool false) rfl (fun _ _ _ h => h) (by rfl) (by assumption) (fun wS hSw => ?_) ?_
                  · (try dsimp only at hSw); have qQ := (Below.cell (Has.low hSw) (p := ⟨BQ, k2, none⟩) lQi).trans H10.out.1; have qD := (Below.cell (Has.low hSw) (p := ⟨GH, 0, none⟩) lGi).trans H10.out.2.1; have qS := (Below.cell (Has.low hSw) (p := ⟨GH, 1, none⟩) lGi).trans H10.out.2.2; have u0 := Has.fact hSw (.head _) (i := 0) rfl; have u1 := Has.fact hSw (.head _) (i := 1) rfl; have u2 := Has.fact (Has.tail hSw) (.head _) (i := 0) rfl; have u3 := Has.fact (Has.tail hSw) (.head _) (i := 1) rfl; (try simp only at qQ qD qS u0 u1 u2 u3); go_simp <;> omega
                  simp only [Act.put, List.setIfInBounds_toArray, List.set_cons_zero, List.set_cons_succ]
                  refine wpAnyT_end ?_
                  refine wpAnyH_listed #[true, true, true, true, true, true, true, true, true, true, true, false, false, false, false, false, false, false, false, false, false, false, false, false, false, false] (by kernel_rfl) ?_
                  refine wpAnyT_begin [11] (by kernel_rfl) (by kernel_rfl) ?_
                  refine wpAnyT_take (oi := ⟨some 122, Op.move (Operand.tmp 121), 4, _, _, none⟩) (v := .bool false) rfl (fun _ _ _ h => h) (by rfl) (by assumption) (fun wS hSw => ?_) ?_
                  · (try dsimp only at hSw); have qQ := (Below.cell (Has.low hSw) (p := ⟨BQ, k2, none⟩) lQi).trans H10.out.1; have qD := (Below.cell (Has.low hSw) (p := ⟨GH, 0, none⟩) lGi).trans H10.out.2.1; have qS := (Below.cell (Has.low hSw) (p := ⟨GH, 1, none⟩) lGi).trans H10.out.2.2; have u0 := Has.fact hSw (.head _) (i := 0) rfl; have u1 := Has.fact hSw (.head _) (i := 1) rfl; have u2 := Has.fact (Has.tail hSw) (.head _) (i := 0) rfl; have u3 := Has.fact (Has.tail hSw) (.head _) (i := 1) rfl; (try simp only at qQ qD qS u0 u1 u2 u3); go_simp <;> omega
                  simp only [Act.put, List.setIfInBounds_toArray, List.set_cons_zero, List.set_cons_succ]
                  refine wpAnyT_end ?_
                  refine wpAnyH_listed #[true, true, true, true, true, true, true, true, true, true, true, true, false, false, false, false, false, false, false, false, false, false, false, false, false, false] (by kernel_rfl) ?_
                  refine wpAnyT_begin [12, 13] (by kernel_rfl) (by kernel_rfl) ?_
                  refine wpAnyT_take (oi := ⟨some 123, Op.move (Operand.tmp 16), 3, _, _, some (11, false)⟩) (v := .int .i64 Kk) rfl (fun _ _ _ h => h) (by rfl) (by assumption) (fun wS hSw => ?_) ?_
                  · (try dsimp only at hSw); have qQ := (Below.cell (Has.low hSw) (p := ⟨BQ, k2, none⟩) lQi).trans H10.out.1; have qD := (Below.cell (Has.low hSw) (p := ⟨GH, 0, none⟩) lGi).trans H10.out.2.1; have qS := (Below.cell (Has.low hSw) (p := ⟨GH, 1, none⟩) lGi).trans H10.out.2.2; have u0 := Has.fact hSw (.head _) (i := 0) rfl; have u1 := Has.fact hSw (.head _) (i := 1) rfl; have u2 := Has.fact (Has.tail hSw) (.head _) (i := 0) rfl; have u3 := Has.fact (Has.tail hSw) (.head _) (i := 1) rfl; (try simp only at qQ qD qS u0 u1 u2 u3); go_simp <;> omega
                  simp only [Act.put, List.setIfInBounds_toArray, List.set_cons_zero, List.set_cons_succ]
                  refine wpAnyT_take (oi := ⟨some 124, Op.move (Operand.tmp 19), 3, _, _, some (11, false)⟩) (v := .int .i64 Kk) rfl (fun _ _ _ h => h) (by rfl) (by assumption) (fun wS hSw => ?_) ?_
                  · (try dsimp only at hSw); have qQ := (Below.cell (Has.low hSw) (p := ⟨BQ, k2, none⟩) lQi).trans H10.out.1; have qD := (Below.cell (Has.low hSw) (p := ⟨GH, 0, none⟩) lGi).trans H10.out.2.1; have qS := (Below.cell (Has.low hSw) (p := ⟨GH, 1, none⟩) lGi).trans H10.out.2.2; have u0 := Has.fact hSw (.head _) (i := 0) rfl; have u1 := Has.fact hSw (.head _) (i := 1) rfl; have u2 := Has.fact (Has.tail hSw) (.head _) (i := 0) rfl; have u3 := Has.fact (Has.tail hSw) (.head _) (i := 1) rfl; (try simp only at qQ qD qS u0 u1 u2 u3); go_simp <;> omega
                  simp only [Act.put, List.setIfInBounds_toArray, List.set_cons_zero, List.set_cons_succ]
                  refine wpAnyT_end ?_
                  refine wpAnyH_listed #[true, true, true, true, true, true, true, true, true, true, true, true, true, true, false, false, false, false, false, false, false, false, false, false, false, false] (by kernel_rfl) ?_
                  refine wpAnyT_begin [14] (by kernel_rfl) (by kernel_rfl) ?_
                  refine wpAnyT_take (oi := ⟨some 125, Op.binOp BinOp.neq 3 (Operand.tmp 123) (Operand.tmp 124) 3, 4, _, _, some (11, false)⟩) (v := .bool false) rfl (fun _ _ _ h => h) (by rfl) (by assumption) (fun wS hSw => ?_) ?_
                  · (try dsimp only at hSw); have qQ := (Below.cell (Has.low hSw) (p := ⟨BQ, k2, none⟩) lQi).trans H10.out.1; have qD := (Below.cell (Has.low hSw) (p := ⟨GH, 0, none⟩) lGi).trans H10.out.2.1; have qS := (Below.cell (Has.low hSw) (p := ⟨GH, 1, none⟩) lGi).trans H10.out.2.2; have u0 := Has.fact hSw (.head _) (i := 0) rfl; have u1 := Has.fact hSw (.head _) (i := 1) rfl; have u2 := Has.fact (Has.tail hSw) (.head _) (i := 0) rfl; have u3 := Has.fact (Has.tail hSw) (.head _) (i := 1) rfl; (try simp only at qQ qD qS u0 u1 u2 u3); go_simp <;> omega
                  simp only [Act.put, List.setIfInBounds_toArray, List.set_cons_zero, List.set_cons_succ]
                  refine wpAnyT_end ?_
                  refine wpAnyH_listed #[true, true, true, true, true, true, true, true, true, true, true, true, true, true, true, false, false, false, false, false, false, false, false, false, false, false] (by kernel_rfl) ?_
                  refine wpAnyT_begin [15] (by kernel_rfl) (by kernel_rfl) ?_
                  refine wpAnyT_take (oi := ⟨some 126, Op.pick (Operand.tmp 122) (Operand.const (Value.bool true)) (Operand.tmp 125), 4, _, _, none⟩) (v := .bool false) rfl (fun _ _ _ h => h) (by rfl) (by assumption) (fun wS hSw => ?_) ?_
                  · (try dsimp only at hSw); have qQ := (Below.cell (Has.low hSw) (p := ⟨BQ, k2, none⟩) lQi).trans H10.out.1; have qD := (Below.cell (Has.low hSw) (p := ⟨GH, 0, none⟩) lGi).trans H10.out.2.1; have qS := (Below.cell (Has.low hSw) (p := ⟨GH, 1, none⟩) lGi).trans H10.out.2.2; have u0 := Has.fact hSw (.head _) (i := 0) rfl; have u1 := Has.fact hSw (.head _) (i := 1) rfl; have u2 := Has.fact (Has.tail hSw) (.head _) (i := 0) rfl; have u3 := Has.fact (Has.tail hSw) (.head _) (i := 1) rfl; (try simp only at qQ qD qS u0 u1 u2 u3); go_simp <;> omega
                  simp only [Act.put, List.setIfInBounds_toArray, List.set_cons_zero, List.set_cons_succ]
                  refine wpAnyT_end ?_
                  refine wpAnyH_listed #[true, true, true, true, true, true, true, true, true, true, true, true, true, true, true, true, false, false, false, false, false, false, false, false, false, false] (by kernel_rfl) ?_
                  refine wpAnyT_begin [16] (by kernel_rfl) (by kernel_rfl) ?_
                  refine wpAnyT_take (oi := ⟨some 127, Op.move (Operand.tmp 126), 4, _, _, none⟩) (v := .bool false) rfl (fun _ _ _ h => h) (by rfl) (by assumption) (fun wS hSw => ?_) ?_
                  · (try dsimp only at hSw); have qQ := (Below.cell (Has.low hSw) (p := ⟨BQ, k2, none⟩) lQi).trans H10.out.1; have qD := (Below.cell (Has.low hSw) (p := ⟨GH, 0, none⟩) lGi).trans H10.out.2.1; have qS := (Below.cell (Has.low hSw) (p := ⟨GH, 1, none⟩) lGi).trans H10.out.2.2; have u0 := Has.fact hSw (.head _) (i := 0) rfl; have u1 := Has.fact hSw (.head _) (i := 1) rfl; have u2 := Has.fact (Has.tail hSw) (.head _) (i := 0) rfl; have u3 := Has.fact (Has.tail hSw) (.head _) (i := 1) rfl; (try simp only at qQ qD qS u0 u1 u2 u3); go_simp <;> omega
                  simp only [Act.put, List.setIfInBounds_toArray, List.set_cons_zero, List.set_cons_succ]
                  refine wpAnyT_end ?_
                  refine wpAnyH_listed #[true, true, true, true, true, true, true, true, true, true, true, true, true, true, true, true, true, false, false, false, false, false, false, false, false, false] (by kernel_rfl) ?_
                  refine wpAnyT_begin [17, 18] (by kernel_rfl) (by kernel_rfl) ?_
                  refine wpAnyT_take (oi := ⟨some 128, Op.load 36 (Operand.tmp 17), 36, _, _, some (16, false)⟩) (v := .agg #[.int .i64 U, .int .i64 Z]) rfl (fun _ _ _ h => h) (by rfl) (by assumption) (fun wS hSw => ?_) ?_
                  · (try dsimp only at hSw); have qQ := (Below.cell (Has.low hSw) (p := ⟨BQ, k2, none⟩) lQi).trans H10.out.1; have qD := (Below.cell (Has.low hSw) (p := ⟨GH, 0, none⟩) lGi).trans H10.out.2.1; have qS := (Below.cell (Has.low hSw) (p := ⟨GH, 1, none⟩) lGi).trans H10.out.2.2; have u0 := Has.fact hSw (.head _) (i := 0) rfl; have u1 := Has.fact hSw (.head _) (i := 1) rfl; have u2 := Has.fact (Has.tail hSw) (.head _) (i := 0) rfl; have u3 := Has.fact (Has.tail hSw) (.head _) (i := 1) rfl; (try simp only at qQ qD qS u0 u1 u2 u3); go_simp <;> omega
                  simp only [Act.put, List.setIfInBounds_toArray, List.set_cons_zero, List.set_cons_succ]
                  refine wpAnyT_take (oi := ⟨some 129, Op.load 36 (Operand.tmp 20), 36, _, _, some (16, false)⟩) (v := .agg #[.int .i64 U, .int .i64 Z]) rfl (fun _ _ _ h => h) (by rfl) (by assumption) (fun wS hSw => ?_) ?_
                  · (try dsimp only at hSw); have qQ := (Below.cell (Has.low hSw) (p := ⟨BQ, k2, none⟩) lQi).trans H10.out.1; have qD := (Below.cell (Has.low hSw) (p := ⟨GH, 0, none⟩) lGi).trans H10.out.2.1; have qS := (Below.cell (Has.low hSw) (p := ⟨GH, 1, none⟩) lGi).trans H10.out.2.2; have u0 := Has.fact hSw (.head _) (i := 0) rfl; have u1 := Has.fact hSw (.head _) (i := 1) rfl; have u2 := Has.fact (Has.tail hSw) (.head _) (i := 0) rfl; have u3 := Has.fact (Has.tail hSw) (.head _) (i := 1) rfl; (try simp only at qQ qD qS u0 u1 u2 u3); go_simp <;> omega
                  simp only [Act.put, List.setIfInBounds_toArray, List.set_cons_zero, List.set_cons_succ]
                  refine wpAnyT_end ?_
                  refine wpAnyH_listed #[true, true, true, true, true, true, true, true, true, true, true, true, true, true, true, true, true, true, true, false, false, false, false, false, false, false] (by kernel_rfl) ?_
                  refine wpAnyT_begin [19] (by kernel_rfl) (by kernel_rfl) ?_
                  refine wpAnyT_take (oi := ⟨some 130, Op.binOp BinOp.neq 36 (Operand.tmp 128) (Operand.tmp 129) 36, 4, _, _, some (16, false)⟩) (v := .bool false) rfl (fun _ _ _ h => h) (by rfl) (by assumption) (fun wS hSw => ?_) ?_
                  · (try dsimp only at hSw); have qQ := (Below.cell (Has.low hSw) (p := ⟨BQ, k2, none⟩) lQi).trans H10.out.1; have qD := (Below.cell (Has.low hSw) (p := ⟨GH, 0, none⟩) lGi).trans H10.out.2.1; have qS := (Below.cell (Has.low hSw) (p := ⟨GH, 1, none⟩) lGi).trans H10.out.2.2; have u0 := Has.fact hSw (.head _) (i := 0) rfl; have u1 := Has.fact hSw (.head _) (i := 1) rfl; have u2 := Has.fact (Has.tail hSw) (.head _) (i := 0) rfl; have u3 := Has.fact (Has.tail hSw) (.head _) (i := 1) rfl; (try simp only at qQ qD qS u0 u1 u2 u3); go_simp <;> omega
                  simp only [Act.put, List.setIfInBounds_toArray, List.set_cons_zero, List.set_cons_succ]
                  refine wpAnyT_end ?_
                  refine wpAnyH_listed #[true, true, true, true, true, true, true, true, true, true, true, true, true, true, true, true, true, true, true, true, false, false, false, false, false, false] (by kernel_rfl) ?_
                  refine wpAnyT_begin [20] (by kernel_rfl) (by kernel_rfl) ?_
                  refine wpAnyT_take (oi := ⟨some 131, Op.pick (Operand.tmp 127) (Operand.const (Value.bool true)) (Operand.tmp 130), 4, _, _, none⟩) (v := .bool false) rfl (fun _ _ _ h => h) (by rfl) (by assumption) (fun wS hSw => ?_) ?_
                  · (try dsimp only at hSw); have qQ := (Below.cell (Has.low hSw) (p := ⟨BQ, k2, none⟩) lQi).trans H10.out.1; have qD := (Below.cell (Has.low hSw) (p := ⟨GH, 0, none⟩) lGi).trans H10.out.2.1; have qS := (Below.cell (Has.low hSw) (p := ⟨GH, 1, none⟩) lGi).trans H10.out.2.2; have u0 := Has.fact hSw (.head _) (i := 0) rfl; have u1 := Has.fact hSw (.head _) (i := 1) rfl; have u2 := Has.fact (Has.tail hSw) (.head _) (i := 0) rfl; have u3 := Has.fact (Has.tail hSw) (.head _) (i := 1) rfl; (try simp only at qQ qD qS u0 u1 u2 u3); go_simp <;> omega
                  simp only [Act.put, List.setIfInBounds_toArray, List.set_cons_zero, List.set_cons_succ]
                  refine wpAnyT_end ?_
                  refine wpAnyH_listed #[true, true, true, true, true, true, true, true, true, true, true, true, true, true, true, true, true, true, true, true, true, false, false, false, false, false] (by kernel_rfl) ?_
                  refine wpAnyT_begin [21] (by kernel_rfl) (by kernel_rfl) ?_
                  refine wpAnyT_take (oi := ⟨some 132, Op.move (Operand.tmp 131), 4, _, _, none⟩) (v := .bool false) rfl (fun _ _ _ h => h) (by rfl) (by assumption) (fun wS hSw => ?_) ?_
                  · (try dsimp only at hSw); have qQ := (Below.cell (Has.low hSw) (p := ⟨BQ, k2, none⟩) lQi).trans H10.out.1; have qD := (Below.cell (Has.low hSw) (p := ⟨GH, 0, none⟩) lGi).trans H10.out.2.1; have qS := (Below.cell (Has.low hSw) (p := ⟨GH, 1, none⟩) lGi).trans H10.out.2.2; have u0 := Has.fact hSw (.head _) (i := 0) rfl; have u1 := Has.fact hSw (.head _) (i := 1) rfl; have u2 := Has.fact (Has.tail hSw) (.head _) (i := 0) rfl; have u3 := Has.fact (Has.tail hSw) (.head _) (i := 1) rfl; (try simp only at qQ qD qS u0 u1 u2 u3); go_simp <;> omega
                  simp only [Act.put, List.setIfInBounds_toArray, List.set_cons_zero, List.set_cons_succ]
                  refine wpAnyT_end ?_
                  refine wpAnyH_listed #[true, true, true, true, true, true, true, true, true, true, true, true, true, true, true, true, true, true, true, true, true, true, false, false, false, false] (by kernel_rfl) ?_
                  refine wpAnyT_begin [22, 23] (by kernel_rfl) (by kernel_rfl) ?_
                  refine wpAnyT_take (oi := ⟨some 133, Op.move (Operand.tmp 18), 4, _, _, some (21, false)⟩) (v := .bool Bb) rfl (fun _ _ _ h => h) (by rfl) (by assumption) (fun wS hSw => ?_) ?_
                  · (try dsimp only at hSw); have qQ := (Below.cell (Has.low hSw) (p := ⟨BQ, k2, none⟩) lQi).trans H10.out.1; have qD := (Below.cell (Has.low hSw) (p := ⟨GH, 0, none⟩) lGi).trans H10.out.2.1; have qS := (Below.cell (Has.low hSw) (p := ⟨GH, 1, none⟩) lGi).trans H10.out.2.2; have u0 := Has.fact hSw (.head _) (i := 0) rfl; have u1 := Has.fact hSw (.head _) (i := 1) rfl; have u2 := Has.fact (Has.tail hSw) (.head _) (i := 0) rfl; have u3 := Has.fact (Has.tail hSw) (.head _) (i := 1) rfl; (try simp only at qQ qD qS u0 u1 u2 u3); go_simp <;> omega
                  simp only [Act.put, List.setIfInBounds_toArray, List.set_cons_zero, List.set_cons_succ]
                  refine wpAnyT_take (oi := ⟨some 134, Op.move (Operand.tmp 21), 4, _, _, some (21, false)⟩) (v := .bool Bb) rfl (fun _ _ _ h => h) (by rfl) (by assumption) (fun wS hSw => ?_) ?_
                  · (try dsimp only at hSw); have qQ := (Below.cell (Has.low hSw) (p := ⟨BQ, k2, none⟩) lQi).trans H10.out.1; have qD := (Below.cell (Has.low hSw) (p := ⟨GH, 0, none⟩) lGi).trans H10.out.2.1; have qS := (Below.cell (Has.low hSw) (p := ⟨GH, 1, none⟩) lGi).trans H10.out.2.2; have u0 := Has.fact hSw (.head _) (i := 0) rfl; have u1 := Has.fact hSw (.head _) (i := 1) rfl; have u2 := Has.fact (Has.tail hSw) (.head _) (i := 0) rfl; have u3 := Has.fact (Has.tail hSw) (.head _) (i := 1) rfl; (try simp only at qQ qD qS u0 u1 u2 u3); go_simp <;> omega
                  simp only [Act.put, List.setIfInBounds_toArray, List.set_cons_zero, List.set_cons_succ]
                  refine wpAnyT_end ?_
                  refine wpAnyH_listed #[true, true, true, true, true, true, true, true, true, true, true, true, true, true, true, true, true, true, true, true, true, true, true, true, false, false] (by kernel_rfl) ?_
                  refine wpAnyT_begin [24] (by kernel_rfl) (by kernel_rfl) ?_
                  refine wpAnyT_take (oi := ⟨some 135, Op.binOp BinOp.neq 4 (Operand.tmp 133) (Operand.tmp 134) 4, 4, _, _, some (21, false)⟩) (v := .bool false) rfl (fun _ _ _ h => h) (by rfl) (by assumption) (fun wS hSw => ?_) ?_
                  · (try dsimp only at hSw); have qQ := (Below.cell (Has.low hSw) (p := ⟨BQ, k2, none⟩) lQi).trans H10.out.1; have qD := (Below.cell (Has.low hSw) (p := ⟨GH, 0, none⟩) lGi).trans H10.out.2.1; have qS := (Below.cell (Has.low hSw) (p := ⟨GH, 1, none⟩) lGi).trans H10.out.2.2; have u0 := Has.fact hSw (.head _) (i := 0) rfl; have u1 := Has.fact hSw (.head _) (i := 1) rfl; have u2 := Has.fact (Has.tail hSw) (.head _) (i := 0) rfl; have u3 := Has.fact (Has.tail hSw) (.head _) (i := 1) rfl; (try simp only at qQ qD qS u0 u1 u2 u3); go_simp <;> omega
                  simp only [Act.put, List.setIfInBounds_toArray, List.set_cons_zero, List.set_cons_succ]
                  refine wpAnyT_end ?_
                  refine wpAnyH_listed #[true, true, true, true, true, true, true, true, true, true, true, true, true, true, true, true, true, true, true, true, true, true, true, true, true, false] (by kernel_rfl) ?_
                  refine wpAnyT_begin [25] (by kernel_rfl) (by kernel_rfl) ?_
                  refine wpAnyT_take (oi := ⟨some 136, Op.pick (Operand.tmp 132) (Operand.const (Value.bool true)) (Operand.tmp 135), 4, _, _, none⟩) (v := .bool false) rfl (fun _ _ _ h => h) (by rfl) (by assumption) (fun wS hSw => ?_) ?_
                  · (try dsimp only at hSw); have qQ := (Below.cell (Has.low hSw) (p := ⟨BQ, k2, none⟩) lQi).trans H10.out.1; have qD := (Below.cell (Has.low hSw) (p := ⟨GH, 0, none⟩) lGi).trans H10.out.2.1; have qS := (Below.cell (Has.low hSw) (p := ⟨GH, 1, none⟩) lGi).trans H10.out.2.2; have u0 := Has.fact hSw (.head _) (i := 0) rfl; have u1 := Has.fact hSw (.head _) (i := 1) rfl; have u2 := Has.fact (Has.tail hSw) (.head _) (i := 0) rfl; have u3 := Has.fact (Has.tail hSw) (.head _) (i := 1) rfl; (try simp only at qQ qD qS u0 u1 u2 u3); go_simp <;> omega
                  simp only [Act.put, List.setIfInBounds_toArray, List.set_cons_zero, List.set_cons_succ]
                  refine wpAnyT_end ?_
                  refine wpAnyH_listed #[true, true, true, true, true, true, true, true, true, true, true, true, true, true, true, true, true, true, true, true, true, true, true, true, true, true] (by kernel_rfl) ?_
                  refine wpAnyH_done (by kernel_rfl) ?_ _
                  clear hHeld
                  go_wp2_with fail
                  go_roundw
                  case rel => exact ⟨k2 + 1, by omega, by go_num, Has.nil (Grows.then KI.low Cp2.low)⟩
                  case measure => simp [RowKit.intOf]; omega
            · obtain rfl : k2 = 4 := by omega
              go_wp2_with fail
              go_roundw
              case rel => exact ⟨k + 1, by omega, by go_num, Grows.then gB9 KI.low⟩
              case measure => simp [RowKit.intOf]; omega
        · obtain rfl : k = 3 := by omega
          go_wp2_with fail
          go_loopw [22] (fun i wx => ∃ k2 : Nat, k2 ≤ 4 ∧ i = .int .i64 k2 ∧ Below w8.heap.size w8 wx) (fun i _ => 4 - (RowKit.intOf i).toNat)
          case atStart => exact ⟨0, by omega, rfl, gB⟩
          case round =>
            clear gB
            rename World => wi
            obtain ⟨k2, hk2, rfl, gB⟩ := hrel
            have lQi : BQ < wi.heap.size := Nat.lt_of_lt_of_le lQ gB.size
            have K10 : Has wi [] wi := Has.nil (Below.refl _ _)
            by_cases hlt2 : k2 < 4
            · have g6 : (k2 : Int) < 4 := by omega
              have ksum2 : IntKind.i64.wrap ((k2 : Int) + 1) = ((k2 + 1 : Nat) : Int) := by rw [IntWalk.i64_in _ (by omega)]; rfl
              obtain ⟨s, hs, hsb⟩ := HQ.out k2 hlt2
              have H10 := Lib.hid ((gB.cell (p := ⟨BQ, k2, none⟩) lQ).trans (HFour.out _ _ hs).1)
              obtain ⟨sc, hsc⟩ : ∃ x, scV s = x := ⟨_, rfl⟩
              obtain ⟨bd, hbd⟩ : ∃ x, bandV s = x := ⟨_, rfl⟩
              have HSC := Lib.hid hsc
              have HBD := Lib.hid hbd
              clear hs hsc hbd
              go_upto_region 25 with fail
              have Cp0 := K10.drew
              refine wp_region_held_drew (S := (fun wz => Has wi [] wz)) (by kernel_rfl) Cp0 (fun hHeld => ?_)
              generalize wi.drew = wp0 at *
              refine wpAnyT_begin [0, 4] (by kernel_rfl) (by kernel_rfl) ?_
              refine wpAnyT_take (oi := ⟨some 141, Op.move (Operand.tmp 22), 3, _, _, none⟩) (v := .int .i64 (k2 : Int)) rfl (fun _ _ _ h => h) (by rfl) (by assumption) (fun wS hSw => ?_) ?_
              · (try dsimp only at hSw); have qQ := (Below.cell (Has.low hSw) (p := ⟨BQ, k2, none⟩) lQi).trans H10.out; (try simp only at qQ); go_simp <;> omega
              simp only [Act.put, List.setIfInBounds_toArray, List.set_cons_zero, List.set_cons_succ]
              refine wpAnyT_take (oi := ⟨some 145, Op.move (Operand.tmp 22), 3, _, _, none⟩) (v := .int .i64 (k2 : Int)) rfl (fun _ _ _ h => h) (by rfl) (by assumption) (fun wS hSw => ?_) ?_
              · (try dsimp only at hSw); have qQ := (Below.cell (Has.low hSw) (p := ⟨BQ, k2, none⟩) lQi).trans H10.out; (try simp only at qQ); go_simp <;> omega
              simp only [Act.put, List.setIfInBounds_toArray, List.set_cons_zero, List.set_cons_succ]
              refine wpAnyT_end ?_
              refine wpAnyH_listed #[true, false, false, false, true, false, false, false, false, false, false, false, false, false, false, false, false, false, false, false] (by kernel_rfl) ?_
              refine wpAnyT_begin [1, 5] (by kernel_rfl) (by kernel_rfl) ?_
              refine wpAnyT_take (oi := ⟨some 142, Op.indexAddr 26 (Operand.tmp 12) (Operand.tmp 141), 0, _, _, none⟩) (v := .pointer (some ⟨BQ, k2, none⟩)) rfl (fun _ _ _ h => h) (by rfl) (by assumption) (fun wS hSw => ?_) ?_
              · (try dsimp only at hSw); have qQ := (Below.cell (Has.low hSw) (p := ⟨BQ, k2, none⟩) lQi).trans H10.out; (try simp only at qQ); go_simp <;> omega
              simp only [Act.put, List.setIfInBounds_toArray, List.set_cons_zero, List.set_cons_succ]
              refine wpAnyT_take (oi := ⟨some 146, Op.indexAddr 26 (Operand.tmp 12) (Operand.tmp 145), 0, _, _, none⟩) (v := .pointer (some ⟨BQ, k2, none⟩)) rfl (fun _ _ _ h => h) (by rfl) (by assumption) (fun wS hSw => ?_) ?_
              · (try dsimp only at hSw); have qQ := (Below.cell (Has.low hSw) (p := ⟨BQ, k2, none⟩) lQi).trans H10.out; (try simp only at qQ); go_simp <;> omega
              simp only [Act.put, List.setIfInBounds_toArray, List.set_cons_zero, List.set_cons_succ]
              refine wpAnyT_end ?_
              refine wpAnyH_listed #[true, true, false, false, true, true, false, false, false, false, false, false, false, false, false, false, false, false, false, false] (by kernel_rfl) ?_
              refine wpAnyT_begin [2, 6] (by kernel_rfl) (by kernel_rfl) ?_
              refine wpAnyT_take (oi := ⟨some 143, Op.load 3 (Operand.tmp 142), 3, _, _, none⟩) (v := .int .i64 s) rfl (fun _ _ _ h => h) (by rfl) (by assumption) (fun wS hSw => ?_) ?_
              · (try dsimp only at hSw); have qQ := (Below.cell (Has.low hSw) (p := ⟨BQ, k2, none⟩) lQi).trans H10.out; (try simp only at qQ); go_simp <;> omega
              simp only [Act.put, List.setIfInBounds_toArray, List.set_cons_zero, List.set_cons_succ]
              refine wpAnyT_take (oi := ⟨some 147, Op.load 3 (Operand.tmp 146), 3, _, _, none⟩) (v := .int .i64 s) rfl (fun _ _ _ h => h) (by rfl) (by assumption) (fun wS hSw => ?_) ?_
              · (try dsimp only at hSw); have qQ := (Below.cell (Has.low hSw) (p := ⟨BQ, k2, none⟩) lQi).trans H10.out; (try simp only at qQ); go_simp <;> omega
              simp only [Act.put, List.setIfInBounds_toArray, List.set_cons_zero, List.set_cons_succ]
              refine wpAnyT_end ?_
              refine wpAnyH_listed #[true, true, true, false, true, true, true, false, false, false, false, false, false, false, false, false, false, false, false, false] (by kernel_rfl) ?_
              refine wpAnyH_ready (rs := [3]) (by kernel_rfl) (by simp) ?_
              refine AllReadyH.cons (o := ⟨some 144, Op.call { callee := Callee.value (Operand.func 17), args := #[Operand.tmp 143], argTypes := #[3] }, 3, _, _, none⟩) rfl (fun K hK => ?_) AllReadyH.nil
              go_simp
              go_at_call 17
              refine (show Calls Try.prog 17 #[.int .i64 s] _ fun e w' => e = .returned (.int .i64 sc) ∧ _ = w' from HSC.out ▸ scale_any s _ hsb.2).mono ?_
              rintro e wq ⟨rfl, rfl⟩
              go_wp2_with fail
              clear hHeld
              refine hK.out _ _ (Cp0) (fun hHeld => ?_)
              clear hK K
              try simp only [List.setIfInBounds_toArray, List.set_cons_zero, List.set_cons_succ]
              refine wpAnyH_listed #[true, true, true, true, true, true, true, false, false, false, false, false, false, false, false, false, false, false, false, false] (by kernel_rfl) ?_
              refine wpAnyH_ready (rs := [7]) (by kernel_rfl) (by simp) ?_
              refine AllReadyH.cons (o := ⟨some 148, Op.call { callee := Callee.value (Operand.func 18), args := #[Operand.tmp 147], argTypes := #[3] }, 3, _, _, none⟩) rfl (fun K hK => ?_) AllReadyH.nil
              go_simp
              go_at_call 18
              refine (Has.call Cp0 (show Calls Try.prog 18 #[.int .i64 s] _ fun e w' => e = .returned (.int .i64 sc) ∧ Below _ _ w' from HSC.out ▸ rscale_any s _)).mono ?_
              rintro e wp2 ⟨rfl, Cp2⟩
              go_wp2_with fail
              clear hHeld
              refine hK.out _ _ (Cp2) (fun hHeld => ?_)
              clear hK K
              try simp only [List.setIfInBounds_toArray, List.set_cons_zero, List.set_cons_succ]
              refine wpAnyH_listed #[true, true, true, true, true, true, true, true, false, false, false, false, false, false, false, false, false, false, false, false] (by kernel_rfl) ?_
              clear Cp0
              refine wpAnyT_begin [8] (by kernel_rfl) (by kernel_rfl) ?_
              refine wpAnyT_take (oi := ⟨some 149, Op.binOp BinOp.neq 3 (Operand.tmp 144) (Operand.tmp 148) 3, 4, _, _, none⟩) (v := .bool false) rfl (fun _ _ _ h => h) (by rfl) (by assumption) (fun wS hSw => ?_) ?_
              · (try dsimp only at hSw); have qQ := (Below.cell (Has.low hSw) (p := ⟨BQ, k2, none⟩) lQi).trans H10.out; (try simp only at qQ); go_simp <;> omega
              simp only [Act.put, List.setIfInBounds_toArray, List.set_cons_zero, List.set_cons_succ]
              refine wpAnyT_end ?_
              refine wpAnyH_listed #[true, true, true, true, true, true, true, true, true, false, false, false, false, false, false, false, false, false, false, false] (by kernel_rfl) ?_
              refine wpAnyT_begin [9] (by kernel_rfl) (by kernel_rfl) ?_
              refine wpAnyT_take (oi := ⟨some 150, Op.move (Operand.tmp 149), 4, _, _, none⟩) (v := .bool false) rfl (fun _ _ _ h => h) (by rfl) (by assumption) (fun wS hSw => ?_) ?_
              · (try dsimp only at hSw); have qQ := (Below.cell (Has.low hSw) (p := ⟨BQ, k2, none⟩) lQi).trans H10.out; (try simp only at qQ); go_simp <;> omega
              simp only [Act.put, List.setIfInBounds_toArray, List.set_cons_zero, List.set_cons_succ]
              refine wpAnyT_end ?_
              refine wpAnyH_listed #[true, true, true, true, true, true, true, true, true, true, false, false, false, false, false, false, false, false, false, false] (by kernel_rfl) ?_
              refine wpAnyT_begin [10, 14] (by kernel_rfl) (by kernel_rfl) ?_
              refine wpAnyT_take (oi := ⟨some 151, Op.move (Operand.tmp 22), 3, _, _, some (9, false)⟩) (v := .int .i64 (k2 : Int)) rfl (fun _ _ _ h => h) (by rfl) (by assumption) (fun wS hSw => ?_) ?_
              · (try dsimp only at hSw); have qQ := (Below.cell (Has.low hSw) (p := ⟨BQ, k2, none⟩) lQi).trans H10.out; (try simp only at qQ); go_simp <;> omega
              simp only [Act.put, List.setIfInBounds_toArray, List.set_cons_zero, List.set_cons_succ]
              refine wpAnyT_take (oi := ⟨some 155, Op.move (Operand.tmp 22), 3, _, _, some (9, false)⟩) (v := .int .i64 (k2 : Int)) rfl (fun _ _ _ h => h) (by rfl) (by assumption) (fun wS hSw => ?_) ?_
              · (try dsimp only at hSw); have qQ := (Below.cell (Has.low hSw) (p := ⟨BQ, k2, none⟩) lQi).trans H10.out; (try simp only at qQ); go_simp <;> omega
              simp only [Act.put, List.setIfInBounds_toArray, List.set_cons_zero, List.set_cons_succ]
              refine wpAnyT_end ?_
              refine wpAnyH_listed #[true, true, true, true, true, true, true, true, true, true, true, false, false, false, true, false, false, false, false, false] (by kernel_rfl) ?_
              refine wpAnyT_begin [11, 15] (by kernel_rfl) (by kernel_rfl) ?_
              refine wpAnyT_take (oi := ⟨some 152, Op.indexAddr 26 (Operand.tmp 12) (Operand.tmp 151), 0, _, _, some (9, false)⟩) (v := .pointer (some ⟨BQ, k2, none⟩)) rfl (fun _ _ _ h => h) (by rfl) (by assumption) (fun wS hSw => ?_) ?_
              · (try dsimp only at hSw); have qQ := (Below.cell (Has.low hSw) (p := ⟨BQ, k2, none⟩) lQi).trans H10.out; (try simp only at qQ); go_simp <;> omega
              simp only [Act.put, List.setIfInBounds_toArray, List.set_cons_zero, List.set_cons_succ]
              refine wpAnyT_take (oi := ⟨some 156, Op.indexAddr 26 (Operand.tmp 12) (Operand.tmp 155), 0, _, _, some (9, false)⟩) (v := .pointer (some ⟨BQ, k2, none⟩)) rfl (fun _ _ _ h => h) (by rfl) (by assumption) (fun wS hSw => ?_) ?_
              · (try dsimp only at hSw); have qQ := (Below.cell (Has.low hSw) (p := ⟨BQ, k2, none⟩) lQi).trans H10.out; (try simp only at qQ); go_simp <;> omega
              simp only [Act.put, List.setIfInBounds_toArray, List.set_cons_zero, List.set_cons_succ]
              refine wpAnyT_end ?_
              refine wpAnyH_listed #[true, true, true, true, true, true, true, true, true, true, true, true, false, false, true, true, false, false, false, false] (by kernel_rfl) ?_
              refine wpAnyT_begin [12, 16] (by kernel_rfl) (by kernel_rfl) ?_
              refine wpAnyT_take (oi := ⟨some 153, Op.load 3 (Operand.tmp 152), 3, _, _, some (9, false)⟩) (v := .int .i64 s) rfl (fun _ _ _ h => h) (by rfl) (by assumption) (fun wS hSw => ?_) ?_
              · (try dsimp only at hSw); have qQ := (Below.cell (Has.low hSw) (p := ⟨BQ, k2, none⟩) lQi).trans H10.out; (try simp only at qQ); go_simp <;> omega
              simp only [Act.put, List.setIfInBounds_toArray, List.set_cons_zero, List.set_cons_succ]
              refine wpAnyT_take (oi := ⟨some 157, Op.load 3 (Operand.tmp 156), 3, _, _, some (9, false)⟩) (v := .int .i64 s) rfl (fun _ _ _ h => h) (by rfl) (by assumption) (fun wS hSw => ?_) ?_
              · (try dsimp only at hSw); have qQ := (Below.cell (Has.low hSw) (p := ⟨BQ, k2, none⟩) lQi).trans H10.out; (try simp only at qQ); go_simp <;> omega
              simp only [Act.put, List.setIfInBounds_toArray, List.set_cons_zero, List.set_cons_succ]
              refine wpAnyT_end ?_
              refine wpAnyH_listed #[true, true, true, true, true, true, true, true, true, true, true, true, true, false, true, true, true, false, false, false] (by kernel_rfl) ?_
              refine wpAnyH_ready (rs := [13]) (by kernel_rfl) (by simp) ?_
              refine AllReadyH.cons (o := ⟨some 154, Op.call { callee := Callee.value (Operand.func 19), args := #[Operand.tmp 153], argTypes := #[3] }, 3, _, _, some (9, false)⟩) rfl (fun K hK => ?_) AllReadyH.nil
              go_simp
              go_at_call 19
              refine (show Calls Try.prog 19 #[.int .i64 s] _ fun e w' => e = .returned (.int .i64 bd) ∧ _ = w' from HBD.out ▸ band_any s _).mono ?_
              rintro e wq ⟨rfl, rfl⟩
              go_wp2_with fail
              clear hHeld
              refine hK.out _ _ (Cp2) (fun hHeld => ?_)
              clear hK K
              try simp only [List.setIfInBounds_toArray, List.set_cons_zero, List.set_cons_succ]
              refine wpAnyH_listed #[true, true, true, true, true, true, true, true, true, true, true, true, true, true, true, true, true, false, false, false] (by kernel_rfl) ?_
              refine wpAnyH_ready (rs := [17]) (by kernel_rfl) (by simp) ?_
              refine AllReadyH.cons (o := ⟨some 158, Op.call { callee := Callee.value (Operand.func 20), args := #[Operand.tmp 157], argTypes := #[3] }, 3, _, _, some (9, false)⟩) rfl (fun K hK => ?_) AllReadyH.nil
              go_simp
              go_at_call 20
              refine (show Calls Try.prog 20 #[.int .i64 s] _ fun e w' => e = .returned (.int .i64 bd) ∧ _ = w' from HBD.out ▸ rband_any s _).mono ?_
              rintro e wq ⟨rfl, rfl⟩
              go_wp2_with fail
              clear hHeld
              refine hK.out _ _ (Cp2) (fun hHeld => ?_)
              clear hK K
              try simp only [List.setIfInBounds_toArray, List.set_cons_zero, List.set_cons_succ]
              refine wpAnyH_listed #[true, true, true, true, true, true, true, true, true, true, true, true, true, true, true, true, true, true, false, false] (by kernel_rfl) ?_
              refine wpAnyT_begin [18] (by kernel_rfl) (by kernel_rfl) ?_
              refine wpAnyT_take (oi := ⟨some 159, Op.binOp BinOp.neq 3 (Operand.tmp 154) (Operand.tmp 158) 3, 4, _, _, some (9, false)⟩) (v := .bool false) rfl (fun _ _ _ h => h) (by rfl) (by assumption) (fun wS hSw => ?_) ?_
              · (try dsimp only at hSw); have qQ := (Below.cell (Has.low hSw) (p := ⟨BQ, k2, none⟩) lQi).trans H10.out; (try simp only at qQ); go_simp <;> omega
              simp only [Act.put, List.setIfInBounds_toArray, List.set_cons_zero, List.set_cons_succ]
              refine wpAnyT_end ?_
              refine wpAnyH_listed #[true, true, true, true, true, true, true, true, true, true, true, true, true, true, true, true, true, true, true, false] (by kernel_rfl) ?_
              refine wpAnyT_begin [19] (by kernel_rfl) (by kernel_rfl) ?_
              refine wpAnyT_take (oi := ⟨some 160, Op.pick (Operand.tmp 150) (Operand.const (Value.bool true)) (Operand.tmp 159), 4, _, _, none⟩) (v := .bool false) rfl (fun _ _ _ h => h) (by rfl) (by assumption) (fun wS hSw => ?_) ?_
              · (try dsimp only at hSw); have qQ := (Below.cell (Has.low hSw) (p := ⟨BQ, k2, none⟩) lQi).trans H10.out; (try simp only at qQ); go_simp <;> omega
              simp only [Act.put, List.setIfInBounds_toArray, List.set_cons_zero, List.set_cons_succ]
              refine wpAnyT_end ?_
              refine wpAnyH_listed #[true, true, true, true, true, true, true, true, true, true, true, true, true, true, true, true, true, true, true, true] (by kernel_rfl) ?_
              refine wpAnyH_done (by kernel_rfl) ?_ _
              clear hHeld
              go_wp2_with fail
              go_roundw
              case rel => exact ⟨k2 + 1, by omega, by go_num, Grows.then gB Cp2.low⟩
              case measure => simp [RowKit.intOf]; omega
            · obtain rfl : k2 = 4 := by omega
              have q50 := (gB.cell (p := ⟨B5, 0, none⟩) l58).trans HB5.out.1
              have q53 := (gB.cell (p := ⟨B5, 3, none⟩) l58).trans HB5.out.2
              have KP := has1 (w := wi) [.int .i64 i0, .int .i64 i3] 42
              change Has wi _ (wi.alloc (.cells #[.int .i64 i0, .int .i64 i3] 42)) at KP
              obtain ⟨sq, hsq⟩ : ∃ x, sqV i0 i3 = x := ⟨_, rfl⟩
              have HSQ := Lib.hid hsq
              clear hsq
              go_wp2_with fail
              generalize wi.alloc (.cells #[.int .i64 i0, .int .i64 i3] 42) = wp at *
              generalize hGP : wi.heap.size = GP at *
              have Cp0 := KP.drew
              refine wp_region_held_drew (S := (fun wz => Has wi [(GP, [.int .i64 i0, .int .i64 i3])] wz)) (by kernel_rfl) Cp0 (fun hHeld => ?_)
              generalize wp.drew = wp0 at *
              refine wpAnyT_begin [0] (by kernel_rfl) (by kernel_rfl) ?_
              refine wpAnyT_take (oi := ⟨some 166, Op.move (Operand.tmp 7), 4, _, _, none⟩) (v := .bool true) rfl (fun _ _ _ h => h) (by rfl) (by assumption) (fun wS hSw => ?_) ?_
              · (try dsimp only at hSw); have u0 := Has.fact hSw (.head _) (i := 0) rfl; have u1 := Has.fact hSw (.head _) (i := 1) rfl; (try simp only at u0 u1); go_simp <;> omega
              simp only [Act.put, List.setIfInBounds_toArray, List.set_cons_zero, List.set_cons_succ]
              refine wpAnyT_end ?_
              refine wpAnyH_listed #[true, false, false, false, false, false, false, false, false] (by kernel_rfl) ?_
              refine wpAnyT_begin [1] (by kernel_rfl) (by kernel_rfl) ?_
              refine wpAnyT_take (oi := ⟨some 167, Op.move (Operand.tmp 166), 4, _, _, none⟩) (v := .bool true) rfl (fun _ _ _ h => h) (by rfl) (by assumption) (fun wS hSw => ?_) ?_
              · (try dsimp only at hSw); have u0 := Has.fact hSw (.head _) (i := 0) rfl; have u1 := Has.fact hSw (.head _) (i := 1) rfl; (try simp only at u0 u1); go_simp <;> omega
              simp only [Act.put, List.setIfInBounds_toArray, List.set_cons_zero, List.set_cons_succ]
              refine wpAnyT_end ?_
              refine wpAnyH_listed #[true, true, false, false, false, false, false, false, false] (by kernel_rfl) ?_
              refine wpAnyT_begin [2, 4] (by kernel_rfl) (by kernel_rfl) ?_
              refine wpAnyT_take (oi := ⟨some 168, Op.load 42 (Operand.tmp 23), 42, _, _, some (1, true)⟩) (v := .agg #[.int .i64 i0, .int .i64 i3]) rfl (fun _ _ _ h => h) (by rfl) (by assumption) (fun wS hSw => ?_) ?_
              · (try dsimp only at hSw); have u0 := Has.fact hSw (.head _) (i := 0) rfl; have u1 := Has.fact hSw (.head _) (i := 1) rfl; (try simp only at u0 u1); go_simp <;> omega
              simp only [Act.put, List.setIfInBounds_toArray, List.set_cons_zero, List.set_cons_succ]
              refine wpAnyT_take (oi := ⟨some 170, Op.load 42 (Operand.tmp 23), 42, _, _, some (1, true)⟩) (v := .agg #[.int .i64 i0, .int .i64 i3]) rfl (fun _ _ _ h => h) (by rfl) (by assumption) (fun wS hSw => ?_) ?_
              · (try dsimp only at hSw); have u0 := Has.fact hSw (.head _) (i := 0) rfl; have u1 := Has.fact hSw (.head _) (i := 1) rfl; (try simp only at u0 u1); go_simp <;> omega
              simp only [Act.put, List.setIfInBounds_toArray, List.set_cons_zero, List.set_cons_succ]
              refine wpAnyT_end ?_
              refine wpAnyH_listed #[true, true, true, false, true, false, false, false, false] (by kernel_rfl) ?_
              refine wpAnyH_ready (rs := [3]) (by kernel_rfl) (by simp) ?_
              refine AllReadyH.cons (o := ⟨some 169, Op.call { callee := Callee.value (Operand.func 21), args := #[Operand.tmp 168], argTypes := #[42] }, 3, _, _, some (1, true)⟩) rfl (fun K hK => ?_) AllReadyH.nil
              go_simp
              go_at_call 21
              refine (Has.call Cp0 (show Calls Try.prog 21 #[.agg #[.int .i64 i0, .int .i64 i3]] _ fun e w' => e = .returned (.int .i64 sq) ∧ Below _ _ w' from HSQ.out ▸ square_any i0 i3 _)).mono ?_
              rintro e wp1 ⟨rfl, Cp1⟩
              go_wp2_with fail
              clear hHeld
              refine hK.out _ _ (Cp1) (fun hHeld => ?_)
              clear hK K
              try simp only [List.setIfInBounds_toArray, List.set_cons_zero, List.set_cons_succ]
              refine wpAnyH_listed #[true, true, true, true, true, false, false, false, false] (by kernel_rfl) ?_
              clear Cp0
              refine wpAnyH_ready (rs := [5]) (by kernel_rfl) (by simp) ?_
              refine AllReadyH.cons (o := ⟨some 171, Op.call { callee := Callee.value (Operand.func 22), args := #[Operand.tmp 170], argTypes := #[42] }, 3, _, _, some (1, true)⟩) rfl (fun K hK => ?_) AllReadyH.nil
              go_simp
              go_at_call 22
              refine (Has.call Cp1 (show Calls Try.prog 22 #[.agg #[.int .i64 i0, .int .i64 i3]] _ fun e w' => e = .returned (.int .i64 sq) ∧ Below _ _ w' from HSQ.out ▸ rsquare_any i0 i3 _)).mono ?_
              rintro e wp2 ⟨rfl, Cp2⟩
              go_wp2_with fail
              clear hHeld
              refine hK.out _ _ (Cp2) (fun hHeld => ?_)
              clear hK K
              try simp only [List.setIfInBounds_toArray, List.set_cons_zero, List.set_cons_succ]
              refine wpAnyH_listed #[true, true, true, true, true, true, false, false, false] (by kernel_rfl) ?_
              clear Cp1
              refine wpAnyT_begin [6] (by kernel_rfl) (by kernel_rfl) ?_
              refine wpAnyT_take (oi := ⟨some 172, Op.binOp BinOp.eql 3 (Operand.tmp 169) (Operand.tmp 171) 3, 4, _, _, some (1, true)⟩) (v := .bool true) rfl (fun _ _ _ h => h) (by rfl) (by assumption) (fun wS hSw => ?_) ?_
              · (try dsimp only at hSw); have u0 := Has.fact hSw (.head _) (i := 0) rfl; have u1 := Has.fact hSw (.head _) (i := 1) rfl; (try simp only at u0 u1); go_simp <;> omega
              simp only [Act.put, List.setIfInBounds_toArray, List.set_cons_zero, List.set_cons_succ]
              refine wpAnyT_end ?_
              refine wpAnyH_listed #[true, true, true, true, true, true, true, false, false] (by kernel_rfl) ?_
              refine wpAnyT_begin [7] (by kernel_rfl) (by kernel_rfl) ?_
              refine wpAnyT_take (oi := ⟨some 173, Op.pick (Operand.tmp 167) (Operand.tmp 172) (Operand.const (Value.bool false)), 4, _, _, none⟩) (v := .bool true) rfl (fun _ _ _ h => h) (by rfl) (by assumption) (fun wS hSw => ?_) ?_
              · (try dsimp only at hSw); have u0 := Has.fact hSw (.head _) (i := 0) rfl; have u1 := Has.fact hSw (.head _) (i := 1) rfl; (try simp only at u0 u1); go_simp <;> omega
              simp only [Act.put, List.setIfInBounds_toArray, List.set_cons_zero, List.set_cons_succ]
              refine wpAnyT_end ?_
              refine wpAnyH_listed #[true, true, true, true, true, true, true, true, false] (by kernel_rfl) ?_
              refine wpAnyT_begin [8] (by kernel_rfl) (by kernel_rfl) ?_
              refine wpAnyT_take (oi := ⟨some 6, Op.assign (Operand.tmp 173), 4, _, _, none⟩) (v := .bool true) rfl (fun _ _ _ h => h) (by rfl) (by assumption) (fun wS hSw => ?_) ?_
              · (try dsimp only at hSw); have u0 := Has.fact hSw (.head _) (i := 0) rfl; have u1 := Has.fact hSw (.head _) (i := 1) rfl; (try simp only at u0 u1); go_simp <;> omega
              simp only [Act.put, List.setIfInBounds_toArray, List.set_cons_zero, List.set_cons_succ]
              refine wpAnyT_end ?_
              refine wpAnyH_listed #[true, true, true, true, true, true, true, true, true] (by kernel_rfl) ?_
              refine wpAnyH_done (by kernel_rfl) ?_ _
              clear hHeld
              go_wp2_with fail
              go_ret
              exact ⟨rfl, by rw [hB4]; exact Below.trans HG8.out (Below.mono (Grows.then gB Cp2.low) (by have := HG8.out.size; omega))⟩
end Go.Proofs.Ytfcoblapbcdaiaa
