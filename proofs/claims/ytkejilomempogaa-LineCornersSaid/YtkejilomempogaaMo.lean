/- Made lists are memory of their own. -/
import Derived.Test.YtkejilomempogaaMv
namespace Go.Proofs.Ytkejilomempogaa
open Go.RowKit Go.Lib

theorem own_base {b c : Nat} {w : World} {v : Value} {ps : List (Int × Int)} (h : Own b w v ps) (hc : c ≤ b) : Own c w v ps := by
  refine ⟨h.1, ?_⟩
  rcases h.2 with h2 | ⟨k, cap, cur, h1, h2, h3⟩
  · exact .inl h2
  · exact .inr ⟨k, cap, cur, h1, Nat.le_trans hc h2, h3⟩
attribute [local go_sem] Oper.semAt_some
set_option linter.unusedSimpArgs false in
set_option maxRecDepth 100000 in
set_option maxHeartbeats 4000000 in
theorem made_own (v : Value) (xs : List Int) (w : World) (R : RowN w v xs) :
    Calls Try.prog 10 #[v] w fun e w' => ∃ u ps, e = .returned u ∧ Own w.heap.size w' u ps ∧ (2 ≤ ps.length ∧ ps.length ≤ 6) ∧ Cs ps ∧ Below w.heap.size w w' := by
  have HR := Lib.hid R
  obtain ⟨a, cap, rfl, -⟩ := R
  generalize xs.length = n at *
  have C0 := (Has.nil (Below.refl w.heap.size w)).push [.slice a n cap, .int .i64 0] 56
  obtain ⟨D, hD⟩ : ∃ D, w.heap.size = D := ⟨_, rfl⟩
  go_enter Try.func10, Try.ntmps10
  go_wp2_with fail
  change Has w [(w.heap.size, [.slice a n cap, .int .i64 0])] (w.alloc (.cells #[.slice a n cap, .int .i64 0] 56)) at C0
  generalize w.alloc (.cells #[.slice a n cap, .int .i64 0] 56) = w1 at *
  generalize w.heap.size = D' at *
  subst hD
  refine (next_any C0 HR.out (by decide) 5 (by decide) (by decide)).mono ?_
  rintro e w2 ⟨r, t, rfl, hr0, hr1, ht, C1, -⟩
  go_wp2_with fail
  obtain ⟨M, hM⟩ : ∃ M : Nat, 2 + r = (M : Int) := ⟨(2 + r).toNat, by omega⟩
  rw [hM]
  have hM2 : 2 ≤ M ∧ M ≤ 6 := by omega
  clear C0 hM hr0 hr1
  refine (next_any C1 HR.out ht 13 (by decide) (by decide)).mono ?_
  rintro e w3 ⟨x, t2, rfl, hx0, hx1, ht2, C2, -⟩
  clear C1 ht
  go_wp2_with fail
  refine (next_any C2 HR.out ht2 13 (by decide) (by decide)).mono ?_
  rintro e w4 ⟨y, t3, rfl, hy0, hy1, ht3, C3, -⟩
  clear C2 ht2
  have C4 := C3.push [.int .i64 x, .int .i64 y] 36
  have hDP : D' < w4.heap.size := C3.lt0
  have hO0 := Own.nil (w4.heap.size + 1) (w4.alloc (.cells #[.int .i64 x, .int .i64 y] 36))
  have hwG : w.heap.size ≤ w4.heap.size + 1 := by have := C3.low.size; omega
  have hG1 : w4.heap.size + 1 ≤ (w4.alloc (.cells #[.int .i64 x, .int .i64 y] 36)).heap.size := by rw [size_alloc]; exact Nat.le_refl _
  go_wp2_with fail
  change Has w _ (w4.alloc (.cells #[.int .i64 x, .int .i64 y] 36)) at C4
  generalize w4.alloc (.cells #[.int .i64 x, .int .i64 y] 36) = w5 at *
  clear C3
  generalize w4.heap.size = G at *
  go_loopw [5, 7] (fun o i wr => ∃ (k : Nat) (t x y : Int) (ps : List (Int × Int)), k ≤ M ∧ i = .int .i64 k ∧ ps.length = k ∧ Hid (Cs ps) ∧ (0 ≤ x ∧ x ≤ 12) ∧ (0 ≤ y ∧ y ≤ 12) ∧ 0 ≤ t ∧ Has w [(G, [.int .i64 x, .int .i64 y]), (D', [.slice a n cap, .int .i64 t])] wr ∧ Own (G + 1) wr o ps) (fun _ i _ => M - (RowKit.intOf i).toNat)
  case atStart => exact ⟨0, t3, x, y, [], Nat.zero_le _, rfl, rfl, Lib.hid Cs.nil, by omega, by omega, ht3, C4, hO0⟩
  case round =>
    clear C4 hO0 ht3 hx0 hx1 hy0 hy1
    obtain ⟨k, t4, x, y, ps, hk, rfl, hlen, HC, hx, hy, ht4, hI, hO⟩ := hrel
    by_cases hlt : k < M
    · have b1 : (k : Int) < M := by omega
      obtain ⟨k0, k1⟩ := hI.pt
      obtain ⟨Cx, Rx⟩ := one_row hI rfl [(x, y)] (by simp)
      have hO1 := hO.later ((Below.refl _ wr).alloc (Nat.le_refl _) (.cells (flat [(x, y)]).toArray 36))
      change RowP (wr.alloc (.cells #[.int .i64 x, .int .i64 y] 36)) _ _ at Rx
      change Own _ (wr.alloc (.cells #[.int .i64 x, .int .i64 y] 36)) _ _ at hO1
      change Has w _ (wr.alloc (.cells #[.int .i64 x, .int .i64 y] 36)) at Cx
      have hGl := Cx.tail.lt0
      go_wp2_with (at_builtin; refine wpList_append_pts rfl _ _ rfl rfl hO1 rfl Rx (by simp; omega) (by omega) ?_)
      intro u3 w3 hO2 hG2
      have hI2 := Cx.tail.grown hO1 (by intro p hp; simp only [List.mem_cons, List.not_mem_nil, or_false] at hp; rcases hp with rfl | rfl <;> simp only <;> omega) hwG hG2
      clear hI hO k0 k1 Cx Rx hO1 hG2 hGl
      go_wp2_with fail
      refine (next_any hI2.swap HR.out ht4 2 (by decide) (by decide)).mono ?_
      rintro e w6 ⟨r, t5, rfl, hr0, hr1, ht4, C6, O6⟩
      have hO3 := O6.own (by omega) hO2
      clear hI2 hO2 O6
      rcases (show r = 0 ∨ r = 1 by omega) with rfl | rfl
      · have s1 : IntKind.i64.wrap (x + 1) = x + 1 := by rw [IntKind.wrap_i64]; omega
        go_wp2_with fail
        refine plain_Z 8 (fun W => W.cell? ⟨G, 0, none⟩ = some (.int .i64 x) ∧ W.cell? ⟨G, 1, none⟩ = some (.int .i64 y)) (by kernel_rfl) ?_
        have X0 := C6.drew
        have hO4 : Own (G + 1) w6.drew _ _ := hO3.later ((Below.refl _ _).drew)
        have hHeld : (fun W => W.cell? ⟨G, 0, none⟩ = some (.int .i64 x) ∧ W.cell? ⟨G, 1, none⟩ = some (.int .i64 y)) w6.drew := ⟨X0.tail.fact (.head _) (i := 0) rfl, X0.tail.fact (.head _) (i := 1) rfl⟩
        generalize w6.drew = w7 at *
        clear C6 hO3
        try dsimp only at hHeld
        refine wpAnyZ_take (i := 0) (oi := ⟨some 31, Op.fieldAddr 36 (Operand.tmp 6) 0, 0, _, _, none⟩) (oz := ⟨none, Op.store 3 (Operand.tmp 38) (Operand.tmp 37), 0, _, _, none⟩) (v := .pointer (some ⟨G, 0, none⟩)) rfl rfl (by kernel_rfl) (fun _ _ _ h => h) (by rfl) (by assumption) (fun wS hSw => ?_) ?_
        · (try dsimp only at hSw); go_simp
        simp only [Act.put, List.setIfInBounds_toArray, List.set_cons_zero, List.set_cons_succ]
        refine wpAnyZ_take (i := 1) (oi := ⟨some 32, Op.load 3 (Operand.tmp 31), 3, _, _, none⟩) (oz := ⟨none, Op.store 3 (Operand.tmp 38) (Operand.tmp 37), 0, _, _, none⟩) (v := .int .i64 x) rfl rfl (by kernel_rfl) (fun _ _ _ h => h) (by rfl) (by assumption) (fun wS hSw => ?_) ?_
        · (try dsimp only at hSw); go_simp
        simp only [Act.put, List.setIfInBounds_toArray, List.set_cons_zero, List.set_cons_succ]
        refine wpAnyZ_take (i := 2) (oi := ⟨some 33, Op.binOp BinOp.add 3 (Operand.tmp 32) (Operand.const (Value.int IntKind.i64 1)) 3, 3, _, _, none⟩) (oz := ⟨none, Op.store 3 (Operand.tmp 38) (Operand.tmp 37), 0, _, _, none⟩) (v := .int .i64 (x + 1)) rfl rfl (by kernel_rfl) (fun _ _ _ h => h) (by rfl) (by assumption) (fun wS hSw => ?_) ?_
        · (try dsimp only at hSw); go_simp
        simp only [Act.put, List.setIfInBounds_toArray, List.set_cons_zero, List.set_cons_succ]
        refine wpAnyZ_take (i := 3) (oi := ⟨some 34, Op.move (Operand.tmp 3), 54, _, _, none⟩) (oz := ⟨none, Op.store 3 (Operand.tmp 38) (Operand.tmp 37), 0, _, _, none⟩) (v := .pointer (some ⟨D', 0, none⟩)) rfl rfl (by kernel_rfl) (fun _ _ _ h => h) (by rfl) (by assumption) (fun wS hSw => ?_) ?_
        · (try dsimp only at hSw); go_simp
        simp only [Act.put, List.setIfInBounds_toArray, List.set_cons_zero, List.set_cons_succ]
        refine wpAnyZ_listed #[true, true, true, true, false, false, false, false, false] (by kernel_rfl) ?_
        refine wpAnyZ_one (i := 4) (o := ⟨some 35, Op.call { callee := Callee.value (Operand.func 34), args := #[Operand.tmp 34, Operand.const (Value.int IntKind.i64 12)], argTypes := #[54, 3] }, 3, _, _, none⟩) (by kernel_rfl) rfl (fun K hK => ?_)
        go_simp
        go_at_call 34
        refine (next_any X0 HR.out ht4 12 (by decide) (by decide)).mono ?_
        rintro e w8 ⟨q, t5, rfl, hq0, hq1, ht5, X1, O7⟩
        go_wp2_with fail
        try clear hHeld
        refine hK.out _ _ (⟨X1.tail.fact (.head _) (i := 0) rfl, X1.tail.fact (.head _) (i := 1) rfl⟩) (fun hHeld => ?_)
        clear hK K
        try simp only [List.setIfInBounds_toArray, List.set_cons_zero, List.set_cons_succ]
        refine wpAnyZ_listed #[true, true, true, true, true, false, false, false, false] (by kernel_rfl) ?_
        have s2 : IntKind.i64.wrap (x + 1 + q) = x + 1 + q := by rw [IntKind.wrap_i64]; omega
        refine wpAnyZ_take (i := 5) (oi := ⟨some 36, Op.binOp BinOp.add 3 (Operand.tmp 33) (Operand.tmp 35) 3, 3, _, _, none⟩) (oz := ⟨none, Op.store 3 (Operand.tmp 38) (Operand.tmp 37), 0, _, _, none⟩) (v := .int .i64 (x + 1 + q)) rfl rfl (by kernel_rfl) (fun _ _ _ h => h) (by rfl) (by assumption) (fun wS hSw => ?_) ?_
        · (try dsimp only at hSw); go_simp
        simp only [Act.put, List.setIfInBounds_toArray, List.set_cons_zero, List.set_cons_succ]
        refine wpAnyZ_take (i := 6) (oi := ⟨some 37, Op.binOp BinOp.rem 3 (Operand.tmp 36) (Operand.const (Value.int IntKind.i64 13)) 3, 3, _, _, none⟩) (oz := ⟨none, Op.store 3 (Operand.tmp 38) (Operand.tmp 37), 0, _, _, none⟩) (v := .int .i64 ((x + 1 + q).tmod 13)) rfl rfl (by kernel_rfl) (fun _ _ _ h => h) (by rfl) (by assumption) (fun wS hSw => ?_) ?_
        · (try dsimp only at hSw); go_simp
        simp only [Act.put, List.setIfInBounds_toArray, List.set_cons_zero, List.set_cons_succ]
        refine wpAnyZ_take (i := 7) (oi := ⟨some 38, Op.fieldAddr 36 (Operand.tmp 6) 0, 0, _, _, none⟩) (oz := ⟨none, Op.store 3 (Operand.tmp 38) (Operand.tmp 37), 0, _, _, none⟩) (v := .pointer (some ⟨G, 0, none⟩)) rfl rfl (by kernel_rfl) (fun _ _ _ h => h) (by rfl) (by assumption) (fun wS hSw => ?_) ?_
        · (try dsimp only at hSw); go_simp
        simp only [Act.put, List.setIfInBounds_toArray, List.set_cons_zero, List.set_cons_succ]
        refine wpAnyZ_listed #[true, true, true, true, true, true, true, true, false] (by kernel_rfl) ?_
        refine wpAnyZ_step (o := ⟨none, Op.store 3 (Operand.tmp 38) (Operand.tmp 37), 0, _, _, none⟩) (by kernel_rfl) (by decide) rfl (fun K hK => ?_)
        have f0 := X1.tail.free (.head _) (i := 0) rfl
        go_simp
        have X2 := X1.swap.set 0 (by simp) (.int .i64 ((x + 1 + q).tmod 13))
        have O8 := Oth.set G 0 w8 (.int .i64 ((x + 1 + q).tmod 13))
        generalize w8.setCell ⟨G, 0, none⟩ (.int .i64 ((x + 1 + q).tmod 13)) = w9 at *
        clear f0
        try clear hHeld
        refine hK.out _ _ ?_
        clear hK K
        try simp only [List.setIfInBounds_toArray, List.set_cons_zero, List.set_cons_succ]
        refine wpAnyH_listed #[true, true, true, true, true, true, true, true, true] (by kernel_rfl) ?_
        have hHeld := True.intro
        refine wpAnyH_done (by kernel_rfl) ?_ _
        have z0 : 0 ≤ (x + 1 + q).tmod 13 := Int.tmod_nonneg _ (by omega)
        have z1 : (x + 1 + q).tmod 13 < 13 := Int.tmod_lt_of_pos _ (by omega)
        refine Calm.normal ?_
        go_wp2_with fail
        go_roundw
        case rel => exact ⟨k + 1, t5, (x + 1 + q).tmod 13, y, ps ++ [(x, y)], by omega, by go_num, by simp [hlen], Lib.hid (HC.out.snoc hx hy), by omega, by omega, by omega, X2, O8.own (by omega) (O7.own (by omega) hO4)⟩
        case measure => simp [RowKit.intOf]; omega
      · have s1 : IntKind.i64.wrap (y + 1) = y + 1 := by rw [IntKind.wrap_i64]; omega
        go_wp2_with fail
        refine plain_Z 10 (fun W => W.cell? ⟨G, 0, none⟩ = some (.int .i64 x) ∧ W.cell? ⟨G, 1, none⟩ = some (.int .i64 y)) (by kernel_rfl) ?_
        have X0 := C6.drew
        have hO4 : Own (G + 1) w6.drew _ _ := hO3.later ((Below.refl _ _).drew)
        have hHeld : (fun W => W.cell? ⟨G, 0, none⟩ = some (.int .i64 x) ∧ W.cell? ⟨G, 1, none⟩ = some (.int .i64 y)) w6.drew := ⟨X0.tail.fact (.head _) (i := 0) rfl, X0.tail.fact (.head _) (i := 1) rfl⟩
        generalize w6.drew = w7 at *
        clear C6 hO3
        try dsimp only at hHeld
        refine wpAnyZ_take (i := 0) (oi := ⟨some 39, Op.move (Operand.tmp 3), 54, _, _, none⟩) (oz := ⟨none, Op.store 36 (Operand.tmp 6) (Operand.tmp 48), 0, _, _, none⟩) (v := .pointer (some ⟨D', 0, none⟩)) rfl rfl (by kernel_rfl) (fun _ _ _ h => h) (by rfl) (by assumption) (fun wS hSw => ?_) ?_
        · (try dsimp only at hSw); go_simp
        simp only [Act.put, List.setIfInBounds_toArray, List.set_cons_zero, List.set_cons_succ]
        refine wpAnyZ_take (i := 2) (oi := ⟨some 41, Op.fieldAddr 36 (Operand.tmp 6) 1, 0, _, _, none⟩) (oz := ⟨none, Op.store 36 (Operand.tmp 6) (Operand.tmp 48), 0, _, _, none⟩) (v := .pointer (some ⟨G, 1, none⟩)) rfl rfl (by kernel_rfl) (fun _ _ _ h => h) (by rfl) (by assumption) (fun wS hSw => ?_) ?_
        · (try dsimp only at hSw); go_simp
        simp only [Act.put, List.setIfInBounds_toArray, List.set_cons_zero, List.set_cons_succ]
        refine wpAnyZ_take (i := 3) (oi := ⟨some 42, Op.load 3 (Operand.tmp 41), 3, _, _, none⟩) (oz := ⟨none, Op.store 36 (Operand.tmp 6) (Operand.tmp 48), 0, _, _, none⟩) (v := .int .i64 y) rfl rfl (by kernel_rfl) (fun _ _ _ h => h) (by rfl) (by assumption) (fun wS hSw => ?_) ?_
        · (try dsimp only at hSw); go_simp
        simp only [Act.put, List.setIfInBounds_toArray, List.set_cons_zero, List.set_cons_succ]
        refine wpAnyZ_take (i := 4) (oi := ⟨some 43, Op.binOp BinOp.add 3 (Operand.tmp 42) (Operand.const (Value.int IntKind.i64 1)) 3, 3, _, _, none⟩) (oz := ⟨none, Op.store 36 (Operand.tmp 6) (Operand.tmp 48), 0, _, _, none⟩) (v := .int .i64 (y + 1)) rfl rfl (by kernel_rfl) (fun _ _ _ h => h) (by rfl) (by assumption) (fun wS hSw => ?_) ?_
        · (try dsimp only at hSw); go_simp
        simp only [Act.put, List.setIfInBounds_toArray, List.set_cons_zero, List.set_cons_succ]
        refine wpAnyZ_take (i := 5) (oi := ⟨some 44, Op.move (Operand.tmp 3), 54, _, _, none⟩) (oz := ⟨none, Op.store 36 (Operand.tmp 6) (Operand.tmp 48), 0, _, _, none⟩) (v := .pointer (some ⟨D', 0, none⟩)) rfl rfl (by kernel_rfl) (fun _ _ _ h => h) (by rfl) (by assumption) (fun wS hSw => ?_) ?_
        · (try dsimp only at hSw); go_simp
        simp only [Act.put, List.setIfInBounds_toArray, List.set_cons_zero, List.set_cons_succ]
        refine wpAnyZ_listed #[true, false, true, true, true, true, false, false, false, false, false] (by kernel_rfl) ?_
        refine wpAnyZ_one (i := 1) (o := ⟨some 40, Op.call { callee := Callee.value (Operand.func 34), args := #[Operand.tmp 39, Operand.const (Value.int IntKind.i64 13)], argTypes := #[54, 3] }, 3, _, _, none⟩) (by kernel_rfl) rfl (fun K hK => ?_)
        go_simp
        go_at_call 34
        refine (next_any X0 HR.out ht4 13 (by decide) (by decide)).mono ?_
        rintro e w8 ⟨u, t5, rfl, hu0, hu1, ht5, X1, O7⟩
        go_wp2_with fail
        try clear hHeld
        refine hK.out _ _ (⟨X1.tail.fact (.head _) (i := 0) rfl, X1.tail.fact (.head _) (i := 1) rfl⟩) (fun hHeld => ?_)
        clear hK K
        try simp only [List.setIfInBounds_toArray, List.set_cons_zero, List.set_cons_succ]
        refine wpAnyZ_listed #[true, true, true, true, true, true, false, false, false, false, false] (by kernel_rfl) ?_
        refine wpAnyZ_one (i := 6) (o := ⟨some 45, Op.call { callee := Callee.value (Operand.func 34), args := #[Operand.tmp 44, Operand.const (Value.int IntKind.i64 12)], argTypes := #[54, 3] }, 3, _, _, none⟩) (by kernel_rfl) rfl (fun K hK => ?_)
        go_simp
        go_at_call 34
        refine (next_any X1 HR.out ht5 12 (by decide) (by decide)).mono ?_
        rintro e w9 ⟨q, t6, rfl, hq0, hq1, ht6, X3, O9⟩
        go_wp2_with fail
        try clear hHeld
        refine hK.out _ _ (⟨X3.tail.fact (.head _) (i := 0) rfl, X3.tail.fact (.head _) (i := 1) rfl⟩) (fun hHeld => ?_)
        clear hK K
        try simp only [List.setIfInBounds_toArray, List.set_cons_zero, List.set_cons_succ]
        refine wpAnyZ_listed #[true, true, true, true, true, true, true, false, false, false, false] (by kernel_rfl) ?_
        have s2 : IntKind.i64.wrap (y + 1 + q) = y + 1 + q := by rw [IntKind.wrap_i64]; omega
        refine wpAnyZ_take (i := 7) (oi := ⟨some 46, Op.binOp BinOp.add 3 (Operand.tmp 43) (Operand.tmp 45) 3, 3, _, _, none⟩) (oz := ⟨none, Op.store 36 (Operand.tmp 6) (Operand.tmp 48), 0, _, _, none⟩) (v := .int .i64 (y + 1 + q)) rfl rfl (by kernel_rfl) (fun _ _ _ h => h) (by rfl) (by assumption) (fun wS hSw => ?_) ?_
        · (try dsimp only at hSw); go_simp
        simp only [Act.put, List.setIfInBounds_toArray, List.set_cons_zero, List.set_cons_succ]
        refine wpAnyZ_take (i := 8) (oi := ⟨some 47, Op.binOp BinOp.rem 3 (Operand.tmp 46) (Operand.const (Value.int IntKind.i64 13)) 3, 3, _, _, none⟩) (oz := ⟨none, Op.store 36 (Operand.tmp 6) (Operand.tmp 48), 0, _, _, none⟩) (v := .int .i64 ((y + 1 + q).tmod 13)) rfl rfl (by kernel_rfl) (fun _ _ _ h => h) (by rfl) (by assumption) (fun wS hSw => ?_) ?_
        · (try dsimp only at hSw); go_simp
        simp only [Act.put, List.setIfInBounds_toArray, List.set_cons_zero, List.set_cons_succ]
        refine wpAnyZ_take (i := 9) (oi := ⟨some 48, Op.build 36 #[(0, Operand.tmp 40), (1, Operand.tmp 47)], 36, _, _, none⟩) (oz := ⟨none, Op.store 36 (Operand.tmp 6) (Operand.tmp 48), 0, _, _, none⟩) (v := .agg #[.int .i64 u, .int .i64 ((y + 1 + q).tmod 13)]) rfl rfl (by kernel_rfl) (fun _ _ _ h => h) (by rfl) (by assumption) (fun wS hSw => ?_) ?_
        · (try dsimp only at hSw); go_simp
        simp only [Act.put, List.setIfInBounds_toArray, List.set_cons_zero, List.set_cons_succ]
        refine wpAnyZ_listed #[true, true, true, true, true, true, true, true, true, true, false] (by kernel_rfl) ?_
        refine wpAnyZ_step (o := ⟨none, Op.store 36 (Operand.tmp 6) (Operand.tmp 48), 0, _, _, none⟩) (by kernel_rfl) (by decide) rfl (fun K hK => ?_)
        have f0 := X3.tail.free (.head _) (i := 0) rfl
        have f1 := X3.tail.free (.head _) (i := 1) rfl
        go_simp
        have X2 := X3.swap.set2 (.int .i64 u) (.int .i64 ((y + 1 + q).tmod 13))
        have O8 := (Oth.set G 0 w9 (.int .i64 u)).then (Oth.set G 1 _ (.int .i64 ((y + 1 + q).tmod 13)))
        generalize (w9.setCell ⟨G, 0, none⟩ (.int .i64 u)).setCell ⟨G, 1, none⟩ (.int .i64 ((y + 1 + q).tmod 13)) = w10 at *
        clear f0 f1
        try clear hHeld
        refine hK.out _ _ ?_
        clear hK K
        try simp only [List.setIfInBounds_toArray, List.set_cons_zero, List.set_cons_succ]
        refine wpAnyH_listed #[true, true, true, true, true, true, true, true, true, true, true] (by kernel_rfl) ?_
        have hHeld := True.intro
        refine wpAnyH_done (by kernel_rfl) ?_ _
        have z0 : 0 ≤ (y + 1 + q).tmod 13 := Int.tmod_nonneg _ (by omega)
        have z1 : (y + 1 + q).tmod 13 < 13 := Int.tmod_lt_of_pos _ (by omega)
        refine Calm.normal ?_
        go_wp2_with fail
        go_roundw
        case rel => exact ⟨k + 1, t6, u, (y + 1 + q).tmod 13, ps ++ [(x, y)], by omega, by go_num, by simp [hlen], Lib.hid (HC.out.snoc hx hy), by omega, by omega, by omega, X2, O8.own (by omega) (O9.own (by omega) (O7.own (by omega) hO4))⟩
        case measure => simp [RowKit.intOf]; omega
    · obtain rfl : k = M := by omega
      by_cases h3 : 3 < k
      · have b2 : decide ((k : Int) > 3) = true := decide_eq_true (by omega)
        have e1 : IntKind.i64.wrap ((k : Int) - 1) = (k : Int) - 1 := by rw [IntKind.wrap_i64]; omega
        go_wp2_with fail
        refine (next_any hI.swap HR.out ht4 3 (by decide) (by decide)).mono ?_
        rintro e w5 ⟨r, t5, rfl, hr0, hr1, -, C5, O5⟩
        have hO2 := O5.own (by omega) hO
        clear hI hO
        by_cases hr : r = 0
        · subst hr
          obtain ⟨g, cap2, rfl, hgb, hgl⟩ := hO2.form (by omega)
          obtain ⟨x0, y0, hp⟩ := some_pt (ps := ps) (k := 0) (by omega)
          obtain ⟨c0, c1⟩ := hO2.row.cells hp
          obtain ⟨j, hj⟩ : ∃ j : Nat, k - 1 = j := ⟨_, rfl⟩
          have ej : (k : Int) - 1 = (j : Int) := by omega
          rw [ej] at e1
          have f2 := hO2.frozen (j * 2)
          have f3 := hO2.frozen (j * 2 + 1)
          have HS := Lib.hid (HC.out.set j (List.mem_of_getElem? hp))
          have hOs := hO2.set j x0 y0
          have hBs := (Below.setCell (C5.low) (p := ⟨g, j * 2, none⟩) (show w.heap.size ≤ g by omega) (.int .i64 x0)).setCell (p := ⟨g, j * 2 + 1, none⟩) (show w.heap.size ≤ g by omega) (.int .i64 y0)
          obtain ⟨xj, yj, hpj⟩ := some_pt (ps := ps) (k := j) (by omega)
          obtain ⟨c2, c3⟩ := hO2.row.cells hpj
          rw [Nat.zero_mul, Nat.zero_add] at c0 c1
          rw [Nat.zero_add] at c2 c3
          have HL := Lib.hid hlen
          have HW := Lib.hid (And.intro hOs hBs)
          clear hp hpj hOs hBs hO2
          rw [hlen]
          have b3 : (0 : Int) < k := by omega
          have b4 : (j : Int) < k := by omega
          have b5 : (0 : Int) ≤ j := by omega
          go_wp2_with fail
          go_ret
          have hq := own_base HW.out.1 hwG
          exact ⟨_, _, rfl, by rw [← HL.out]; exact hq, by rw [List.length_set]; omega, HS.out, HW.out.2⟩
        · have b6 : (r == 0) = false := by rw [beq_eq_false_iff_ne]; exact hr
          go_wp2_with fail
          go_ret
          exact ⟨_, ps, rfl, own_base hO2 hwG, by omega, HC.out, C5.low⟩
      · have b2 : decide ((k : Int) > 3) = false := decide_eq_false (by omega)
        go_wp2_with fail
        go_ret
        exact ⟨_, ps, rfl, own_base hO hwG, by omega, HC.out, hI.low⟩

end Go.Proofs.Ytkejilomempogaa
