/- The law of RingSpots. -/
import Derived.Test.YtmldgjhecoeldaaLSm
namespace Go.Proofs.Ytmldgjhecoeldaa
open Go.RowKit Go.Lib

theorem u8_mod {u : Int} (h : 0 ≤ u ∧ u ≤ 255) : 0 ≤ u.tmod 50 ∧ u.tmod 50 < 50 := by
  obtain ⟨i, h1, h2⟩ := idx_of u 50 h.1 (by omega)
  have h3 : u.tmod 50 = (i : Int) := h1
  omega
set_option linter.unusedSimpArgs false in
set_option linter.unusedVariables false in
set_option maxRecDepth 100000 in
set_option maxHeartbeats 16000000 in
theorem spots_any (p0 p1 p2 p3 p4 p5 u0 u1 : Int) (w : World) (hp0 : (-9223372036854775808 ≤ p0 ∧ p0 ≤ 9223372036854775807)) (hp1 : (-9223372036854775808 ≤ p1 ∧ p1 ≤ 9223372036854775807)) (hp2 : (-9223372036854775808 ≤ p2 ∧ p2 ≤ 9223372036854775807)) (hp3 : (-9223372036854775808 ≤ p3 ∧ p3 ≤ 9223372036854775807)) (hp4 : (-9223372036854775808 ≤ p4 ∧ p4 ≤ 9223372036854775807)) (hp5 : (-9223372036854775808 ≤ p5 ∧ p5 ≤ 9223372036854775807)) (hu0 : 0 ≤ u0 ∧ u0 ≤ 255) (hu1 : 0 ≤ u1 ∧ u1 ≤ 255) :
    Calls Try.prog 6 #[.agg #[.int .i64 p0, .int .i64 p1, .int .i64 p2, .int .i64 p3, .int .i64 p4, .int .i64 p5], .agg #[.int .u8 u0, .int .u8 u1]] w fun e w' => e = .returned (.bool true) ∧ Below w.heap.size w w' := by
  have D0 := has2 (w := w) [.int .i64 p0, .int .i64 p1, .int .i64 p2, .int .i64 p3, .int .i64 p4, .int .i64 p5] [.int .u8 u0, .int .u8 u1] 37 44
  change Has w _ ((w.alloc (.cells #[.int .i64 p0, .int .i64 p1, .int .i64 p2, .int .i64 p3, .int .i64 p4, .int .i64 p5] 37)).alloc (.cells #[.int .u8 u0, .int .u8 u1] 44)) at D0
  go_enter Try.func6, Try.ntmps6
  go_wp2_with fail
  generalize (w.alloc (.cells #[.int .i64 p0, .int .i64 p1, .int .i64 p2, .int .i64 p3, .int .i64 p4, .int .i64 p5] 37)).alloc (.cells #[.int .u8 u0, .int .u8 u1] 44) = w0 at *
  obtain ⟨A, hA⟩ : ∃ A, w.heap.size = A := ⟨_, rfl⟩
  obtain ⟨B, hB⟩ : ∃ B, A + 1 = B := ⟨_, rfl⟩
  rw [hA, hB] at D0
  simp only [hA]
  simp only [hB]
  replace D0 := D0.swap
  refine (Has.call D0 (sane_any w0)).mono ?_
  rintro e w1 ⟨rfl, D1⟩
  clear D0
  obtain ⟨q0, hq0⟩ : ∃ q, p0.tmod 100 = q := ⟨_, rfl⟩
  have bq0 : -99 ≤ q0 ∧ q0 ≤ 99 := by rw [← hq0]; exact tmod_99 p0
  obtain ⟨q1, hq1⟩ : ∃ q, p1.tmod 100 = q := ⟨_, rfl⟩
  have bq1 : -99 ≤ q1 ∧ q1 ≤ 99 := by rw [← hq1]; exact tmod_99 p1
  obtain ⟨q2, hq2⟩ : ∃ q, p2.tmod 100 = q := ⟨_, rfl⟩
  have bq2 : -99 ≤ q2 ∧ q2 ≤ 99 := by rw [← hq2]; exact tmod_99 p2
  obtain ⟨q3, hq3⟩ : ∃ q, p3.tmod 100 = q := ⟨_, rfl⟩
  have bq3 : -99 ≤ q3 ∧ q3 ≤ 99 := by rw [← hq3]; exact tmod_99 p3
  obtain ⟨q4, hq4⟩ : ∃ q, p4.tmod 100 = q := ⟨_, rfl⟩
  have bq4 : -99 ≤ q4 ∧ q4 ≤ 99 := by rw [← hq4]; exact tmod_99 p4
  obtain ⟨q5, hq5⟩ : ∃ q, p5.tmod 100 = q := ⟨_, rfl⟩
  have bq5 : -99 ≤ q5 ∧ q5 ≤ 99 := by rw [← hq5]; exact tmod_99 p5
  go_wp2_with fail
  go_loopw [16] (fun i wr => (i = .int .i64 0 ∧ Has w [(B, [.int .u8 u0, .int .u8 u1]), (A, [.int .i64 p0, .int .i64 p1, .int .i64 p2, .int .i64 p3, .int .i64 p4, .int .i64 p5])] wr) ∨ (i = .int .i64 1 ∧ Has w [(B, [.int .u8 u0, .int .u8 u1]), (A, [.int .i64 q0, .int .i64 q1, .int .i64 p2, .int .i64 p3, .int .i64 p4, .int .i64 p5])] wr) ∨ (i = .int .i64 2 ∧ Has w [(B, [.int .u8 u0, .int .u8 u1]), (A, [.int .i64 q0, .int .i64 q1, .int .i64 q2, .int .i64 q3, .int .i64 p4, .int .i64 p5])] wr) ∨ (i = .int .i64 3 ∧ Has w [(B, [.int .u8 u0, .int .u8 u1]), (A, [.int .i64 q0, .int .i64 q1, .int .i64 q2, .int .i64 q3, .int .i64 q4, .int .i64 q5])] wr)) (fun i _ => 3 - (RowKit.intOf i).toNat)
  case atStart => exact .inl ⟨rfl, D1⟩
  case round =>
    clear D1
    rcases hrel with ⟨rfl, C0⟩ | ⟨rfl, C0⟩ | ⟨rfl, C0⟩ | ⟨rfl, C0⟩
    · go_wp2_with fail
      refine plain_Z 13 (fun w' => (w'.cell? ⟨A, 0, none⟩ = some (.int .i64 p0) ∧ w'.cell? ⟨A, 1, none⟩ = some (.int .i64 p1))) (by kernel_rfl) ?_
      have X0 := C0.drew
      have hHeld : (fun w' => (w'.cell? ⟨A, 0, none⟩ = some (.int .i64 p0) ∧ w'.cell? ⟨A, 1, none⟩ = some (.int .i64 p1))) wr.drew := ⟨X0.fact (.tail _ (.head _)) (i := 0) rfl, X0.fact (.tail _ (.head _)) (i := 1) rfl⟩
      generalize wr.drew = w5 at *
      clear C0
      try dsimp only at hHeld
      refine wpAnyZ_take (i := 0) (oi := ⟨some 19, Op.move (Operand.tmp 6), 3, _, _, none⟩) (oz := ⟨none, Op.store 24 (Operand.tmp 31) (Operand.tmp 30), 0, _, _, none⟩) (v := .int .i64 0) rfl rfl (by kernel_rfl) (fun _ _ _ h => h) (by rfl) (by assumption) (fun wS hSw => ?_) ?_
      · (try dsimp only at hSw); go_simp
      simp only [Act.put, List.setIfInBounds_toArray, List.set_cons_zero, List.set_cons_succ]
      refine wpAnyZ_take (i := 1) (oi := ⟨some 20, Op.move (Operand.tmp 6), 3, _, _, none⟩) (oz := ⟨none, Op.store 24 (Operand.tmp 31) (Operand.tmp 30), 0, _, _, none⟩) (v := .int .i64 0) rfl rfl (by kernel_rfl) (fun _ _ _ h => h) (by rfl) (by assumption) (fun wS hSw => ?_) ?_
      · (try dsimp only at hSw); go_simp
      simp only [Act.put, List.setIfInBounds_toArray, List.set_cons_zero, List.set_cons_succ]
      refine wpAnyZ_take (i := 2) (oi := ⟨some 21, Op.indexAddr 37 (Operand.tmp 2) (Operand.tmp 20), 0, _, _, none⟩) (oz := ⟨none, Op.store 24 (Operand.tmp 31) (Operand.tmp 30), 0, _, _, none⟩) (v := .pointer (some ⟨A, 0, none⟩)) rfl rfl (by kernel_rfl) (fun _ _ _ h => h) (by rfl) (by assumption) (fun wS hSw => ?_) ?_
      · (try dsimp only at hSw); go_simp
      simp only [Act.put, List.setIfInBounds_toArray, List.set_cons_zero, List.set_cons_succ]
      refine wpAnyZ_take (i := 3) (oi := ⟨some 22, Op.fieldAddr 24 (Operand.tmp 21) 0, 0, _, _, none⟩) (oz := ⟨none, Op.store 24 (Operand.tmp 31) (Operand.tmp 30), 0, _, _, none⟩) (v := .pointer (some ⟨A, 0, none⟩)) rfl rfl (by kernel_rfl) (fun _ _ _ h => h) (by rfl) (by assumption) (fun wS hSw => ?_) ?_
      · (try dsimp only at hSw); go_simp
      simp only [Act.put, List.setIfInBounds_toArray, List.set_cons_zero, List.set_cons_succ]
      refine wpAnyZ_take (i := 4) (oi := ⟨some 23, Op.load 3 (Operand.tmp 22), 3, _, _, none⟩) (oz := ⟨none, Op.store 24 (Operand.tmp 31) (Operand.tmp 30), 0, _, _, none⟩) (v := .int .i64 p0) rfl rfl (by kernel_rfl) (fun _ _ _ h => h) (by rfl) (by assumption) (fun wS hSw => ?_) ?_
      · (try dsimp only at hSw); go_simp
      simp only [Act.put, List.setIfInBounds_toArray, List.set_cons_zero, List.set_cons_succ]
      refine wpAnyZ_take (i := 5) (oi := ⟨some 24, Op.binOp BinOp.rem 3 (Operand.tmp 23) (Operand.const (Value.int IntKind.i64 100)) 3, 3, _, _, none⟩) (oz := ⟨none, Op.store 24 (Operand.tmp 31) (Operand.tmp 30), 0, _, _, none⟩) (v := .int .i64 q0) rfl rfl (by kernel_rfl) (fun _ _ _ h => h) (by rfl) (by assumption) (fun wS hSw => ?_) ?_
      · (try dsimp only at hSw); go_simp
      simp only [Act.put, List.setIfInBounds_toArray, List.set_cons_zero, List.set_cons_succ]
      refine wpAnyZ_take (i := 6) (oi := ⟨some 25, Op.move (Operand.tmp 6), 3, _, _, none⟩) (oz := ⟨none, Op.store 24 (Operand.tmp 31) (Operand.tmp 30), 0, _, _, none⟩) (v := .int .i64 0) rfl rfl (by kernel_rfl) (fun _ _ _ h => h) (by rfl) (by assumption) (fun wS hSw => ?_) ?_
      · (try dsimp only at hSw); go_simp
      simp only [Act.put, List.setIfInBounds_toArray, List.set_cons_zero, List.set_cons_succ]
      refine wpAnyZ_take (i := 7) (oi := ⟨some 26, Op.indexAddr 37 (Operand.tmp 2) (Operand.tmp 25), 0, _, _, none⟩) (oz := ⟨none, Op.store 24 (Operand.tmp 31) (Operand.tmp 30), 0, _, _, none⟩) (v := .pointer (some ⟨A, 0, none⟩)) rfl rfl (by kernel_rfl) (fun _ _ _ h => h) (by rfl) (by assumption) (fun wS hSw => ?_) ?_
      · (try dsimp only at hSw); go_simp
      simp only [Act.put, List.setIfInBounds_toArray, List.set_cons_zero, List.set_cons_succ]
      refine wpAnyZ_take (i := 8) (oi := ⟨some 27, Op.fieldAddr 24 (Operand.tmp 26) 1, 0, _, _, none⟩) (oz := ⟨none, Op.store 24 (Operand.tmp 31) (Operand.tmp 30), 0, _, _, none⟩) (v := .pointer (some ⟨A, 1, none⟩)) rfl rfl (by kernel_rfl) (fun _ _ _ h => h) (by rfl) (by assumption) (fun wS hSw => ?_) ?_
      · (try dsimp only at hSw); go_simp
      simp only [Act.put, List.setIfInBounds_toArray, List.set_cons_zero, List.set_cons_succ]
      refine wpAnyZ_take (i := 9) (oi := ⟨some 28, Op.load 3 (Operand.tmp 27), 3, _, _, none⟩) (oz := ⟨none, Op.store 24 (Operand.tmp 31) (Operand.tmp 30), 0, _, _, none⟩) (v := .int .i64 p1) rfl rfl (by kernel_rfl) (fun _ _ _ h => h) (by rfl) (by assumption) (fun wS hSw => ?_) ?_
      · (try dsimp only at hSw); go_simp
      simp only [Act.put, List.setIfInBounds_toArray, List.set_cons_zero, List.set_cons_succ]
      refine wpAnyZ_take (i := 10) (oi := ⟨some 29, Op.binOp BinOp.rem 3 (Operand.tmp 28) (Operand.const (Value.int IntKind.i64 100)) 3, 3, _, _, none⟩) (oz := ⟨none, Op.store 24 (Operand.tmp 31) (Operand.tmp 30), 0, _, _, none⟩) (v := .int .i64 q1) rfl rfl (by kernel_rfl) (fun _ _ _ h => h) (by rfl) (by assumption) (fun wS hSw => ?_) ?_
      · (try dsimp only at hSw); go_simp
      simp only [Act.put, List.setIfInBounds_toArray, List.set_cons_zero, List.set_cons_succ]
      refine wpAnyZ_listed #[true, true, true, true, true, true, true, true, true, true, true, false, false, false] (by kernel_rfl) ?_
      refine wpAnyZ_one (i := 11) (o := ⟨some 30, Op.call { callee := Callee.value (Operand.func 13), args := #[Operand.tmp 24, Operand.tmp 29], argTypes := #[3, 3] }, 24, _, _, none⟩) (by kernel_rfl) rfl (fun K hK => ?_)
      go_simp
      go_at_call 13
      refine (Has.call X0 (at_any q0 q1 _)).mono ?_
      rintro e w6 ⟨rfl, X1⟩
      go_wp2_with fail
      try clear hHeld
      refine hK.out _ _ (⟨X1.fact (.tail _ (.head _)) (i := 0) rfl, X1.fact (.tail _ (.head _)) (i := 1) rfl⟩) (fun hHeld => ?_)
      clear hK K
      try simp only [List.setIfInBounds_toArray, List.set_cons_zero, List.set_cons_succ]
      refine wpAnyZ_listed #[true, true, true, true, true, true, true, true, true, true, true, true, false, false] (by kernel_rfl) ?_
      refine wpAnyZ_take (i := 12) (oi := ⟨some 31, Op.indexAddr 37 (Operand.tmp 2) (Operand.tmp 19), 0, _, _, none⟩) (oz := ⟨none, Op.store 24 (Operand.tmp 31) (Operand.tmp 30), 0, _, _, none⟩) (v := .pointer (some ⟨A, 0, none⟩)) rfl rfl (by kernel_rfl) (fun _ _ _ h => h) (by rfl) (by assumption) (fun wS hSw => ?_) ?_
      · (try dsimp only at hSw); go_simp
      simp only [Act.put, List.setIfInBounds_toArray, List.set_cons_zero, List.set_cons_succ]
      refine wpAnyZ_listed #[true, true, true, true, true, true, true, true, true, true, true, true, true, false] (by kernel_rfl) ?_
      refine wpAnyZ_step (o := ⟨none, Op.store 24 (Operand.tmp 31) (Operand.tmp 30), 0, _, _, none⟩) (by kernel_rfl) (by decide) rfl (fun K hK => ?_)
      have f0 := X1.free (.tail _ (.head _)) (i := 0) rfl
      have f1 := X1.free (.tail _ (.head _)) (i := 1) rfl
      have k0 := X1.fact (.tail _ (.head _)) (i := 0) rfl
      have k1 := X1.fact (.tail _ (.head _)) (i := 1) rfl
      go_simp
      have C7 : Has w [(B, [.int .u8 u0, .int .u8 u1]), (A, [.int .i64 q0, .int .i64 q1, .int .i64 p2, .int .i64 p3, .int .i64 p4, .int .i64 p5])] ((w6.setCell ⟨A, 0, none⟩ (.int .i64 q0)).setCell ⟨A, 1, none⟩ (.int .i64 q1)) := ((X1.swap.set 0 (by simp) (.int .i64 q0)).set 1 (by simp) (.int .i64 q1)).swap
      generalize (w6.setCell ⟨A, 0, none⟩ (.int .i64 q0)).setCell ⟨A, 1, none⟩ (.int .i64 q1) = w7 at *
      clear f0 f1 k0 k1 X1
      try clear hHeld
      refine hK.out _ _ ?_
      clear hK K
      try simp only [List.setIfInBounds_toArray, List.set_cons_zero, List.set_cons_succ]
      refine wpAnyH_listed #[true, true, true, true, true, true, true, true, true, true, true, true, true, true] (by kernel_rfl) ?_
      have hHeld := True.intro
      refine wpAnyH_done (by kernel_rfl) ?_ _
      refine Calm.normal ?_
      go_wp2_with fail
      go_roundw
      case rel => exact .inr (.inl ⟨rfl, C7⟩)
      case measure => simp [RowKit.intOf]
    · go_wp2_with fail
      refine plain_Z 13 (fun w' => (w'.cell? ⟨A, 2, none⟩ = some (.int .i64 p2) ∧ w'.cell? ⟨A, 3, none⟩ = some (.int .i64 p3))) (by kernel_rfl) ?_
      have X0 := C0.drew
      have hHeld : (fun w' => (w'.cell? ⟨A, 2, none⟩ = some (.int .i64 p2) ∧ w'.cell? ⟨A, 3, none⟩ = some (.int .i64 p3))) wr.drew := ⟨X0.fact (.tail _ (.head _)) (i := 2) rfl, X0.fact (.tail _ (.head _)) (i := 3) rfl⟩
      generalize wr.drew = w5 at *
      clear C0
      try dsimp only at hHeld
      refine wpAnyZ_take (i := 0) (oi := ⟨some 19, Op.move (Operand.tmp 6), 3, _, _, none⟩) (oz := ⟨none, Op.store 24 (Operand.tmp 31) (Operand.tmp 30), 0, _, _, none⟩) (v := .int .i64 1) rfl rfl (by kernel_rfl) (fun _ _ _ h => h) (by rfl) (by assumption) (fun wS hSw => ?_) ?_
      · (try dsimp only at hSw); go_simp
      simp only [Act.put, List.setIfInBounds_toArray, List.set_cons_zero, List.set_cons_succ]
      refine wpAnyZ_take (i := 1) (oi := ⟨some 20, Op.move (Operand.tmp 6), 3, _, _, none⟩) (oz := ⟨none, Op.store 24 (Operand.tmp 31) (Operand.tmp 30), 0, _, _, none⟩) (v := .int .i64 1) rfl rfl (by kernel_rfl) (fun _ _ _ h => h) (by rfl) (by assumption) (fun wS hSw => ?_) ?_
      · (try dsimp only at hSw); go_simp
      simp only [Act.put, List.setIfInBounds_toArray, List.set_cons_zero, List.set_cons_succ]
      refine wpAnyZ_take (i := 2) (oi := ⟨some 21, Op.indexAddr 37 (Operand.tmp 2) (Operand.tmp 20), 0, _, _, none⟩) (oz := ⟨none, Op.store 24 (Operand.tmp 31) (Operand.tmp 30), 0, _, _, none⟩) (v := .pointer (some ⟨A, 2, none⟩)) rfl rfl (by kernel_rfl) (fun _ _ _ h => h) (by rfl) (by assumption) (fun wS hSw => ?_) ?_
      · (try dsimp only at hSw); go_simp
      simp only [Act.put, List.setIfInBounds_toArray, List.set_cons_zero, List.set_cons_succ]
      refine wpAnyZ_take (i := 3) (oi := ⟨some 22, Op.fieldAddr 24 (Operand.tmp 21) 0, 0, _, _, none⟩) (oz := ⟨none, Op.store 24 (Operand.tmp 31) (Operand.tmp 30), 0, _, _, none⟩) (v := .pointer (some ⟨A, 2, none⟩)) rfl rfl (by kernel_rfl) (fun _ _ _ h => h) (by rfl) (by assumption) (fun wS hSw => ?_) ?_
      · (try dsimp only at hSw); go_simp
      simp only [Act.put, List.setIfInBounds_toArray, List.set_cons_zero, List.set_cons_succ]
      refine wpAnyZ_take (i := 4) (oi := ⟨some 23, Op.load 3 (Operand.tmp 22), 3, _, _, none⟩) (oz := ⟨none, Op.store 24 (Operand.tmp 31) (Operand.tmp 30), 0, _, _, none⟩) (v := .int .i64 p2) rfl rfl (by kernel_rfl) (fun _ _ _ h => h) (by rfl) (by assumption) (fun wS hSw => ?_) ?_
      · (try dsimp only at hSw); go_simp
      simp only [Act.put, List.setIfInBounds_toArray, List.set_cons_zero, List.set_cons_succ]
      refine wpAnyZ_take (i := 5) (oi := ⟨some 24, Op.binOp BinOp.rem 3 (Operand.tmp 23) (Operand.const (Value.int IntKind.i64 100)) 3, 3, _, _, none⟩) (oz := ⟨none, Op.store 24 (Operand.tmp 31) (Operand.tmp 30), 0, _, _, none⟩) (v := .int .i64 q2) rfl rfl (by kernel_rfl) (fun _ _ _ h => h) (by rfl) (by assumption) (fun wS hSw => ?_) ?_
      · (try dsimp only at hSw); go_simp
      simp only [Act.put, List.setIfInBounds_toArray, List.set_cons_zero, List.set_cons_succ]
      refine wpAnyZ_take (i := 6) (oi := ⟨some 25, Op.move (Operand.tmp 6), 3, _, _, none⟩) (oz := ⟨none, Op.store 24 (Operand.tmp 31) (Operand.tmp 30), 0, _, _, none⟩) (v := .int .i64 1) rfl rfl (by kernel_rfl) (fun _ _ _ h => h) (by rfl) (by assumption) (fun wS hSw => ?_) ?_
      · (try dsimp only at hSw); go_simp
      simp only [Act.put, List.setIfInBounds_toArray, List.set_cons_zero, List.set_cons_succ]
      refine wpAnyZ_take (i := 7) (oi := ⟨some 26, Op.indexAddr 37 (Operand.tmp 2) (Operand.tmp 25), 0, _, _, none⟩) (oz := ⟨none, Op.store 24 (Operand.tmp 31) (Operand.tmp 30), 0, _, _, none⟩) (v := .pointer (some ⟨A, 2, none⟩)) rfl rfl (by kernel_rfl) (fun _ _ _ h => h) (by rfl) (by assumption) (fun wS hSw => ?_) ?_
      · (try dsimp only at hSw); go_simp
      simp only [Act.put, List.setIfInBounds_toArray, List.set_cons_zero, List.set_cons_succ]
      refine wpAnyZ_take (i := 8) (oi := ⟨some 27, Op.fieldAddr 24 (Operand.tmp 26) 1, 0, _, _, none⟩) (oz := ⟨none, Op.store 24 (Operand.tmp 31) (Operand.tmp 30), 0, _, _, none⟩) (v := .pointer (some ⟨A, 3, none⟩)) rfl rfl (by kernel_rfl) (fun _ _ _ h => h) (by rfl) (by assumption) (fun wS hSw => ?_) ?_
      · (try dsimp only at hSw); go_simp
      simp only [Act.put, List.setIfInBounds_toArray, List.set_cons_zero, List.set_cons_succ]
      refine wpAnyZ_take (i := 9) (oi := ⟨some 28, Op.load 3 (Operand.tmp 27), 3, _, _, none⟩) (oz := ⟨none, Op.store 24 (Operand.tmp 31) (Operand.tmp 30), 0, _, _, none⟩) (v := .int .i64 p3) rfl rfl (by kernel_rfl) (fun _ _ _ h => h) (by rfl) (by assumption) (fun wS hSw => ?_) ?_
      · (try dsimp only at hSw); go_simp
      simp only [Act.put, List.setIfInBounds_toArray, List.set_cons_zero, List.set_cons_succ]
      refine wpAnyZ_take (i := 10) (oi := ⟨some 29, Op.binOp BinOp.rem 3 (Operand.tmp 28) (Operand.const (Value.int IntKind.i64 100)) 3, 3, _, _, none⟩) (oz := ⟨none, Op.store 24 (Operand.tmp 31) (Operand.tmp 30), 0, _, _, none⟩) (v := .int .i64 q3) rfl rfl (by kernel_rfl) (fun _ _ _ h => h) (by rfl) (by assumption) (fun wS hSw => ?_) ?_
      · (try dsimp only at hSw); go_simp
      simp only [Act.put, List.setIfInBounds_toArray, List.set_cons_zero, List.set_cons_succ]
      refine wpAnyZ_listed #[true, true, true, true, true, true, true, true, true, true, true, false, false, false] (by kernel_rfl) ?_
      refine wpAnyZ_one (i := 11) (o := ⟨some 30, Op.call { callee := Callee.value (Operand.func 13), args := #[Operand.tmp 24, Operand.tmp 29], argTypes := #[3, 3] }, 24, _, _, none⟩) (by kernel_rfl) rfl (fun K hK => ?_)
      go_simp
      go_at_call 13
      refine (Has.call X0 (at_any q2 q3 _)).mono ?_
      rintro e w6 ⟨rfl, X1⟩
      go_wp2_with fail
      try clear hHeld
      refine hK.out _ _ (⟨X1.fact (.tail _ (.head _)) (i := 2) rfl, X1.fact (.tail _ (.head _)) (i := 3) rfl⟩) (fun hHeld => ?_)
      clear hK K
      try simp only [List.setIfInBounds_toArray, List.set_cons_zero, List.set_cons_succ]
      refine wpAnyZ_listed #[true, true, true, true, true, true, true, true, true, true, true, true, false, false] (by kernel_rfl) ?_
      refine wpAnyZ_take (i := 12) (oi := ⟨some 31, Op.indexAddr 37 (Operand.tmp 2) (Operand.tmp 19), 0, _, _, none⟩) (oz := ⟨none, Op.store 24 (Operand.tmp 31) (Operand.tmp 30), 0, _, _, none⟩) (v := .pointer (some ⟨A, 2, none⟩)) rfl rfl (by kernel_rfl) (fun _ _ _ h => h) (by rfl) (by assumption) (fun wS hSw => ?_) ?_
      · (try dsimp only at hSw); go_simp
      simp only [Act.put, List.setIfInBounds_toArray, List.set_cons_zero, List.set_cons_succ]
      refine wpAnyZ_listed #[true, true, true, true, true, true, true, true, true, true, true, true, true, false] (by kernel_rfl) ?_
      refine wpAnyZ_step (o := ⟨none, Op.store 24 (Operand.tmp 31) (Operand.tmp 30), 0, _, _, none⟩) (by kernel_rfl) (by decide) rfl (fun K hK => ?_)
      have f0 := X1.free (.tail _ (.head _)) (i := 2) rfl
      have f1 := X1.free (.tail _ (.head _)) (i := 3) rfl
      have k0 := X1.fact (.tail _ (.head _)) (i := 2) rfl
      have k1 := X1.fact (.tail _ (.head _)) (i := 3) rfl
      go_simp
      have C7 : Has w [(B, [.int .u8 u0, .int .u8 u1]), (A, [.int .i64 q0, .int .i64 q1, .int .i64 q2, .int .i64 q3, .int .i64 p4, .int .i64 p5])] ((w6.setCell ⟨A, 2, none⟩ (.int .i64 q2)).setCell ⟨A, 3, none⟩ (.int .i64 q3)) := ((X1.swap.set 2 (by simp) (.int .i64 q2)).set 3 (by simp) (.int .i64 q3)).swap
      generalize (w6.setCell ⟨A, 2, none⟩ (.int .i64 q2)).setCell ⟨A, 3, none⟩ (.int .i64 q3) = w7 at *
      clear f0 f1 k0 k1 X1
      try clear hHeld
      refine hK.out _ _ ?_
      clear hK K
      try simp only [List.setIfInBounds_toArray, List.set_cons_zero, List.set_cons_succ]
      refine wpAnyH_listed #[true, true, true, true, true, true, true, true, true, true, true, true, true, true] (by kernel_rfl) ?_
      have hHeld := True.intro
      refine wpAnyH_done (by kernel_rfl) ?_ _
      refine Calm.normal ?_
      go_wp2_with fail
      go_roundw
      case rel => exact .inr (.inr (.inl ⟨rfl, C7⟩))
      case measure => simp [RowKit.intOf]
    · go_wp2_with fail
      refine plain_Z 13 (fun w' => (w'.cell? ⟨A, 4, none⟩ = some (.int .i64 p4) ∧ w'.cell? ⟨A, 5, none⟩ = some (.int .i64 p5))) (by kernel_rfl) ?_
      have X0 := C0.drew
      have hHeld : (fun w' => (w'.cell? ⟨A, 4, none⟩ = some (.int .i64 p4) ∧ w'.cell? ⟨A, 5, none⟩ = some (.int .i64 p5))) wr.drew := ⟨X0.fact (.tail _ (.head _)) (i := 4) rfl, X0.fact (.tail _ (.head _)) (i := 5) rfl⟩
      generalize wr.drew = w5 at *
      clear C0
      try dsimp only at hHeld
      refine wpAnyZ_take (i := 0) (oi := ⟨some 19, Op.move (Operand.tmp 6), 3, _, _, none⟩) (oz := ⟨none, Op.store 24 (Operand.tmp 31) (Operand.tmp 30), 0, _, _, none⟩) (v := .int .i64 2) rfl rfl (by kernel_rfl) (fun _ _ _ h => h) (by rfl) (by assumption) (fun wS hSw => ?_) ?_
      · (try dsimp only at hSw); go_simp
      simp only [Act.put, List.setIfInBounds_toArray, List.set_cons_zero, List.set_cons_succ]
      refine wpAnyZ_take (i := 1) (oi := ⟨some 20, Op.move (Operand.tmp 6), 3, _, _, none⟩) (oz := ⟨none, Op.store 24 (Operand.tmp 31) (Operand.tmp 30), 0, _, _, none⟩) (v := .int .i64 2) rfl rfl (by kernel_rfl) (fun _ _ _ h => h) (by rfl) (by assumption) (fun wS hSw => ?_) ?_
      · (try dsimp only at hSw); go_simp
      simp only [Act.put, List.setIfInBounds_toArray, List.set_cons_zero, List.set_cons_succ]
      refine wpAnyZ_take (i := 2) (oi := ⟨some 21, Op.indexAddr 37 (Operand.tmp 2) (Operand.tmp 20), 0, _, _, none⟩) (oz := ⟨none, Op.store 24 (Operand.tmp 31) (Operand.tmp 30), 0, _, _, none⟩) (v := .pointer (some ⟨A, 4, none⟩)) rfl rfl (by kernel_rfl) (fun _ _ _ h => h) (by rfl) (by assumption) (fun wS hSw => ?_) ?_
      · (try dsimp only at hSw); go_simp
      simp only [Act.put, List.setIfInBounds_toArray, List.set_cons_zero, List.set_cons_succ]
      refine wpAnyZ_take (i := 3) (oi := ⟨some 22, Op.fieldAddr 24 (Operand.tmp 21) 0, 0, _, _, none⟩) (oz := ⟨none, Op.store 24 (Operand.tmp 31) (Operand.tmp 30), 0, _, _, none⟩) (v := .pointer (some ⟨A, 4, none⟩)) rfl rfl (by kernel_rfl) (fun _ _ _ h => h) (by rfl) (by assumption) (fun wS hSw => ?_) ?_
      · (try dsimp only at hSw); go_simp
      simp only [Act.put, List.setIfInBounds_toArray, List.set_cons_zero, List.set_cons_succ]
      refine wpAnyZ_take (i := 4) (oi := ⟨some 23, Op.load 3 (Operand.tmp 22), 3, _, _, none⟩) (oz := ⟨none, Op.store 24 (Operand.tmp 31) (Operand.tmp 30), 0, _, _, none⟩) (v := .int .i64 p4) rfl rfl (by kernel_rfl) (fun _ _ _ h => h) (by rfl) (by assumption) (fun wS hSw => ?_) ?_
      · (try dsimp only at hSw); go_simp
      simp only [Act.put, List.setIfInBounds_toArray, List.set_cons_zero, List.set_cons_succ]
      refine wpAnyZ_take (i := 5) (oi := ⟨some 24, Op.binOp BinOp.rem 3 (Operand.tmp 23) (Operand.const (Value.int IntKind.i64 100)) 3, 3, _, _, none⟩) (oz := ⟨none, Op.store 24 (Operand.tmp 31) (Operand.tmp 30), 0, _, _, none⟩) (v := .int .i64 q4) rfl rfl (by kernel_rfl) (fun _ _ _ h => h) (by rfl) (by assumption) (fun wS hSw => ?_) ?_
      · (try dsimp only at hSw); go_simp
      simp only [Act.put, List.setIfInBounds_toArray, List.set_cons_zero, List.set_cons_succ]
      refine wpAnyZ_take (i := 6) (oi := ⟨some 25, Op.move (Operand.tmp 6), 3, _, _, none⟩) (oz := ⟨none, Op.store 24 (Operand.tmp 31) (Operand.tmp 30), 0, _, _, none⟩) (v := .int .i64 2) rfl rfl (by kernel_rfl) (fun _ _ _ h => h) (by rfl) (by assumption) (fun wS hSw => ?_) ?_
      · (try dsimp only at hSw); go_simp
      simp only [Act.put, List.setIfInBounds_toArray, List.set_cons_zero, List.set_cons_succ]
      refine wpAnyZ_take (i := 7) (oi := ⟨some 26, Op.indexAddr 37 (Operand.tmp 2) (Operand.tmp 25), 0, _, _, none⟩) (oz := ⟨none, Op.store 24 (Operand.tmp 31) (Operand.tmp 30), 0, _, _, none⟩) (v := .pointer (some ⟨A, 4, none⟩)) rfl rfl (by kernel_rfl) (fun _ _ _ h => h) (by rfl) (by assumption) (fun wS hSw => ?_) ?_
      · (try dsimp only at hSw); go_simp
      simp only [Act.put, List.setIfInBounds_toArray, List.set_cons_zero, List.set_cons_succ]
      refine wpAnyZ_take (i := 8) (oi := ⟨some 27, Op.fieldAddr 24 (Operand.tmp 26) 1, 0, _, _, none⟩) (oz := ⟨none, Op.store 24 (Operand.tmp 31) (Operand.tmp 30), 0, _, _, none⟩) (v := .pointer (some ⟨A, 5, none⟩)) rfl rfl (by kernel_rfl) (fun _ _ _ h => h) (by rfl) (by assumption) (fun wS hSw => ?_) ?_
      · (try dsimp only at hSw); go_simp
      simp only [Act.put, List.setIfInBounds_toArray, List.set_cons_zero, List.set_cons_succ]
      refine wpAnyZ_take (i := 9) (oi := ⟨some 28, Op.load 3 (Operand.tmp 27), 3, _, _, none⟩) (oz := ⟨none, Op.store 24 (Operand.tmp 31) (Operand.tmp 30), 0, _, _, none⟩) (v := .int .i64 p5) rfl rfl (by kernel_rfl) (fun _ _ _ h => h) (by rfl) (by assumption) (fun wS hSw => ?_) ?_
      · (try dsimp only at hSw); go_simp
      simp only [Act.put, List.setIfInBounds_toArray, List.set_cons_zero, List.set_cons_succ]
      refine wpAnyZ_take (i := 10) (oi := ⟨some 29, Op.binOp BinOp.rem 3 (Operand.tmp 28) (Operand.const (Value.int IntKind.i64 100)) 3, 3, _, _, none⟩) (oz := ⟨none, Op.store 24 (Operand.tmp 31) (Operand.tmp 30), 0, _, _, none⟩) (v := .int .i64 q5) rfl rfl (by kernel_rfl) (fun _ _ _ h => h) (by rfl) (by assumption) (fun wS hSw => ?_) ?_
      · (try dsimp only at hSw); go_simp
      simp only [Act.put, List.setIfInBounds_toArray, List.set_cons_zero, List.set_cons_succ]
      refine wpAnyZ_listed #[true, true, true, true, true, true, true, true, true, true, true, false, false, false] (by kernel_rfl) ?_
      refine wpAnyZ_one (i := 11) (o := ⟨some 30, Op.call { callee := Callee.value (Operand.func 13), args := #[Operand.tmp 24, Operand.tmp 29], argTypes := #[3, 3] }, 24, _, _, none⟩) (by kernel_rfl) rfl (fun K hK => ?_)
      go_simp
      go_at_call 13
      refine (Has.call X0 (at_any q4 q5 _)).mono ?_
      rintro e w6 ⟨rfl, X1⟩
      go_wp2_with fail
      try clear hHeld
      refine hK.out _ _ (⟨X1.fact (.tail _ (.head _)) (i := 4) rfl, X1.fact (.tail _ (.head _)) (i := 5) rfl⟩) (fun hHeld => ?_)
      clear hK K
      try simp only [List.setIfInBounds_toArray, List.set_cons_zero, List.set_cons_succ]
      refine wpAnyZ_listed #[true, true, true, true, true, true, true, true, true, true, true, true, false, false] (by kernel_rfl) ?_
      refine wpAnyZ_take (i := 12) (oi := ⟨some 31, Op.indexAddr 37 (Operand.tmp 2) (Operand.tmp 19), 0, _, _, none⟩) (oz := ⟨none, Op.store 24 (Operand.tmp 31) (Operand.tmp 30), 0, _, _, none⟩) (v := .pointer (some ⟨A, 4, none⟩)) rfl rfl (by kernel_rfl) (fun _ _ _ h => h) (by rfl) (by assumption) (fun wS hSw => ?_) ?_
      · (try dsimp only at hSw); go_simp
      simp only [Act.put, List.setIfInBounds_toArray, List.set_cons_zero, List.set_cons_succ]
      refine wpAnyZ_listed #[true, true, true, true, true, true, true, true, true, true, true, true, true, false] (by kernel_rfl) ?_
      refine wpAnyZ_step (o := ⟨none, Op.store 24 (Operand.tmp 31) (Operand.tmp 30), 0, _, _, none⟩) (by kernel_rfl) (by decide) rfl (fun K hK => ?_)
      have f0 := X1.free (.tail _ (.head _)) (i := 4) rfl
      have f1 := X1.free (.tail _ (.head _)) (i := 5) rfl
      have k0 := X1.fact (.tail _ (.head _)) (i := 4) rfl
      have k1 := X1.fact (.tail _ (.head _)) (i := 5) rfl
      go_simp
      have C7 : Has w [(B, [.int .u8 u0, .int .u8 u1]), (A, [.int .i64 q0, .int .i64 q1, .int .i64 q2, .int .i64 q3, .int .i64 q4, .int .i64 q5])] ((w6.setCell ⟨A, 4, none⟩ (.int .i64 q4)).setCell ⟨A, 5, none⟩ (.int .i64 q5)) := ((X1.swap.set 4 (by simp) (.int .i64 q4)).set 5 (by simp) (.int .i64 q5)).swap
      generalize (w6.setCell ⟨A, 4, none⟩ (.int .i64 q4)).setCell ⟨A, 5, none⟩ (.int .i64 q5) = w7 at *
      clear f0 f1 k0 k1 X1
      try clear hHeld
      refine hK.out _ _ ?_
      clear hK K
      try simp only [List.setIfInBounds_toArray, List.set_cons_zero, List.set_cons_succ]
      refine wpAnyH_listed #[true, true, true, true, true, true, true, true, true, true, true, true, true, true] (by kernel_rfl) ?_
      have hHeld := True.intro
      refine wpAnyH_done (by kernel_rfl) ?_ _
      refine Calm.normal ?_
      go_wp2_with fail
      go_roundw
      case rel => exact .inr (.inr (.inr ⟨rfl, C7⟩))
      case measure => simp [RowKit.intOf]
    · clear hq0 hq1 hq2 hq3 hq4 hq5
      obtain ⟨m, hm⟩ : ∃ m, 1 + u0.tmod 50 = m := ⟨_, rfl⟩
      obtain ⟨n, hn⟩ : ∃ n, 1 + u1.tmod 50 = n := ⟨_, rfl⟩
      have b0 := u8_mod hu0
      have b1 := u8_mod hu1
      have bm : 1 ≤ m ∧ m ≤ 50 := by omega
      have bn : 1 ≤ n ∧ n ≤ 50 := by omega
      have wu0 : IntKind.i64.wrap u0 = u0 := IntWalk.i64_in _ (by omega)
      have wu1 : IntKind.i64.wrap u1 = u1 := IntWalk.i64_in _ (by omega)
      have wm : IntKind.i64.wrap m = m := IntWalk.i64_in _ (by omega)
      have wn : IntKind.i64.wrap n = n := IntWalk.i64_in _ (by omega)
      go_upto_region 7 with fail
      have HS := Lib.hid (show ∀ w', Has w [(B, [.int .u8 u0, .int .u8 u1]), (A, [.int .i64 q0, .int .i64 q1, .int .i64 q2, .int .i64 q3, .int .i64 q4, .int .i64 q5])] w' → w'.cell? ⟨B, 0, none⟩ = some (.int .u8 u0) ∧ w'.cell? ⟨B, 1, none⟩ = some (.int .u8 u1) from fun w' h => ⟨h.fact (.head _) (i := 0) rfl, h.fact (.head _) (i := 1) rfl⟩)
      have Cd := C0.drew
      refine wp_region_held_drew (S := fun w' => w'.cell? ⟨B, 0, none⟩ = some (.int .u8 u0) ∧ w'.cell? ⟨B, 1, none⟩ = some (.int .u8 u1)) (by kernel_rfl) (HS.out _ Cd) (fun hHeld => ?_)
      clear C0
      generalize wr.drew = w5 at *
      refine wpAnyT_begin [0, 1, 2, 5, 6, 7] (by kernel_rfl) (by kernel_rfl) ?_
      refine wpAnyT_take (oi := ⟨some 33, Op.indexAddr 44 (Operand.tmp 3) (Operand.const (Value.int IntKind.i64 0)), 0, _, _, none⟩) (v := .pointer (some ⟨B, 0, none⟩)) rfl (fun _ _ _ h => h) (by rfl) (by assumption) (fun wS hSw => ?_) ?_
      · (try dsimp only at hSw); go_simp
      simp only [Act.put, List.setIfInBounds_toArray, List.set_cons_zero, List.set_cons_succ]
      refine wpAnyT_take (oi := ⟨some 34, Op.load 5 (Operand.tmp 33), 5, _, _, none⟩) (v := .int .u8 u0) rfl (fun _ _ _ h => h) (by rfl) (by assumption) (fun wS hSw => ?_) ?_
      · (try dsimp only at hSw); go_simp
      simp only [Act.put, List.setIfInBounds_toArray, List.set_cons_zero, List.set_cons_succ]
      refine wpAnyT_take (oi := ⟨some 35, Op.convert 5 3 (Operand.tmp 34), 3, _, _, none⟩) (v := .int .i64 u0) rfl (fun _ _ _ h => h) (by rfl) (by assumption) (fun wS hSw => ?_) ?_
      · (try dsimp only at hSw); go_simp
      simp only [Act.put, List.setIfInBounds_toArray, List.set_cons_zero, List.set_cons_succ]
      refine wpAnyT_take (oi := ⟨some 38, Op.indexAddr 44 (Operand.tmp 3) (Operand.const (Value.int IntKind.i64 1)), 0, _, _, none⟩) (v := .pointer (some ⟨B, 1, none⟩)) rfl (fun _ _ _ h => h) (by rfl) (by assumption) (fun wS hSw => ?_) ?_
      · (try dsimp only at hSw); go_simp
      simp only [Act.put, List.setIfInBounds_toArray, List.set_cons_zero, List.set_cons_succ]
      refine wpAnyT_take (oi := ⟨some 39, Op.load 5 (Operand.tmp 38), 5, _, _, none⟩) (v := .int .u8 u1) rfl (fun _ _ _ h => h) (by rfl) (by assumption) (fun wS hSw => ?_) ?_
      · (try dsimp only at hSw); go_simp
      simp only [Act.put, List.setIfInBounds_toArray, List.set_cons_zero, List.set_cons_succ]
      refine wpAnyT_take (oi := ⟨some 40, Op.convert 5 3 (Operand.tmp 39), 3, _, _, none⟩) (v := .int .i64 u1) rfl (fun _ _ _ h => h) (by rfl) (by assumption) (fun wS hSw => ?_) ?_
      · (try dsimp only at hSw); go_simp
      simp only [Act.put, List.setIfInBounds_toArray, List.set_cons_zero, List.set_cons_succ]
      refine wpAnyT_end ?_
      refine wpAnyH_listed #[true, true, true, false, false, true, true, true, false, false, false, false] (by kernel_rfl) ?_
      refine wpAnyT_begin [3, 8] (by kernel_rfl) (by kernel_rfl) ?_
      refine wpAnyT_take (oi := ⟨some 36, Op.binOp BinOp.rem 3 (Operand.tmp 35) (Operand.const (Value.int IntKind.i64 50)) 3, 3, _, _, none⟩) (v := .int .i64 (u0.tmod 50)) rfl (fun _ _ _ h => h) (by rfl) (by assumption) (fun wS hSw => ?_) ?_
      · (try dsimp only at hSw); go_simp
      simp only [Act.put, List.setIfInBounds_toArray, List.set_cons_zero, List.set_cons_succ]
      refine wpAnyT_take (oi := ⟨some 41, Op.binOp BinOp.rem 3 (Operand.tmp 40) (Operand.const (Value.int IntKind.i64 50)) 3, 3, _, _, none⟩) (v := .int .i64 (u1.tmod 50)) rfl (fun _ _ _ h => h) (by rfl) (by assumption) (fun wS hSw => ?_) ?_
      · (try dsimp only at hSw); go_simp
      simp only [Act.put, List.setIfInBounds_toArray, List.set_cons_zero, List.set_cons_succ]
      refine wpAnyT_end ?_
      refine wpAnyH_listed #[true, true, true, true, false, true, true, true, true, false, false, false] (by kernel_rfl) ?_
      refine wpAnyT_begin [4, 9] (by kernel_rfl) (by kernel_rfl) ?_
      refine wpAnyT_take (oi := ⟨some 37, Op.binOp BinOp.add 3 (Operand.const (Value.int IntKind.i64 1)) (Operand.tmp 36) 3, 3, _, _, none⟩) (v := .int .i64 m) rfl (fun _ _ _ h => h) (by rfl) (by assumption) (fun wS hSw => ?_) ?_
      · (try dsimp only at hSw); go_simp
      simp only [Act.put, List.setIfInBounds_toArray, List.set_cons_zero, List.set_cons_succ]
      refine wpAnyT_take (oi := ⟨some 42, Op.binOp BinOp.add 3 (Operand.const (Value.int IntKind.i64 1)) (Operand.tmp 41) 3, 3, _, _, none⟩) (v := .int .i64 n) rfl (fun _ _ _ h => h) (by rfl) (by assumption) (fun wS hSw => ?_) ?_
      · (try dsimp only at hSw); go_simp
      simp only [Act.put, List.setIfInBounds_toArray, List.set_cons_zero, List.set_cons_succ]
      refine wpAnyT_end ?_
      refine wpAnyH_listed #[true, true, true, true, true, true, true, true, true, true, false, false] (by kernel_rfl) ?_
      refine wpAnyT_begin [10] (by kernel_rfl) (by kernel_rfl) ?_
      refine wpAnyT_take (oi := ⟨some 7, Op.assign (Operand.tmp 37), 3, _, _, none⟩) (v := .int .i64 m) rfl (fun _ _ _ h => h) (by rfl) (by assumption) (fun wS hSw => ?_) ?_
      · (try dsimp only at hSw); go_simp
      simp only [Act.put, List.setIfInBounds_toArray, List.set_cons_zero, List.set_cons_succ]
      refine wpAnyT_end ?_
      refine wpAnyH_listed #[true, true, true, true, true, true, true, true, true, true, true, false] (by kernel_rfl) ?_
      refine wpAnyT_begin [11] (by kernel_rfl) (by kernel_rfl) ?_
      refine wpAnyT_take (oi := ⟨some 8, Op.assign (Operand.tmp 42), 3, _, _, none⟩) (v := .int .i64 n) rfl (fun _ _ _ h => h) (by rfl) (by assumption) (fun wS hSw => ?_) ?_
      · (try dsimp only at hSw); go_simp
      simp only [Act.put, List.setIfInBounds_toArray, List.set_cons_zero, List.set_cons_succ]
      refine wpAnyT_end ?_
      refine wpAnyH_listed #[true, true, true, true, true, true, true, true, true, true, true, true] (by kernel_rfl) ?_
      refine wpAnyH_done (by kernel_rfl) ?_ _
      clear hHeld
      clear HS wu0 wu1 wm wn b0 b1 hm hn
      go_upto_region 8 with fail
      have X0 := Cd.drew
      clear Cd
      have ms1 := Lib.hid (show ∀ w', Has w [(B, [.int .u8 u0, .int .u8 u1]), (A, [.int .i64 q0, .int .i64 q1, .int .i64 q2, .int .i64 q3, .int .i64 q4, .int .i64 q5])] w' → (w'.cell? ⟨A, 0, none⟩ = some (.int .i64 q0) ∧ w'.cell? ⟨A, 1, none⟩ = some (.int .i64 q1) ∧ w'.cell? ⟨A, 2, none⟩ = some (.int .i64 q2) ∧ w'.cell? ⟨A, 3, none⟩ = some (.int .i64 q3) ∧ w'.cell? ⟨A, 4, none⟩ = some (.int .i64 q4) ∧ w'.cell? ⟨A, 5, none⟩ = some (.int .i64 q5)) ∧ Has w [(B, [.int .u8 u0, .int .u8 u1]), (A, [.int .i64 q0, .int .i64 q1, .int .i64 q2, .int .i64 q3, .int .i64 q4, .int .i64 q5])] w' from fun w' h => ⟨⟨h.tail.fact (.head _) (i := 0) rfl, h.tail.fact (.head _) (i := 1) rfl, h.tail.fact (.head _) (i := 2) rfl, h.tail.fact (.head _) (i := 3) rfl, h.tail.fact (.head _) (i := 4) rfl, h.tail.fact (.head _) (i := 5) rfl⟩, h⟩)
      refine wp_region_held_drew (S := (fun w' => (w'.cell? ⟨A, 0, none⟩ = some (.int .i64 q0) ∧ w'.cell? ⟨A, 1, none⟩ = some (.int .i64 q1) ∧ w'.cell? ⟨A, 2, none⟩ = some (.int .i64 q2) ∧ w'.cell? ⟨A, 3, none⟩ = some (.int .i64 q3) ∧ w'.cell? ⟨A, 4, none⟩ = some (.int .i64 q4) ∧ w'.cell? ⟨A, 5, none⟩ = some (.int .i64 q5)) ∧ Has w [(B, [.int .u8 u0, .int .u8 u1]), (A, [.int .i64 q0, .int .i64 q1, .int .i64 q2, .int .i64 q3, .int .i64 q4, .int .i64 q5])] w')) (by kernel_rfl) (ms1.out _ X0) (fun hHeld => ?_)
      refine wpAnyT_begin [0, 1, 2, 3, 4, 5] (by kernel_rfl) (by kernel_rfl) ?_
      refine wpAnyT_take (oi := ⟨some 43, Op.indexAddr 37 (Operand.tmp 2) (Operand.const (Value.int IntKind.i64 0)), 0, _, _, none⟩) (v := .pointer (some ⟨A, 0, none⟩)) rfl (fun _ _ _ h => h) (by rfl) (by assumption) (fun wS hSw => ?_) ?_
      · (try dsimp only at hSw); go_simp
      simp only [Act.put, List.setIfInBounds_toArray, List.set_cons_zero, List.set_cons_succ]
      refine wpAnyT_take (oi := ⟨some 44, Op.fieldAddr 24 (Operand.tmp 43) 0, 0, _, _, none⟩) (v := .pointer (some ⟨A, 0, none⟩)) rfl (fun _ _ _ h => h) (by rfl) (by assumption) (fun wS hSw => ?_) ?_
      · (try dsimp only at hSw); go_simp
      simp only [Act.put, List.setIfInBounds_toArray, List.set_cons_zero, List.set_cons_succ]
      refine wpAnyT_take (oi := ⟨some 45, Op.load 3 (Operand.tmp 44), 3, _, _, none⟩) (v := .int .i64 q0) rfl (fun _ _ _ h => h) (by rfl) (by assumption) (fun wS hSw => ?_) ?_
      · (try dsimp only at hSw); go_simp
      simp only [Act.put, List.setIfInBounds_toArray, List.set_cons_zero, List.set_cons_succ]
      refine wpAnyT_take (oi := ⟨some 46, Op.indexAddr 37 (Operand.tmp 2) (Operand.const (Value.int IntKind.i64 0)), 0, _, _, none⟩) (v := .pointer (some ⟨A, 0, none⟩)) rfl (fun _ _ _ h => h) (by rfl) (by assumption) (fun wS hSw => ?_) ?_
      · (try dsimp only at hSw); go_simp
      simp only [Act.put, List.setIfInBounds_toArray, List.set_cons_zero, List.set_cons_succ]
      refine wpAnyT_take (oi := ⟨some 47, Op.fieldAddr 24 (Operand.tmp 46) 1, 0, _, _, none⟩) (v := .pointer (some ⟨A, 1, none⟩)) rfl (fun _ _ _ h => h) (by rfl) (by assumption) (fun wS hSw => ?_) ?_
      · (try dsimp only at hSw); go_simp
      simp only [Act.put, List.setIfInBounds_toArray, List.set_cons_zero, List.set_cons_succ]
      refine wpAnyT_take (oi := ⟨some 48, Op.load 3 (Operand.tmp 47), 3, _, _, none⟩) (v := .int .i64 q1) rfl (fun _ _ _ h => h) (by rfl) (by assumption) (fun wS hSw => ?_) ?_
      · (try dsimp only at hSw); go_simp
      simp only [Act.put, List.setIfInBounds_toArray, List.set_cons_zero, List.set_cons_succ]
      refine wpAnyT_end ?_
      refine wpAnyH_listed #[true, true, true, true, true, true, false, false, false, false, false, false, false, false, false, false, false, false] (by kernel_rfl) ?_
      refine wpAnyT_begin [6, 7, 8, 9, 10, 11] (by kernel_rfl) (by kernel_rfl) ?_
      refine wpAnyT_take (oi := ⟨some 49, Op.build 39 #[(0, Operand.tmp 45), (1, Operand.tmp 48), (2, Operand.const (Value.int IntKind.i64 1))], 39, _, _, none⟩) (v := .agg #[.int .i64 q0, .int .i64 q1, .int .i64 1]) rfl (fun _ _ _ h => h) (by rfl) (by assumption) (fun wS hSw => ?_) ?_
      · (try dsimp only at hSw); go_simp
      simp only [Act.put, List.setIfInBounds_toArray, List.set_cons_zero, List.set_cons_succ]
      refine wpAnyT_take (oi := ⟨some 50, Op.indexAddr 37 (Operand.tmp 2) (Operand.const (Value.int IntKind.i64 1)), 0, _, _, none⟩) (v := .pointer (some ⟨A, 2, none⟩)) rfl (fun _ _ _ h => h) (by rfl) (by assumption) (fun wS hSw => ?_) ?_
      · (try dsimp only at hSw); go_simp
      simp only [Act.put, List.setIfInBounds_toArray, List.set_cons_zero, List.set_cons_succ]
      refine wpAnyT_take (oi := ⟨some 51, Op.fieldAddr 24 (Operand.tmp 50) 0, 0, _, _, none⟩) (v := .pointer (some ⟨A, 2, none⟩)) rfl (fun _ _ _ h => h) (by rfl) (by assumption) (fun wS hSw => ?_) ?_
      · (try dsimp only at hSw); go_simp
      simp only [Act.put, List.setIfInBounds_toArray, List.set_cons_zero, List.set_cons_succ]
      refine wpAnyT_take (oi := ⟨some 52, Op.load 3 (Operand.tmp 51), 3, _, _, none⟩) (v := .int .i64 q2) rfl (fun _ _ _ h => h) (by rfl) (by assumption) (fun wS hSw => ?_) ?_
      · (try dsimp only at hSw); go_simp
      simp only [Act.put, List.setIfInBounds_toArray, List.set_cons_zero, List.set_cons_succ]
      refine wpAnyT_take (oi := ⟨some 53, Op.indexAddr 37 (Operand.tmp 2) (Operand.const (Value.int IntKind.i64 1)), 0, _, _, none⟩) (v := .pointer (some ⟨A, 2, none⟩)) rfl (fun _ _ _ h => h) (by rfl) (by assumption) (fun wS hSw => ?_) ?_
      · (try dsimp only at hSw); go_simp
      simp only [Act.put, List.setIfInBounds_toArray, List.set_cons_zero, List.set_cons_succ]
      refine wpAnyT_take (oi := ⟨some 54, Op.fieldAddr 24 (Operand.tmp 53) 1, 0, _, _, none⟩) (v := .pointer (some ⟨A, 3, none⟩)) rfl (fun _ _ _ h => h) (by rfl) (by assumption) (fun wS hSw => ?_) ?_
      · (try dsimp only at hSw); go_simp
      simp only [Act.put, List.setIfInBounds_toArray, List.set_cons_zero, List.set_cons_succ]
      refine wpAnyT_end ?_
      refine wpAnyH_listed #[true, true, true, true, true, true, true, true, true, true, true, true, false, false, false, false, false, false] (by kernel_rfl) ?_
      refine wpAnyT_begin [12, 13] (by kernel_rfl) (by kernel_rfl) ?_
      refine wpAnyT_take (oi := ⟨some 55, Op.load 3 (Operand.tmp 54), 3, _, _, none⟩) (v := .int .i64 q3) rfl (fun _ _ _ h => h) (by rfl) (by assumption) (fun wS hSw => ?_) ?_
      · (try dsimp only at hSw); go_simp
      simp only [Act.put, List.setIfInBounds_toArray, List.set_cons_zero, List.set_cons_succ]
      refine wpAnyT_take (oi := ⟨some 56, Op.build 39 #[(0, Operand.tmp 52), (1, Operand.tmp 55), (2, Operand.const (Value.int IntKind.i64 1))], 39, _, _, none⟩) (v := .agg #[.int .i64 q2, .int .i64 q3, .int .i64 1]) rfl (fun _ _ _ h => h) (by rfl) (by assumption) (fun wS hSw => ?_) ?_
      · (try dsimp only at hSw); go_simp
      simp only [Act.put, List.setIfInBounds_toArray, List.set_cons_zero, List.set_cons_succ]
      refine wpAnyT_end ?_
      refine wpAnyH_listed #[true, true, true, true, true, true, true, true, true, true, true, true, true, true, false, false, false, false] (by kernel_rfl) ?_
      refine any_ind (X := Sta) (n := fun sx => (0 - sx.n) + (if sx.a.isSome then 0 else 1) + (if sx.b.isSome then 0 else 1)) (l := fun sx => #[true, true, true, true, true, true, true, true, true, true, true, true, true, true, sx.a.isSome, sx.b.isSome, false, false]) (u := fun sx t => (putp 9 sx.a (putp 10 sx.b t))) (I := fun sx w' => sx.n ≤ 0 ∧ Has w (bl [.int .i64 0, .int .i64 0, .int .i64 0] sx.a (bl [.int .i64 0, .int .i64 0, .int .i64 0] sx.b [(B, [.int .u8 u0, .int .u8 u1]), (A, [.int .i64 q0, .int .i64 q1, .int .i64 q2, .int .i64 q3, .int .i64 q4, .int .i64 q5])])) w') (m := 2) ⟨none, none, none, 0⟩ (by kernel_rfl) (by kernel_rfl) (by kernel_rfl) ⟨Nat.zero_le _, X0⟩ ?_ ?_
      · rintro k ih ⟨pa, pb, pc, c⟩ w2 hk ⟨hc, hH⟩
        clear hHeld
        obtain rfl : c = 0 := by simp only at hc; omega
        · cases pa with
          | none =>
            cases pb with
            | none =>
              simp only [Option.isSome, Bool.false_eq_true, if_false, if_true] at hk
              simp only [putc, putp, Act.put, decide_eq_true_eq, decide_true, decide_false, Nat.le_refl, Nat.reduceLeDiff, List.setIfInBounds_toArray, List.set_cons_zero, List.set_cons_succ]
              refine wpAnyH_listed #[true, true, true, true, true, true, true, true, true, true, true, true, true, true, false, false, false, false] (by kernel_rfl) ?_
              refine wpAnyH_ready (rs := [14, 15]) (by kernel_rfl) (by simp) ?_
              refine AllReadyH.cons (o := ⟨some 9, Op.alloc 39, 0, _, _, none⟩) rfl (fun K hK => ?_) (?_)
              · go_simp
                have hC := (hH.push [.int .i64 0, .int .i64 0, .int .i64 0] 39)
                change Has w _ (w2.alloc (.cells #[.int .i64 0, .int .i64 0, .int .i64 0] 39)) at hC
                generalize w2.alloc (.cells #[.int .i64 0, .int .i64 0, .int .i64 0] 39) = W at *
                generalize w2.heap.size = E at *
                have hC' : Has w ([(E, [.int .i64 0, .int .i64 0, .int .i64 0])] ++ [(B, [.int .u8 u0, .int .u8 u1]), (A, [.int .i64 q0, .int .i64 q1, .int .i64 q2, .int .i64 q3, .int .i64 q4, .int .i64 q5])]) W := hC
                refine hK.out _ _ (ms1.out _ (hC.tail)) (fun _ => ?_)
                exact wpAnyH_cast rfl (by kernel_rfl) (by kernel_rfl) (ih ⟨some E, none, pc, 0⟩ _ (by simp only [Option.isSome, Bool.false_eq_true, if_false, if_true]; omega) ⟨by simp, hC⟩)
              refine AllReadyH.cons (o := ⟨some 10, Op.alloc 39, 0, _, _, none⟩) rfl (fun K hK => ?_) (AllReadyH.nil)
              · go_simp
                have hC := (hH.push [.int .i64 0, .int .i64 0, .int .i64 0] 39)
                change Has w _ (w2.alloc (.cells #[.int .i64 0, .int .i64 0, .int .i64 0] 39)) at hC
                generalize w2.alloc (.cells #[.int .i64 0, .int .i64 0, .int .i64 0] 39) = W at *
                generalize w2.heap.size = F at *
                have hC' : Has w ([(F, [.int .i64 0, .int .i64 0, .int .i64 0])] ++ [(B, [.int .u8 u0, .int .u8 u1]), (A, [.int .i64 q0, .int .i64 q1, .int .i64 q2, .int .i64 q3, .int .i64 q4, .int .i64 q5])]) W := hC
                refine hK.out _ _ (ms1.out _ (hC.tail)) (fun _ => ?_)
                exact wpAnyH_cast rfl (by kernel_rfl) (by kernel_rfl) (ih ⟨none, some F, pc, 0⟩ _ (by simp only [Option.isSome, Bool.false_eq_true, if_false, if_true]; omega) ⟨by simp, hC⟩)
            | some F =>
              simp only [Option.isSome, Bool.false_eq_true, if_false, if_true] at hk
              simp only [putc, putp, Act.put, decide_eq_true_eq, decide_true, decide_false, Nat.le_refl, Nat.reduceLeDiff, List.setIfInBounds_toArray, List.set_cons_zero, List.set_cons_succ]
              refine wpAnyH_listed #[true, true, true, true, true, true, true, true, true, true, true, true, true, true, false, true, false, false] (by kernel_rfl) ?_
              refine wpAnyH_ready (rs := [14]) (by kernel_rfl) (by simp) ?_
              refine AllReadyH.cons (o := ⟨some 9, Op.alloc 39, 0, _, _, none⟩) rfl (fun K hK => ?_) (AllReadyH.nil)
              · go_simp
                have hC := (hH.push [.int .i64 0, .int .i64 0, .int .i64 0] 39)
                change Has w _ (w2.alloc (.cells #[.int .i64 0, .int .i64 0, .int .i64 0] 39)) at hC
                generalize w2.alloc (.cells #[.int .i64 0, .int .i64 0, .int .i64 0] 39) = W at *
                generalize w2.heap.size = E at *
                have hC' : Has w ([(E, [.int .i64 0, .int .i64 0, .int .i64 0]), (F, [.int .i64 0, .int .i64 0, .int .i64 0])] ++ [(B, [.int .u8 u0, .int .u8 u1]), (A, [.int .i64 q0, .int .i64 q1, .int .i64 q2, .int .i64 q3, .int .i64 q4, .int .i64 q5])]) W := hC
                refine hK.out _ _ (ms1.out _ (hC.tail.tail)) (fun _ => ?_)
                exact wpAnyH_cast rfl (by kernel_rfl) (by kernel_rfl) (ih ⟨some E, some F, pc, 0⟩ _ (by simp only [Option.isSome, Bool.false_eq_true, if_false, if_true]; omega) ⟨by simp, hC⟩)
          | some E =>
            cases pb with
            | none =>
              simp only [Option.isSome, Bool.false_eq_true, if_false, if_true] at hk
              simp only [putc, putp, Act.put, decide_eq_true_eq, decide_true, decide_false, Nat.le_refl, Nat.reduceLeDiff, List.setIfInBounds_toArray, List.set_cons_zero, List.set_cons_succ]
              refine wpAnyH_listed #[true, true, true, true, true, true, true, true, true, true, true, true, true, true, true, false, false, false] (by kernel_rfl) ?_
              refine wpAnyH_ready (rs := [15]) (by kernel_rfl) (by simp) ?_
              refine AllReadyH.cons (o := ⟨some 10, Op.alloc 39, 0, _, _, none⟩) rfl (fun K hK => ?_) (AllReadyH.nil)
              · go_simp
                have hC := (hH.push [.int .i64 0, .int .i64 0, .int .i64 0] 39).swap
                change Has w _ (w2.alloc (.cells #[.int .i64 0, .int .i64 0, .int .i64 0] 39)) at hC
                generalize w2.alloc (.cells #[.int .i64 0, .int .i64 0, .int .i64 0] 39) = W at *
                generalize w2.heap.size = F at *
                have hC' : Has w ([(E, [.int .i64 0, .int .i64 0, .int .i64 0]), (F, [.int .i64 0, .int .i64 0, .int .i64 0])] ++ [(B, [.int .u8 u0, .int .u8 u1]), (A, [.int .i64 q0, .int .i64 q1, .int .i64 q2, .int .i64 q3, .int .i64 q4, .int .i64 q5])]) W := hC
                refine hK.out _ _ (ms1.out _ (hC.tail.tail)) (fun _ => ?_)
                exact wpAnyH_cast rfl (by kernel_rfl) (by kernel_rfl) (ih ⟨some E, some F, pc, 0⟩ _ (by simp only [Option.isSome, Bool.false_eq_true, if_false, if_true]; omega) ⟨by simp, hC⟩)
            | some F =>
              exact absurd hk (by simp)
      rintro ⟨pa, pb, pc, c⟩ w2 hk ⟨hc, hH⟩
      obtain ⟨E, F, rfl, rfl, rfl⟩ : ∃ E F, pa = some E ∧ pb = some F ∧ c = 0 := by
        cases pa <;> cases pb <;> simp only [Option.isSome, Bool.false_eq_true, if_false, if_true] at hk <;> simp only at hc <;> first | exact ⟨_, _, rfl, rfl, by omega⟩ | omega
      simp only [putc, putp, Act.put, decide_eq_true_eq, decide_true, decide_false, Nat.le_refl, Nat.reduceLeDiff, List.setIfInBounds_toArray, List.set_cons_zero, List.set_cons_succ]
      have XA := hH
      change Has w [(E, [.int .i64 0, .int .i64 0, .int .i64 0]), (F, [.int .i64 0, .int .i64 0, .int .i64 0]), (B, [.int .u8 u0, .int .u8 u1]), (A, [.int .i64 q0, .int .i64 q1, .int .i64 q2, .int .i64 q3, .int .i64 q4, .int .i64 q5])] w2 at XA
      clear hH hk hc
      refine wpAnyH_listed #[true, true, true, true, true, true, true, true, true, true, true, true, true, true, true, true, false, false] (by kernel_rfl) ?_
      refine wpAnyH_ready (rs := [16]) (by kernel_rfl) (by simp) ?_
      refine AllReadyH.cons (o := ⟨none, Op.store 39 (Operand.tmp 9) (Operand.tmp 49), 0, _, _, none⟩) rfl (fun K hK => ?_) AllReadyH.nil
      have k0 := XA.fact (.head _) (i := 0) rfl
      have k1 := XA.fact (.head _) (i := 1) rfl
      have k2 := XA.fact (.head _) (i := 2) rfl
      have f0 := XA.free (.head _) (i := 0) rfl
      have f1 := XA.free (.head _) (i := 1) rfl
      have f2 := XA.free (.head _) (i := 2) rfl
      go_simp
      have XA0 : Has w [(E, [.int .i64 q0, .int .i64 q1, .int .i64 1]), (F, [.int .i64 0, .int .i64 0, .int .i64 0]), (B, [.int .u8 u0, .int .u8 u1]), (A, [.int .i64 q0, .int .i64 q1, .int .i64 q2, .int .i64 q3, .int .i64 q4, .int .i64 q5])] (World.setCell (World.setCell (World.setCell w2 ⟨E, 0, none⟩ (.int .i64 q0)) ⟨E, 1, none⟩ (.int .i64 q1)) ⟨E, 2, none⟩ (.int .i64 1)) := (XA.set3 (.int .i64 q0) (.int .i64 q1) (.int .i64 1))
      generalize (World.setCell (World.setCell (World.setCell w2 ⟨E, 0, none⟩ (.int .i64 q0)) ⟨E, 1, none⟩ (.int .i64 q1)) ⟨E, 2, none⟩ (.int .i64 1)) = wA0 at *
      clear k0 f0 k1 f1 k2 f2 XA
      clear hHeld
      refine hK.out _ _ (ms1.out _ XA0.tail.tail) (fun hHeld => ?_)
      clear hK K
      try simp only [List.setIfInBounds_toArray, List.set_cons_zero, List.set_cons_succ]
      refine wpAnyH_listed #[true, true, true, true, true, true, true, true, true, true, true, true, true, true, true, true, true, false] (by kernel_rfl) ?_
      refine wpAnyH_ready (rs := [17]) (by kernel_rfl) (by simp) ?_
      refine AllReadyH.cons (o := ⟨none, Op.store 39 (Operand.tmp 10) (Operand.tmp 56), 0, _, _, none⟩) rfl (fun K hK => ?_) AllReadyH.nil
      have k0 := XA0.tail.fact (.head _) (i := 0) rfl
      have k1 := XA0.tail.fact (.head _) (i := 1) rfl
      have k2 := XA0.tail.fact (.head _) (i := 2) rfl
      have f0 := XA0.tail.free (.head _) (i := 0) rfl
      have f1 := XA0.tail.free (.head _) (i := 1) rfl
      have f2 := XA0.tail.free (.head _) (i := 2) rfl
      go_simp
      have C7 : Has w [(E, [.int .i64 q0, .int .i64 q1, .int .i64 1]), (F, [.int .i64 q2, .int .i64 q3, .int .i64 1]), (B, [.int .u8 u0, .int .u8 u1]), (A, [.int .i64 q0, .int .i64 q1, .int .i64 q2, .int .i64 q3, .int .i64 q4, .int .i64 q5])] (World.setCell (World.setCell (World.setCell wA0 ⟨F, 0, none⟩ (.int .i64 q2)) ⟨F, 1, none⟩ (.int .i64 q3)) ⟨F, 2, none⟩ (.int .i64 1)) := (XA0.swap.set3 (.int .i64 q2) (.int .i64 q3) (.int .i64 1)).swap
      generalize (World.setCell (World.setCell (World.setCell wA0 ⟨F, 0, none⟩ (.int .i64 q2)) ⟨F, 1, none⟩ (.int .i64 q3)) ⟨F, 2, none⟩ (.int .i64 1)) = w7 at *
      clear k0 f0 k1 f1 k2 f2 XA0
      clear hHeld
      refine hK.out _ _ (ms1.out _ C7.tail.tail) (fun hHeld => ?_)
      clear hK K
      try simp only [List.setIfInBounds_toArray, List.set_cons_zero, List.set_cons_succ]
      refine wpAnyH_listed #[true, true, true, true, true, true, true, true, true, true, true, true, true, true, true, true, true, true] (by kernel_rfl) ?_
      refine wpAnyH_done (by kernel_rfl) ?_ _
      try clear hHeld
      clear X0 ms1
      obtain ⟨x0, hx0⟩ : ∃ x, m * q0 = x := ⟨_, rfl⟩
      have bx0 : -4950 ≤ x0 ∧ x0 ≤ 4950 := by have := mul_b99 bm bq0; omega
      have wx0 : IntKind.i64.wrap (m * q0) = x0 := by rw [hx0]; exact IntWalk.i64_in _ (by omega)
      obtain ⟨x1, hx1⟩ : ∃ x, m * q1 = x := ⟨_, rfl⟩
      have bx1 : -4950 ≤ x1 ∧ x1 ≤ 4950 := by have := mul_b99 bm bq1; omega
      have wx1 : IntKind.i64.wrap (m * q1) = x1 := by rw [hx1]; exact IntWalk.i64_in _ (by omega)
      obtain ⟨y0, hy0⟩ : ∃ x, n * q2 = x := ⟨_, rfl⟩
      have by0 : -4950 ≤ y0 ∧ y0 ≤ 4950 := by have := mul_b99 bn bq2; omega
      have wy0 : IntKind.i64.wrap (n * q2) = y0 := by rw [hy0]; exact IntWalk.i64_in _ (by omega)
      obtain ⟨y1, hy1⟩ : ∃ x, n * q3 = x := ⟨_, rfl⟩
      have by1 : -4950 ≤ y1 ∧ y1 ≤ 4950 := by have := mul_b99 bn bq3; omega
      have wy1 : IntKind.i64.wrap (n * q3) = y1 := by rw [hy1]; exact IntWalk.i64_in _ (by omega)
      have RS1 := ray_scale bm bn bq0 bq1 bq2 bq3 bq4 bq5
      have RS2 := ray_scale bn bm bq2 bq3 bq0 bq1 bq4 bq5
      have RS0 := ray_scale (m := 1) (n := 1) (by omega) (by omega) bq0 bq1 bq2 bq3 bq4 bq5
      rw [hx0, hx1, hy0, hy1] at RS1 RS2
      simp only [Int.one_mul] at RS0
      rw [ray_flip] at RS2
      obtain ⟨z, hz⟩ : ∃ z, rayOf q0 q1 q2 q3 q4 q5 = z := ⟨_, rfl⟩
      have hz2 := ray_flip q0 q1 q2 q3 q4 q5
      have hzb := rayOf_bd q0 q1 q2 q3 q4 q5
      rw [hz] at RS0 RS1 RS2 hz2 hzb
      have H0 := Lib.hid hz
      have H1 := Lib.hid hz2
      have H2 := Lib.hid RS0
      have H3 := Lib.hid RS1
      have H4 := Lib.hid RS2
      have wz : IntKind.i64.wrap (-z) = -z := IntWalk.i64_in _ (by omega)
      clear hz hz2 RS0 RS1 RS2 hx0 hx1 hy0 hy1
      go_upto_region 9 with fail
      have X0 := C7.drew
      clear C7
      have ms2 := Lib.hid (show ∀ w', Has w [(E, [.int .i64 q0, .int .i64 q1, .int .i64 1]), (F, [.int .i64 q2, .int .i64 q3, .int .i64 1]), (B, [.int .u8 u0, .int .u8 u1]), (A, [.int .i64 q0, .int .i64 q1, .int .i64 q2, .int .i64 q3, .int .i64 q4, .int .i64 q5])] w' → (w'.cell? ⟨E, 0, none⟩ = some (.int .i64 q0) ∧ w'.cell? ⟨E, 1, none⟩ = some (.int .i64 q1) ∧ w'.cell? ⟨E, 2, none⟩ = some (.int .i64 1) ∧ w'.cell? ⟨F, 0, none⟩ = some (.int .i64 q2) ∧ w'.cell? ⟨F, 1, none⟩ = some (.int .i64 q3) ∧ w'.cell? ⟨F, 2, none⟩ = some (.int .i64 1)) ∧ Has w [(E, [.int .i64 q0, .int .i64 q1, .int .i64 1]), (F, [.int .i64 q2, .int .i64 q3, .int .i64 1]), (B, [.int .u8 u0, .int .u8 u1]), (A, [.int .i64 q0, .int .i64 q1, .int .i64 q2, .int .i64 q3, .int .i64 q4, .int .i64 q5])] w' from fun w' h => ⟨⟨h.fact (.head _) (i := 0) rfl, h.fact (.head _) (i := 1) rfl, h.fact (.head _) (i := 2) rfl, h.tail.fact (.head _) (i := 0) rfl, h.tail.fact (.head _) (i := 1) rfl, h.tail.fact (.head _) (i := 2) rfl⟩, h⟩)
      refine wp_region_held_drew (S := (fun w' => (w'.cell? ⟨E, 0, none⟩ = some (.int .i64 q0) ∧ w'.cell? ⟨E, 1, none⟩ = some (.int .i64 q1) ∧ w'.cell? ⟨E, 2, none⟩ = some (.int .i64 1) ∧ w'.cell? ⟨F, 0, none⟩ = some (.int .i64 q2) ∧ w'.cell? ⟨F, 1, none⟩ = some (.int .i64 q3) ∧ w'.cell? ⟨F, 2, none⟩ = some (.int .i64 1)) ∧ Has w [(E, [.int .i64 q0, .int .i64 q1, .int .i64 1]), (F, [.int .i64 q2, .int .i64 q3, .int .i64 1]), (B, [.int .u8 u0, .int .u8 u1]), (A, [.int .i64 q0, .int .i64 q1, .int .i64 q2, .int .i64 q3, .int .i64 q4, .int .i64 q5])] w')) (by kernel_rfl) (ms2.out _ X0) (fun hHeld => ?_)
      refine wpAnyT_begin [0, 1, 2, 3, 4, 5] (by kernel_rfl) (by kernel_rfl) ?_
      refine wpAnyT_take (oi := ⟨some 57, Op.move (Operand.tmp 7), 3, _, _, none⟩) (v := .int .i64 m) rfl (fun _ _ _ h => h) (by rfl) (by assumption) (fun wS hSw => ?_) ?_
      · (try dsimp only at hSw); go_simp
      simp only [Act.put, List.setIfInBounds_toArray, List.set_cons_zero, List.set_cons_succ]
      refine wpAnyT_take (oi := ⟨some 58, Op.fieldAddr 39 (Operand.tmp 9) 0, 0, _, _, none⟩) (v := .pointer (some ⟨E, 0, none⟩)) rfl (fun _ _ _ h => h) (by rfl) (by assumption) (fun wS hSw => ?_) ?_
      · (try dsimp only at hSw); go_simp
      simp only [Act.put, List.setIfInBounds_toArray, List.set_cons_zero, List.set_cons_succ]
      refine wpAnyT_take (oi := ⟨some 59, Op.load 3 (Operand.tmp 58), 3, _, _, none⟩) (v := .int .i64 q0) rfl (fun _ _ _ h => h) (by rfl) (by assumption) (fun wS hSw => ?_) ?_
      · (try dsimp only at hSw); go_simp
      simp only [Act.put, List.setIfInBounds_toArray, List.set_cons_zero, List.set_cons_succ]
      refine wpAnyT_take (oi := ⟨some 60, Op.binOp BinOp.mul 3 (Operand.tmp 57) (Operand.tmp 59) 3, 3, _, _, none⟩) (v := .int .i64 x0) rfl (fun _ _ _ h => h) (by rfl) (by assumption) (fun wS hSw => ?_) ?_
      · (try dsimp only at hSw); go_simp
      simp only [Act.put, List.setIfInBounds_toArray, List.set_cons_zero, List.set_cons_succ]
      refine wpAnyT_take (oi := ⟨some 61, Op.move (Operand.tmp 7), 3, _, _, none⟩) (v := .int .i64 m) rfl (fun _ _ _ h => h) (by rfl) (by assumption) (fun wS hSw => ?_) ?_
      · (try dsimp only at hSw); go_simp
      simp only [Act.put, List.setIfInBounds_toArray, List.set_cons_zero, List.set_cons_succ]
      refine wpAnyT_take (oi := ⟨some 62, Op.fieldAddr 39 (Operand.tmp 9) 1, 0, _, _, none⟩) (v := .pointer (some ⟨E, 1, none⟩)) rfl (fun _ _ _ h => h) (by rfl) (by assumption) (fun wS hSw => ?_) ?_
      · (try dsimp only at hSw); go_simp
      simp only [Act.put, List.setIfInBounds_toArray, List.set_cons_zero, List.set_cons_succ]
      refine wpAnyT_end ?_
      refine wpAnyH_listed #[true, true, true, true, true, true, false, false, false, false, false, false, false, false, false, false, false, false, false, false, false, false, false, false] (by kernel_rfl) ?_
      refine wpAnyT_begin [6, 7, 8, 9, 10, 11] (by kernel_rfl) (by kernel_rfl) ?_
      refine wpAnyT_take (oi := ⟨some 63, Op.load 3 (Operand.tmp 62), 3, _, _, none⟩) (v := .int .i64 q1) rfl (fun _ _ _ h => h) (by rfl) (by assumption) (fun wS hSw => ?_) ?_
      · (try dsimp only at hSw); go_simp
      simp only [Act.put, List.setIfInBounds_toArray, List.set_cons_zero, List.set_cons_succ]
      refine wpAnyT_take (oi := ⟨some 64, Op.binOp BinOp.mul 3 (Operand.tmp 61) (Operand.tmp 63) 3, 3, _, _, none⟩) (v := .int .i64 x1) rfl (fun _ _ _ h => h) (by rfl) (by assumption) (fun wS hSw => ?_) ?_
      · (try dsimp only at hSw); go_simp
      simp only [Act.put, List.setIfInBounds_toArray, List.set_cons_zero, List.set_cons_succ]
      refine wpAnyT_take (oi := ⟨some 65, Op.move (Operand.tmp 7), 3, _, _, none⟩) (v := .int .i64 m) rfl (fun _ _ _ h => h) (by rfl) (by assumption) (fun wS hSw => ?_) ?_
      · (try dsimp only at hSw); go_simp
      simp only [Act.put, List.setIfInBounds_toArray, List.set_cons_zero, List.set_cons_succ]
      refine wpAnyT_take (oi := ⟨some 66, Op.build 39 #[(0, Operand.tmp 60), (1, Operand.tmp 64), (2, Operand.tmp 65)], 39, _, _, none⟩) (v := .agg #[.int .i64 x0, .int .i64 x1, .int .i64 m]) rfl (fun _ _ _ h => h) (by rfl) (by assumption) (fun wS hSw => ?_) ?_
      · (try dsimp only at hSw); go_simp
      simp only [Act.put, List.setIfInBounds_toArray, List.set_cons_zero, List.set_cons_succ]
      refine wpAnyT_take (oi := ⟨some 67, Op.move (Operand.tmp 8), 3, _, _, none⟩) (v := .int .i64 n) rfl (fun _ _ _ h => h) (by rfl) (by assumption) (fun wS hSw => ?_) ?_
      · (try dsimp only at hSw); go_simp
      simp only [Act.put, List.setIfInBounds_toArray, List.set_cons_zero, List.set_cons_succ]
      refine wpAnyT_take (oi := ⟨some 68, Op.fieldAddr 39 (Operand.tmp 10) 0, 0, _, _, none⟩) (v := .pointer (some ⟨F, 0, none⟩)) rfl (fun _ _ _ h => h) (by rfl) (by assumption) (fun wS hSw => ?_) ?_
      · (try dsimp only at hSw); go_simp
      simp only [Act.put, List.setIfInBounds_toArray, List.set_cons_zero, List.set_cons_succ]
      refine wpAnyT_end ?_
      refine wpAnyH_listed #[true, true, true, true, true, true, true, true, true, true, true, true, false, false, false, false, false, false, false, false, false, false, false, false] (by kernel_rfl) ?_
      refine wpAnyT_begin [12, 13, 14, 15, 16, 17] (by kernel_rfl) (by kernel_rfl) ?_
      refine wpAnyT_take (oi := ⟨some 69, Op.load 3 (Operand.tmp 68), 3, _, _, none⟩) (v := .int .i64 q2) rfl (fun _ _ _ h => h) (by rfl) (by assumption) (fun wS hSw => ?_) ?_
      · (try dsimp only at hSw); go_simp
      simp only [Act.put, List.setIfInBounds_toArray, List.set_cons_zero, List.set_cons_succ]
      refine wpAnyT_take (oi := ⟨some 70, Op.binOp BinOp.mul 3 (Operand.tmp 67) (Operand.tmp 69) 3, 3, _, _, none⟩) (v := .int .i64 y0) rfl (fun _ _ _ h => h) (by rfl) (by assumption) (fun wS hSw => ?_) ?_
      · (try dsimp only at hSw); go_simp
      simp only [Act.put, List.setIfInBounds_toArray, List.set_cons_zero, List.set_cons_succ]
      refine wpAnyT_take (oi := ⟨some 71, Op.move (Operand.tmp 8), 3, _, _, none⟩) (v := .int .i64 n) rfl (fun _ _ _ h => h) (by rfl) (by assumption) (fun wS hSw => ?_) ?_
      · (try dsimp only at hSw); go_simp
      simp only [Act.put, List.setIfInBounds_toArray, List.set_cons_zero, List.set_cons_succ]
      refine wpAnyT_take (oi := ⟨some 72, Op.fieldAddr 39 (Operand.tmp 10) 1, 0, _, _, none⟩) (v := .pointer (some ⟨F, 1, none⟩)) rfl (fun _ _ _ h => h) (by rfl) (by assumption) (fun wS hSw => ?_) ?_
      · (try dsimp only at hSw); go_simp
      simp only [Act.put, List.setIfInBounds_toArray, List.set_cons_zero, List.set_cons_succ]
      refine wpAnyT_take (oi := ⟨some 73, Op.load 3 (Operand.tmp 72), 3, _, _, none⟩) (v := .int .i64 q3) rfl (fun _ _ _ h => h) (by rfl) (by assumption) (fun wS hSw => ?_) ?_
      · (try dsimp only at hSw); go_simp
      simp only [Act.put, List.setIfInBounds_toArray, List.set_cons_zero, List.set_cons_succ]
      refine wpAnyT_take (oi := ⟨some 74, Op.binOp BinOp.mul 3 (Operand.tmp 71) (Operand.tmp 73) 3, 3, _, _, none⟩) (v := .int .i64 y1) rfl (fun _ _ _ h => h) (by rfl) (by assumption) (fun wS hSw => ?_) ?_
      · (try dsimp only at hSw); go_simp
      simp only [Act.put, List.setIfInBounds_toArray, List.set_cons_zero, List.set_cons_succ]
      refine wpAnyT_end ?_
      refine wpAnyH_listed #[true, true, true, true, true, true, true, true, true, true, true, true, true, true, true, true, true, true, false, false, false, false, false, false] (by kernel_rfl) ?_
      refine wpAnyT_begin [18, 19] (by kernel_rfl) (by kernel_rfl) ?_
      refine wpAnyT_take (oi := ⟨some 75, Op.move (Operand.tmp 8), 3, _, _, none⟩) (v := .int .i64 n) rfl (fun _ _ _ h => h) (by rfl) (by assumption) (fun wS hSw => ?_) ?_
      · (try dsimp only at hSw); go_simp
      simp only [Act.put, List.setIfInBounds_toArray, List.set_cons_zero, List.set_cons_succ]
      refine wpAnyT_take (oi := ⟨some 76, Op.build 39 #[(0, Operand.tmp 70), (1, Operand.tmp 74), (2, Operand.tmp 75)], 39, _, _, none⟩) (v := .agg #[.int .i64 y0, .int .i64 y1, .int .i64 n]) rfl (fun _ _ _ h => h) (by rfl) (by assumption) (fun wS hSw => ?_) ?_
      · (try dsimp only at hSw); go_simp
      simp only [Act.put, List.setIfInBounds_toArray, List.set_cons_zero, List.set_cons_succ]
      refine wpAnyT_end ?_
      refine wpAnyH_listed #[true, true, true, true, true, true, true, true, true, true, true, true, true, true, true, true, true, true, true, true, false, false, false, false] (by kernel_rfl) ?_
      refine any_ind (X := Sta) (n := fun sx => (0 - sx.n) + (if sx.a.isSome then 0 else 1) + (if sx.b.isSome then 0 else 1)) (l := fun sx => #[true, true, true, true, true, true, true, true, true, true, true, true, true, true, true, true, true, true, true, true, sx.a.isSome, sx.b.isSome, false, false]) (u := fun sx t => (putp 11 sx.a (putp 12 sx.b t))) (I := fun sx w' => sx.n ≤ 0 ∧ Has w (bl [.int .i64 0, .int .i64 0, .int .i64 0] sx.a (bl [.int .i64 0, .int .i64 0, .int .i64 0] sx.b [(E, [.int .i64 q0, .int .i64 q1, .int .i64 1]), (F, [.int .i64 q2, .int .i64 q3, .int .i64 1]), (B, [.int .u8 u0, .int .u8 u1]), (A, [.int .i64 q0, .int .i64 q1, .int .i64 q2, .int .i64 q3, .int .i64 q4, .int .i64 q5])])) w') (m := 2) ⟨none, none, none, 0⟩ (by kernel_rfl) (by kernel_rfl) (by kernel_rfl) ⟨Nat.zero_le _, X0⟩ ?_ ?_
      · rintro k ih ⟨pa, pb, pc, c⟩ w2 hk ⟨hc, hH⟩
        clear hHeld
        obtain rfl : c = 0 := by simp only at hc; omega
        · cases pa with
          | none =>
            cases pb with
            | none =>
              simp only [Option.isSome, Bool.false_eq_true, if_false, if_true] at hk
              simp only [putc, putp, Act.put, decide_eq_true_eq, decide_true, decide_false, Nat.le_refl, Nat.reduceLeDiff, List.setIfInBounds_toArray, List.set_cons_zero, List.set_cons_succ]
              refine wpAnyH_listed #[true, true, true, true, true, true, true, true, true, true, true, true, true, true, true, true, true, true, true, true, false, false, false, false] (by kernel_rfl) ?_
              refine wpAnyH_ready (rs := [20, 21]) (by kernel_rfl) (by simp) ?_
              refine AllReadyH.cons (o := ⟨some 11, Op.alloc 39, 0, _, _, none⟩) rfl (fun K hK => ?_) (?_)
              · go_simp
                have hC := (hH.push [.int .i64 0, .int .i64 0, .int .i64 0] 39)
                change Has w _ (w2.alloc (.cells #[.int .i64 0, .int .i64 0, .int .i64 0] 39)) at hC
                generalize w2.alloc (.cells #[.int .i64 0, .int .i64 0, .int .i64 0] 39) = W at *
                generalize w2.heap.size = E2 at *
                have hC' : Has w ([(E2, [.int .i64 0, .int .i64 0, .int .i64 0])] ++ [(E, [.int .i64 q0, .int .i64 q1, .int .i64 1]), (F, [.int .i64 q2, .int .i64 q3, .int .i64 1]), (B, [.int .u8 u0, .int .u8 u1]), (A, [.int .i64 q0, .int .i64 q1, .int .i64 q2, .int .i64 q3, .int .i64 q4, .int .i64 q5])]) W := hC
                refine hK.out _ _ (ms2.out _ (hC.tail)) (fun _ => ?_)
                exact wpAnyH_cast rfl (by kernel_rfl) (by kernel_rfl) (ih ⟨some E2, none, pc, 0⟩ _ (by simp only [Option.isSome, Bool.false_eq_true, if_false, if_true]; omega) ⟨by simp, hC⟩)
              refine AllReadyH.cons (o := ⟨some 12, Op.alloc 39, 0, _, _, none⟩) rfl (fun K hK => ?_) (AllReadyH.nil)
              · go_simp
                have hC := (hH.push [.int .i64 0, .int .i64 0, .int .i64 0] 39)
                change Has w _ (w2.alloc (.cells #[.int .i64 0, .int .i64 0, .int .i64 0] 39)) at hC
                generalize w2.alloc (.cells #[.int .i64 0, .int .i64 0, .int .i64 0] 39) = W at *
                generalize w2.heap.size = F2 at *
                have hC' : Has w ([(F2, [.int .i64 0, .int .i64 0, .int .i64 0])] ++ [(E, [.int .i64 q0, .int .i64 q1, .int .i64 1]), (F, [.int .i64 q2, .int .i64 q3, .int .i64 1]), (B, [.int .u8 u0, .int .u8 u1]), (A, [.int .i64 q0, .int .i64 q1, .int .i64 q2, .int .i64 q3, .int .i64 q4, .int .i64 q5])]) W := hC
                refine hK.out _ _ (ms2.out _ (hC.tail)) (fun _ => ?_)
                exact wpAnyH_cast rfl (by kernel_rfl) (by kernel_rfl) (ih ⟨none, some F2, pc, 0⟩ _ (by simp only [Option.isSome, Bool.false_eq_true, if_false, if_true]; omega) ⟨by simp, hC⟩)
            | some F2 =>
              simp only [Option.isSome, Bool.false_eq_true, if_false, if_true] at hk
              simp only [putc, putp, Act.put, decide_eq_true_eq, decide_true, decide_false, Nat.le_refl, Nat.reduceLeDiff, List.setIfInBounds_toArray, List.set_cons_zero, List.set_cons_succ]
              refine wpAnyH_listed #[true, true, true, true, true, true, true, true, true, true, true, true, true, true, true, true, true, true, true, true, false, true, false, false] (by kernel_rfl) ?_
              refine wpAnyH_ready (rs := [20]) (by kernel_rfl) (by simp) ?_
              refine AllReadyH.cons (o := ⟨some 11, Op.alloc 39, 0, _, _, none⟩) rfl (fun K hK => ?_) (AllReadyH.nil)
              · go_simp
                have hC := (hH.push [.int .i64 0, .int .i64 0, .int .i64 0] 39)
                change Has w _ (w2.alloc (.cells #[.int .i64 0, .int .i64 0, .int .i64 0] 39)) at hC
                generalize w2.alloc (.cells #[.int .i64 0, .int .i64 0, .int .i64 0] 39) = W at *
                generalize w2.heap.size = E2 at *
                have hC' : Has w ([(E2, [.int .i64 0, .int .i64 0, .int .i64 0]), (F2, [.int .i64 0, .int .i64 0, .int .i64 0])] ++ [(E, [.int .i64 q0, .int .i64 q1, .int .i64 1]), (F, [.int .i64 q2, .int .i64 q3, .int .i64 1]), (B, [.int .u8 u0, .int .u8 u1]), (A, [.int .i64 q0, .int .i64 q1, .int .i64 q2, .int .i64 q3, .int .i64 q4, .int .i64 q5])]) W := hC
                refine hK.out _ _ (ms2.out _ (hC.tail.tail)) (fun _ => ?_)
                exact wpAnyH_cast rfl (by kernel_rfl) (by kernel_rfl) (ih ⟨some E2, some F2, pc, 0⟩ _ (by simp only [Option.isSome, Bool.false_eq_true, if_false, if_true]; omega) ⟨by simp, hC⟩)
          | some E2 =>
            cases pb with
            | none =>
              simp only [Option.isSome, Bool.false_eq_true, if_false, if_true] at hk
              simp only [putc, putp, Act.put, decide_eq_true_eq, decide_true, decide_false, Nat.le_refl, Nat.reduceLeDiff, List.setIfInBounds_toArray, List.set_cons_zero, List.set_cons_succ]
              refine wpAnyH_listed #[true, true, true, true, true, true, true, true, true, true, true, true, true, true, true, true, true, true, true, true, true, false, false, false] (by kernel_rfl) ?_
              refine wpAnyH_ready (rs := [21]) (by kernel_rfl) (by simp) ?_
              refine AllReadyH.cons (o := ⟨some 12, Op.alloc 39, 0, _, _, none⟩) rfl (fun K hK => ?_) (AllReadyH.nil)
              · go_simp
                have hC := (hH.push [.int .i64 0, .int .i64 0, .int .i64 0] 39).swap
                change Has w _ (w2.alloc (.cells #[.int .i64 0, .int .i64 0, .int .i64 0] 39)) at hC
                generalize w2.alloc (.cells #[.int .i64 0, .int .i64 0, .int .i64 0] 39) = W at *
                generalize w2.heap.size = F2 at *
                have hC' : Has w ([(E2, [.int .i64 0, .int .i64 0, .int .i64 0]), (F2, [.int .i64 0, .int .i64 0, .int .i64 0])] ++ [(E, [.int .i64 q0, .int .i64 q1, .int .i64 1]), (F, [.int .i64 q2, .int .i64 q3, .int .i64 1]), (B, [.int .u8 u0, .int .u8 u1]), (A, [.int .i64 q0, .int .i64 q1, .int .i64 q2, .int .i64 q3, .int .i64 q4, .int .i64 q5])]) W := hC
                refine hK.out _ _ (ms2.out _ (hC.tail.tail)) (fun _ => ?_)
                exact wpAnyH_cast rfl (by kernel_rfl) (by kernel_rfl) (ih ⟨some E2, some F2, pc, 0⟩ _ (by simp only [Option.isSome, Bool.false_eq_true, if_false, if_true]; omega) ⟨by simp, hC⟩)
            | some F2 =>
              exact absurd hk (by simp)
      rintro ⟨pa, pb, pc, c⟩ w2 hk ⟨hc, hH⟩
      obtain ⟨E2, F2, rfl, rfl, rfl⟩ : ∃ E2 F2, pa = some E2 ∧ pb = some F2 ∧ c = 0 := by
        cases pa <;> cases pb <;> simp only [Option.isSome, Bool.false_eq_true, if_false, if_true] at hk <;> simp only at hc <;> first | exact ⟨_, _, rfl, rfl, by omega⟩ | omega
      simp only [putc, putp, Act.put, decide_eq_true_eq, decide_true, decide_false, Nat.le_refl, Nat.reduceLeDiff, List.setIfInBounds_toArray, List.set_cons_zero, List.set_cons_succ]
      have XA := hH
      change Has w [(E2, [.int .i64 0, .int .i64 0, .int .i64 0]), (F2, [.int .i64 0, .int .i64 0, .int .i64 0]), (E, [.int .i64 q0, .int .i64 q1, .int .i64 1]), (F, [.int .i64 q2, .int .i64 q3, .int .i64 1]), (B, [.int .u8 u0, .int .u8 u1]), (A, [.int .i64 q0, .int .i64 q1, .int .i64 q2, .int .i64 q3, .int .i64 q4, .int .i64 q5])] w2 at XA
      clear hH hk hc
      refine wpAnyH_listed #[true, true, true, true, true, true, true, true, true, true, true, true, true, true, true, true, true, true, true, true, true, true, false, false] (by kernel_rfl) ?_
      refine wpAnyH_ready (rs := [22]) (by kernel_rfl) (by simp) ?_
      refine AllReadyH.cons (o := ⟨none, Op.store 39 (Operand.tmp 11) (Operand.tmp 66), 0, _, _, none⟩) rfl (fun K hK => ?_) AllReadyH.nil
      have k0 := XA.fact (.head _) (i := 0) rfl
      have k1 := XA.fact (.head _) (i := 1) rfl
      have k2 := XA.fact (.head _) (i := 2) rfl
      have f0 := XA.free (.head _) (i := 0) rfl
      have f1 := XA.free (.head _) (i := 1) rfl
      have f2 := XA.free (.head _) (i := 2) rfl
      go_simp
      have XA0 : Has w [(E2, [.int .i64 x0, .int .i64 x1, .int .i64 m]), (F2, [.int .i64 0, .int .i64 0, .int .i64 0]), (E, [.int .i64 q0, .int .i64 q1, .int .i64 1]), (F, [.int .i64 q2, .int .i64 q3, .int .i64 1]), (B, [.int .u8 u0, .int .u8 u1]), (A, [.int .i64 q0, .int .i64 q1, .int .i64 q2, .int .i64 q3, .int .i64 q4, .int .i64 q5])] (World.setCell (World.setCell (World.setCell w2 ⟨E2, 0, none⟩ (.int .i64 x0)) ⟨E2, 1, none⟩ (.int .i64 x1)) ⟨E2, 2, none⟩ (.int .i64 m)) := (XA.set3 (.int .i64 x0) (.int .i64 x1) (.int .i64 m))
      generalize (World.setCell (World.setCell (World.setCell w2 ⟨E2, 0, none⟩ (.int .i64 x0)) ⟨E2, 1, none⟩ (.int .i64 x1)) ⟨E2, 2, none⟩ (.int .i64 m)) = wA0 at *
      clear k0 f0 k1 f1 k2 f2 XA
      clear hHeld
      refine hK.out _ _ (ms2.out _ XA0.tail.tail) (fun hHeld => ?_)
      clear hK K
      try simp only [List.setIfInBounds_toArray, List.set_cons_zero, List.set_cons_succ]
      refine wpAnyH_listed #[true, true, true, true, true, true, true, true, true, true, true, true, true, true, true, true, true, true, true, true, true, true, true, false] (by kernel_rfl) ?_
      refine wpAnyH_ready (rs := [23]) (by kernel_rfl) (by simp) ?_
      refine AllReadyH.cons (o := ⟨none, Op.store 39 (Operand.tmp 12) (Operand.tmp 76), 0, _, _, none⟩) rfl (fun K hK => ?_) AllReadyH.nil
      have k0 := XA0.tail.fact (.head _) (i := 0) rfl
      have k1 := XA0.tail.fact (.head _) (i := 1) rfl
      have k2 := XA0.tail.fact (.head _) (i := 2) rfl
      have f0 := XA0.tail.free (.head _) (i := 0) rfl
      have f1 := XA0.tail.free (.head _) (i := 1) rfl
      have f2 := XA0.tail.free (.head _) (i := 2) rfl
      go_simp
      have C9 : Has w [(E2, [.int .i64 x0, .int .i64 x1, .int .i64 m]), (F2, [.int .i64 y0, .int .i64 y1, .int .i64 n]), (E, [.int .i64 q0, .int .i64 q1, .int .i64 1]), (F, [.int .i64 q2, .int .i64 q3, .int .i64 1]), (B, [.int .u8 u0, .int .u8 u1]), (A, [.int .i64 q0, .int .i64 q1, .int .i64 q2, .int .i64 q3, .int .i64 q4, .int .i64 q5])] (World.setCell (World.setCell (World.setCell wA0 ⟨F2, 0, none⟩ (.int .i64 y0)) ⟨F2, 1, none⟩ (.int .i64 y1)) ⟨F2, 2, none⟩ (.int .i64 n)) := (XA0.swap.set3 (.int .i64 y0) (.int .i64 y1) (.int .i64 n)).swap
      generalize (World.setCell (World.setCell (World.setCell wA0 ⟨F2, 0, none⟩ (.int .i64 y0)) ⟨F2, 1, none⟩ (.int .i64 y1)) ⟨F2, 2, none⟩ (.int .i64 n)) = w9 at *
      clear k0 f0 k1 f1 k2 f2 XA0
      clear hHeld
      refine hK.out _ _ (ms2.out _ C9.tail.tail) (fun hHeld => ?_)
      clear hK K
      try simp only [List.setIfInBounds_toArray, List.set_cons_zero, List.set_cons_succ]
      refine wpAnyH_listed #[true, true, true, true, true, true, true, true, true, true, true, true, true, true, true, true, true, true, true, true, true, true, true, true] (by kernel_rfl) ?_
      refine wpAnyH_done (by kernel_rfl) ?_ _
      try clear hHeld
      clear X0 ms2 wx0 wx1 wy0 wy1
      have K1 : w9.cell? ⟨E2, 0, none⟩ = some (.int .i64 x0) := C9.fact (.head _) (i := 0) rfl
      have K2 : w9.cell? ⟨E2, 1, none⟩ = some (.int .i64 x1) := C9.fact (.head _) (i := 1) rfl
      have K3 : w9.cell? ⟨E2, 2, none⟩ = some (.int .i64 m) := C9.fact (.head _) (i := 2) rfl
      have K4 : w9.cell? ⟨F2, 0, none⟩ = some (.int .i64 y0) := C9.fact (.tail _ (.head _)) (i := 0) rfl
      have K5 : w9.cell? ⟨F2, 1, none⟩ = some (.int .i64 y1) := C9.fact (.tail _ (.head _)) (i := 1) rfl
      have K6 : w9.cell? ⟨F2, 2, none⟩ = some (.int .i64 n) := C9.fact (.tail _ (.head _)) (i := 2) rfl
      have K7 : w9.cell? ⟨E, 0, none⟩ = some (.int .i64 q0) := C9.fact (.tail _ (.tail _ (.head _))) (i := 0) rfl
      have K8 : w9.cell? ⟨E, 1, none⟩ = some (.int .i64 q1) := C9.fact (.tail _ (.tail _ (.head _))) (i := 1) rfl
      have K9 : w9.cell? ⟨E, 2, none⟩ = some (.int .i64 1) := C9.fact (.tail _ (.tail _ (.head _))) (i := 2) rfl
      have K10 : w9.cell? ⟨F, 0, none⟩ = some (.int .i64 q2) := C9.fact (.tail _ (.tail _ (.tail _ (.head _)))) (i := 0) rfl
      have K11 : w9.cell? ⟨F, 1, none⟩ = some (.int .i64 q3) := C9.fact (.tail _ (.tail _ (.tail _ (.head _)))) (i := 1) rfl
      have K12 : w9.cell? ⟨F, 2, none⟩ = some (.int .i64 1) := C9.fact (.tail _ (.tail _ (.tail _ (.head _)))) (i := 2) rfl
      have K13 : w9.cell? ⟨A, 0, none⟩ = some (.int .i64 q0) := C9.fact (.tail _ (.tail _ (.tail _ (.tail _ (.tail _ (.head _)))))) (i := 0) rfl
      have K14 : w9.cell? ⟨A, 1, none⟩ = some (.int .i64 q1) := C9.fact (.tail _ (.tail _ (.tail _ (.tail _ (.tail _ (.head _)))))) (i := 1) rfl
      have K15 : w9.cell? ⟨A, 2, none⟩ = some (.int .i64 q2) := C9.fact (.tail _ (.tail _ (.tail _ (.tail _ (.tail _ (.head _)))))) (i := 2) rfl
      have K16 : w9.cell? ⟨A, 3, none⟩ = some (.int .i64 q3) := C9.fact (.tail _ (.tail _ (.tail _ (.tail _ (.tail _ (.head _)))))) (i := 3) rfl
      have K17 : w9.cell? ⟨A, 4, none⟩ = some (.int .i64 q4) := C9.fact (.tail _ (.tail _ (.tail _ (.tail _ (.tail _ (.head _)))))) (i := 4) rfl
      have K18 : w9.cell? ⟨A, 5, none⟩ = some (.int .i64 q5) := C9.fact (.tail _ (.tail _ (.tail _ (.tail _ (.tail _ (.head _)))))) (i := 5) rfl
      go_wp2_with fail
      refine (Has.call C9 (ray_is q0 q1 q2 q3 q4 q5 z H0.out _)).mono ?_
      rintro e w20 ⟨rfl, C20⟩
      clear K1 K2 K3 K4 K5 K6 K7 K8 K9 K10 K11 K12 K13 K14 K15 K16 K17 K18 C9
      have K19 : w20.cell? ⟨E2, 0, none⟩ = some (.int .i64 x0) := C20.fact (.head _) (i := 0) rfl
      have K20 : w20.cell? ⟨E2, 1, none⟩ = some (.int .i64 x1) := C20.fact (.head _) (i := 1) rfl
      have K21 : w20.cell? ⟨E2, 2, none⟩ = some (.int .i64 m) := C20.fact (.head _) (i := 2) rfl
      have K22 : w20.cell? ⟨F2, 0, none⟩ = some (.int .i64 y0) := C20.fact (.tail _ (.head _)) (i := 0) rfl
      have K23 : w20.cell? ⟨F2, 1, none⟩ = some (.int .i64 y1) := C20.fact (.tail _ (.head _)) (i := 1) rfl
      have K24 : w20.cell? ⟨F2, 2, none⟩ = some (.int .i64 n) := C20.fact (.tail _ (.head _)) (i := 2) rfl
      have K25 : w20.cell? ⟨E, 0, none⟩ = some (.int .i64 q0) := C20.fact (.tail _ (.tail _ (.head _))) (i := 0) rfl
      have K26 : w20.cell? ⟨E, 1, none⟩ = some (.int .i64 q1) := C20.fact (.tail _ (.tail _ (.head _))) (i := 1) rfl
      have K27 : w20.cell? ⟨E, 2, none⟩ = some (.int .i64 1) := C20.fact (.tail _ (.tail _ (.head _))) (i := 2) rfl
      have K28 : w20.cell? ⟨F, 0, none⟩ = some (.int .i64 q2) := C20.fact (.tail _ (.tail _ (.tail _ (.head _)))) (i := 0) rfl
      have K29 : w20.cell? ⟨F, 1, none⟩ = some (.int .i64 q3) := C20.fact (.tail _ (.tail _ (.tail _ (.head _)))) (i := 1) rfl
      have K30 : w20.cell? ⟨F, 2, none⟩ = some (.int .i64 1) := C20.fact (.tail _ (.tail _ (.tail _ (.head _)))) (i := 2) rfl
      have K31 : w20.cell? ⟨A, 0, none⟩ = some (.int .i64 q0) := C20.fact (.tail _ (.tail _ (.tail _ (.tail _ (.tail _ (.head _)))))) (i := 0) rfl
      have K32 : w20.cell? ⟨A, 1, none⟩ = some (.int .i64 q1) := C20.fact (.tail _ (.tail _ (.tail _ (.tail _ (.tail _ (.head _)))))) (i := 1) rfl
      have K33 : w20.cell? ⟨A, 2, none⟩ = some (.int .i64 q2) := C20.fact (.tail _ (.tail _ (.tail _ (.tail _ (.tail _ (.head _)))))) (i := 2) rfl
      have K34 : w20.cell? ⟨A, 3, none⟩ = some (.int .i64 q3) := C20.fact (.tail _ (.tail _ (.tail _ (.tail _ (.tail _ (.head _)))))) (i := 3) rfl
      have K35 : w20.cell? ⟨A, 4, none⟩ = some (.int .i64 q4) := C20.fact (.tail _ (.tail _ (.tail _ (.tail _ (.tail _ (.head _)))))) (i := 4) rfl
      have K36 : w20.cell? ⟨A, 5, none⟩ = some (.int .i64 q5) := C20.fact (.tail _ (.tail _ (.tail _ (.tail _ (.tail _ (.head _)))))) (i := 5) rfl
      go_wp2_with fail
      refine (Has.call C20 (ray_is q2 q3 q0 q1 q4 q5 (-z) H1.out _)).mono ?_
      rintro e w21 ⟨rfl, C21⟩
      clear K19 K20 K21 K22 K23 K24 K25 K26 K27 K28 K29 K30 K31 K32 K33 K34 K35 K36 C20
      have K37 : w21.cell? ⟨E2, 0, none⟩ = some (.int .i64 x0) := C21.fact (.head _) (i := 0) rfl
      have K38 : w21.cell? ⟨E2, 1, none⟩ = some (.int .i64 x1) := C21.fact (.head _) (i := 1) rfl
      have K39 : w21.cell? ⟨E2, 2, none⟩ = some (.int .i64 m) := C21.fact (.head _) (i := 2) rfl
      have K40 : w21.cell? ⟨F2, 0, none⟩ = some (.int .i64 y0) := C21.fact (.tail _ (.head _)) (i := 0) rfl
      have K41 : w21.cell? ⟨F2, 1, none⟩ = some (.int .i64 y1) := C21.fact (.tail _ (.head _)) (i := 1) rfl
      have K42 : w21.cell? ⟨F2, 2, none⟩ = some (.int .i64 n) := C21.fact (.tail _ (.head _)) (i := 2) rfl
      have K43 : w21.cell? ⟨E, 0, none⟩ = some (.int .i64 q0) := C21.fact (.tail _ (.tail _ (.head _))) (i := 0) rfl
      have K44 : w21.cell? ⟨E, 1, none⟩ = some (.int .i64 q1) := C21.fact (.tail _ (.tail _ (.head _))) (i := 1) rfl
      have K45 : w21.cell? ⟨E, 2, none⟩ = some (.int .i64 1) := C21.fact (.tail _ (.tail _ (.head _))) (i := 2) rfl
      have K46 : w21.cell? ⟨F, 0, none⟩ = some (.int .i64 q2) := C21.fact (.tail _ (.tail _ (.tail _ (.head _)))) (i := 0) rfl
      have K47 : w21.cell? ⟨F, 1, none⟩ = some (.int .i64 q3) := C21.fact (.tail _ (.tail _ (.tail _ (.head _)))) (i := 1) rfl
      have K48 : w21.cell? ⟨F, 2, none⟩ = some (.int .i64 1) := C21.fact (.tail _ (.tail _ (.tail _ (.head _)))) (i := 2) rfl
      have K49 : w21.cell? ⟨A, 0, none⟩ = some (.int .i64 q0) := C21.fact (.tail _ (.tail _ (.tail _ (.tail _ (.tail _ (.head _)))))) (i := 0) rfl
      have K50 : w21.cell? ⟨A, 1, none⟩ = some (.int .i64 q1) := C21.fact (.tail _ (.tail _ (.tail _ (.tail _ (.tail _ (.head _)))))) (i := 1) rfl
      have K51 : w21.cell? ⟨A, 2, none⟩ = some (.int .i64 q2) := C21.fact (.tail _ (.tail _ (.tail _ (.tail _ (.tail _ (.head _)))))) (i := 2) rfl
      have K52 : w21.cell? ⟨A, 3, none⟩ = some (.int .i64 q3) := C21.fact (.tail _ (.tail _ (.tail _ (.tail _ (.tail _ (.head _)))))) (i := 3) rfl
      have K53 : w21.cell? ⟨A, 4, none⟩ = some (.int .i64 q4) := C21.fact (.tail _ (.tail _ (.tail _ (.tail _ (.tail _ (.head _)))))) (i := 4) rfl
      have K54 : w21.cell? ⟨A, 5, none⟩ = some (.int .i64 q5) := C21.fact (.tail _ (.tail _ (.tail _ (.tail _ (.tail _ (.head _)))))) (i := 5) rfl
      go_wp2_with fail
      refine (Has.call C21 (rayspot_is q0 q1 1 q2 q3 1 q4 q5 z H2.out _ (by omega) (by omega) (by omega) (by omega) (by omega))).mono ?_
      rintro e w22 ⟨rfl, C22⟩
      clear K37 K38 K39 K40 K41 K42 K43 K44 K45 K46 K47 K48 K49 K50 K51 K52 K53 K54 C21
      have K55 : w22.cell? ⟨E2, 0, none⟩ = some (.int .i64 x0) := C22.fact (.head _) (i := 0) rfl
      have K56 : w22.cell? ⟨E2, 1, none⟩ = some (.int .i64 x1) := C22.fact (.head _) (i := 1) rfl
      have K57 : w22.cell? ⟨E2, 2, none⟩ = some (.int .i64 m) := C22.fact (.head _) (i := 2) rfl
      have K58 : w22.cell? ⟨F2, 0, none⟩ = some (.int .i64 y0) := C22.fact (.tail _ (.head _)) (i := 0) rfl
      have K59 : w22.cell? ⟨F2, 1, none⟩ = some (.int .i64 y1) := C22.fact (.tail _ (.head _)) (i := 1) rfl
      have K60 : w22.cell? ⟨F2, 2, none⟩ = some (.int .i64 n) := C22.fact (.tail _ (.head _)) (i := 2) rfl
      have K61 : w22.cell? ⟨E, 0, none⟩ = some (.int .i64 q0) := C22.fact (.tail _ (.tail _ (.head _))) (i := 0) rfl
      have K62 : w22.cell? ⟨E, 1, none⟩ = some (.int .i64 q1) := C22.fact (.tail _ (.tail _ (.head _))) (i := 1) rfl
      have K63 : w22.cell? ⟨E, 2, none⟩ = some (.int .i64 1) := C22.fact (.tail _ (.tail _ (.head _))) (i := 2) rfl
      have K64 : w22.cell? ⟨F, 0, none⟩ = some (.int .i64 q2) := C22.fact (.tail _ (.tail _ (.tail _ (.head _)))) (i := 0) rfl
      have K65 : w22.cell? ⟨F, 1, none⟩ = some (.int .i64 q3) := C22.fact (.tail _ (.tail _ (.tail _ (.head _)))) (i := 1) rfl
      have K66 : w22.cell? ⟨F, 2, none⟩ = some (.int .i64 1) := C22.fact (.tail _ (.tail _ (.tail _ (.head _)))) (i := 2) rfl
      have K67 : w22.cell? ⟨A, 0, none⟩ = some (.int .i64 q0) := C22.fact (.tail _ (.tail _ (.tail _ (.tail _ (.tail _ (.head _)))))) (i := 0) rfl
      have K68 : w22.cell? ⟨A, 1, none⟩ = some (.int .i64 q1) := C22.fact (.tail _ (.tail _ (.tail _ (.tail _ (.tail _ (.head _)))))) (i := 1) rfl
      have K69 : w22.cell? ⟨A, 2, none⟩ = some (.int .i64 q2) := C22.fact (.tail _ (.tail _ (.tail _ (.tail _ (.tail _ (.head _)))))) (i := 2) rfl
      have K70 : w22.cell? ⟨A, 3, none⟩ = some (.int .i64 q3) := C22.fact (.tail _ (.tail _ (.tail _ (.tail _ (.tail _ (.head _)))))) (i := 3) rfl
      have K71 : w22.cell? ⟨A, 4, none⟩ = some (.int .i64 q4) := C22.fact (.tail _ (.tail _ (.tail _ (.tail _ (.tail _ (.head _)))))) (i := 4) rfl
      have K72 : w22.cell? ⟨A, 5, none⟩ = some (.int .i64 q5) := C22.fact (.tail _ (.tail _ (.tail _ (.tail _ (.tail _ (.head _)))))) (i := 5) rfl
      go_wp2_with fail
      refine (Has.call C22 (rayspot_is x0 x1 m y0 y1 n q4 q5 z H3.out _ (by omega) (by omega) (by omega) (by omega) (by omega))).mono ?_
      rintro e w23 ⟨rfl, C23⟩
      clear K55 K56 K57 K58 K59 K60 K61 K62 K63 K64 K65 K66 K67 K68 K69 K70 K71 K72 C22
      have K73 : w23.cell? ⟨E2, 0, none⟩ = some (.int .i64 x0) := C23.fact (.head _) (i := 0) rfl
      have K74 : w23.cell? ⟨E2, 1, none⟩ = some (.int .i64 x1) := C23.fact (.head _) (i := 1) rfl
      have K75 : w23.cell? ⟨E2, 2, none⟩ = some (.int .i64 m) := C23.fact (.head _) (i := 2) rfl
      have K76 : w23.cell? ⟨F2, 0, none⟩ = some (.int .i64 y0) := C23.fact (.tail _ (.head _)) (i := 0) rfl
      have K77 : w23.cell? ⟨F2, 1, none⟩ = some (.int .i64 y1) := C23.fact (.tail _ (.head _)) (i := 1) rfl
      have K78 : w23.cell? ⟨F2, 2, none⟩ = some (.int .i64 n) := C23.fact (.tail _ (.head _)) (i := 2) rfl
      have K79 : w23.cell? ⟨E, 0, none⟩ = some (.int .i64 q0) := C23.fact (.tail _ (.tail _ (.head _))) (i := 0) rfl
      have K80 : w23.cell? ⟨E, 1, none⟩ = some (.int .i64 q1) := C23.fact (.tail _ (.tail _ (.head _))) (i := 1) rfl
      have K81 : w23.cell? ⟨E, 2, none⟩ = some (.int .i64 1) := C23.fact (.tail _ (.tail _ (.head _))) (i := 2) rfl
      have K82 : w23.cell? ⟨F, 0, none⟩ = some (.int .i64 q2) := C23.fact (.tail _ (.tail _ (.tail _ (.head _)))) (i := 0) rfl
      have K83 : w23.cell? ⟨F, 1, none⟩ = some (.int .i64 q3) := C23.fact (.tail _ (.tail _ (.tail _ (.head _)))) (i := 1) rfl
      have K84 : w23.cell? ⟨F, 2, none⟩ = some (.int .i64 1) := C23.fact (.tail _ (.tail _ (.tail _ (.head _)))) (i := 2) rfl
      have K85 : w23.cell? ⟨A, 0, none⟩ = some (.int .i64 q0) := C23.fact (.tail _ (.tail _ (.tail _ (.tail _ (.tail _ (.head _)))))) (i := 0) rfl
      have K86 : w23.cell? ⟨A, 1, none⟩ = some (.int .i64 q1) := C23.fact (.tail _ (.tail _ (.tail _ (.tail _ (.tail _ (.head _)))))) (i := 1) rfl
      have K87 : w23.cell? ⟨A, 2, none⟩ = some (.int .i64 q2) := C23.fact (.tail _ (.tail _ (.tail _ (.tail _ (.tail _ (.head _)))))) (i := 2) rfl
      have K88 : w23.cell? ⟨A, 3, none⟩ = some (.int .i64 q3) := C23.fact (.tail _ (.tail _ (.tail _ (.tail _ (.tail _ (.head _)))))) (i := 3) rfl
      have K89 : w23.cell? ⟨A, 4, none⟩ = some (.int .i64 q4) := C23.fact (.tail _ (.tail _ (.tail _ (.tail _ (.tail _ (.head _)))))) (i := 4) rfl
      have K90 : w23.cell? ⟨A, 5, none⟩ = some (.int .i64 q5) := C23.fact (.tail _ (.tail _ (.tail _ (.tail _ (.tail _ (.head _)))))) (i := 5) rfl
      go_wp2_with fail
      refine (Has.call C23 (rayspot_is y0 y1 n x0 x1 m q4 q5 (-z) H4.out _ (by omega) (by omega) (by omega) (by omega) (by omega))).mono ?_
      rintro e w24 ⟨rfl, C24⟩
      clear K73 K74 K75 K76 K77 K78 K79 K80 K81 K82 K83 K84 K85 K86 K87 K88 K89 K90 C23
      go_wp2_with fail
      go_ret
      exact ⟨rfl, C24.low⟩

end Go.Proofs.Ytmldgjhecoeldaa
