/- point.ends. -/
import Derived.Test.YtoehojopoajcaaaZed
namespace Go.Proofs.Ytoehojopoajcaaa
open Go.RowKit Go.Lib

attribute [local go_sem] Oper.semAt_some

theorem Has.one2 {w0 w : World} {bs : List (Nat × List Value)} {A B : Nat} {a b : Value} (h : Has w0 ((A, [a]) :: (B, [b]) :: bs) w) : (w.cell? ⟨A, 0, none⟩ = some a ∧ w.cell? ⟨B, 0, none⟩ = some b) ∧ Has w0 ((A, [a]) :: (B, [b]) :: bs) w :=
  ⟨⟨h.fact (.head _) (i := 0) rfl, h.tail.fact (.head _) (i := 0) rfl⟩, h⟩

set_option linter.unusedSimpArgs false in
set_option maxRecDepth 100000 in
set_option maxHeartbeats 4000000 in
theorem ends_any (sel : Int × Int → Int) (ps : List (Int × Int)) (B C : Nat) (w : World) (hseq : ∀ n, LvSeq n 65 #[.pointer (some ⟨B, 0, none⟩), .pointer (some ⟨C, 0, none⟩)] (ps.length - 1) (fun _ k => .int .i64 (pk sel ps k)) (fun _ _ W => Kept w W) w) (hne : 1 ≤ ps.length) :
    Calls Try.prog 45 #[.func (.func 65) #[] #[.pointer (some ⟨B, 0, none⟩), .pointer (some ⟨C, 0, none⟩)]] w fun e w' => e = .returned (.tuple #[.int .i64 (lo sel ps ps.length), .int .i64 (hi sel ps ps.length)]) ∧ Below w.heap.size w w' := by
  have C0 := has2 (w := w) [.int .i64 9223372036854775807] [.int .i64 (-9223372036854775808)] 3 3
  have HS := Lib.hid hseq
  clear hseq
  refine (callsIn_wide (n := 5)).1 ?_
  refine callsIn_of_wp_marks Try.func45 rfl trivial ?_ rfl
  simp only [Try.ntmps45, List.size_toArray, List.length_cons, List.length_nil, Nat.reduceAdd, Nat.reduceSub, Array.replicate_succ, Array.replicate_zero, List.push_toArray, List.append_toArray, List.nil_append, List.cons_append]
  gi_wp2_with fail
  change Has w _ ((w.alloc (.cells #[.int .i64 9223372036854775807] 3)).alloc (.cells #[.int .i64 (-9223372036854775808)] 3)) at C0
  have hs1 : ((w.alloc (.cells #[.int .i64 9223372036854775807] 3)).alloc (.cells #[.int .i64 (-9223372036854775808)] 3)).heap.size = w.heap.size + 1 + 1 := by simp
  generalize (w.alloc (.cells #[.int .i64 9223372036854775807] 3)).alloc (.cells #[.int .i64 (-9223372036854775808)] 3) = w1 at *
  refine range_lv (K := ps.length - 1) (enc := fun _ k => .int .i64 (pk sel ps k)) (Lv := fun _ _ W => Kept w W) (w0 := w) rfl (enters_of Try.func65 (by kernel_rfl) rfl) (HS.out (5 - 1)) C0.low
    (fun k W => Has w [(w.heap.size, [.int .i64 (lo sel ps k)]), (w.heap.size + 1, [.int .i64 (hi sel ps k)])] W) (fun _ _ _ => False) (fun _ _ _ h g => h.later g) (fun k A l o o' h hl ho hc => h.putObj (by omega) ho hc) (fun _ _ _ _ _ _ h => h.elim) (fun _ _ _ _ _ _ h ho hc => h.putObj ho hc) C0
    (fun _ k => { tmps := #[.func (.func 65) #[] #[.pointer (some ⟨B, 0, none⟩), .pointer (some ⟨C, 0, none⟩)], undef, .pointer (some ⟨w.heap.size, 0, none⟩), .pointer (some ⟨w.heap.size + 1, 0, none⟩), .int .i64 (pk sel ps k), .func (.func 65) #[] #[.pointer (some ⟨B, 0, none⟩), .pointer (some ⟨C, 0, none⟩)], .int .i64 (pk sel ps k), undef, undef, undef, undef, undef, undef, undef, undef], defers := [] }) ?assign ?body ?done ?stop
  case assign =>
    intro l g k A T hT
    gi_wp2_with fail
    exact hT
  case stop =>
    intro D c k A _ _ h
    exact h.elim
  case body =>
    intro l g k A hI hL hk
    have hn1 := lo_next (sel := sel) (ps := ps) (k := k) (by omega)
    have hn2 := hi_next (sel := sel) (ps := ps) (k := k) (by omega)
    rw [hn1, hn2]
    clear hn1 hn2
    generalize lo sel ps k = L at *
    generalize hi sel ps k = H at *
    generalize pk sel ps k = X at *
    obtain ⟨L', hL'⟩ : ∃ v, min L X = v := ⟨_, rfl⟩
    obtain ⟨H', hH'⟩ : ∃ v, max H X = v := ⟨_, rfl⟩
    have hmin : (if X < L then X else L) = L' := by rw [← hL']; split <;> omega
    have hmax : (if H < X then X else H) = H' := by rw [← hH']; split <;> omega
    rw [hL', hH']
    clear hL' hH'
    gi_wp2_with fail
    have X0 := hI.drew
    refine calm_Z 7 (fun W => W.cell? ⟨w.heap.size + 1, 0, none⟩ = some (.int .i64 H)) (by kernel_rfl) (defers_none _ (by kernel_rfl)) ?_
    have hHeld := X0.tail.fact (.head _) (i := 0) rfl
    generalize hA0 : A.drew = A0 at *
    have HA0 := Lib.hid hA0
    clear hA0
    refine wpAnyZ_take (i := 1) (oi := ⟨some 8, Op.move (Operand.tmp 4), 3, _, _, none⟩) (oz := ⟨none, Op.store 3 (Operand.tmp 3) (Operand.tmp 12), 0, _, _, none⟩) (v := .int .i64 X) rfl rfl (by kernel_rfl) (fun _ _ _ h => h) (by rfl) (by assumption) (fun wS hSw => ?_) ?_
    · (try dsimp only at hSw); go_simp
    simp only [Act.put, List.setIfInBounds_toArray, List.set_cons_zero, List.set_cons_succ]
    refine wpAnyZ_take (i := 3) (oi := ⟨some 10, Op.load 3 (Operand.tmp 3), 3, _, _, none⟩) (oz := ⟨none, Op.store 3 (Operand.tmp 3) (Operand.tmp 12), 0, _, _, none⟩) (v := .int .i64 H) rfl rfl (by kernel_rfl) (fun _ _ _ h => h) (by rfl) (by assumption) (fun wS hSw => ?_) ?_
    · (try dsimp only at hSw); go_simp
    simp only [Act.put, List.setIfInBounds_toArray, List.set_cons_zero, List.set_cons_succ]
    refine wpAnyZ_take (i := 4) (oi := ⟨some 11, Op.move (Operand.tmp 4), 3, _, _, none⟩) (oz := ⟨none, Op.store 3 (Operand.tmp 3) (Operand.tmp 12), 0, _, _, none⟩) (v := .int .i64 X) rfl rfl (by kernel_rfl) (fun _ _ _ h => h) (by rfl) (by assumption) (fun wS hSw => ?_) ?_
    · (try dsimp only at hSw); go_simp
    simp only [Act.put, List.setIfInBounds_toArray, List.set_cons_zero, List.set_cons_succ]
    refine wpAnyZ_take (i := 5) (oi := ⟨some 12, Op.call { callee := Callee.builtin Builtin.max, args := #[Operand.tmp 10, Operand.tmp 11], argTypes := #[3, 3] }, 3, _, _, none⟩) (oz := ⟨none, Op.store 3 (Operand.tmp 3) (Operand.tmp 12), 0, _, _, none⟩) (v := .int .i64 H') rfl rfl (by kernel_rfl) (fun _ _ _ h => h) (by rfl) (by assumption) (fun wS hSw => ?_) ?_
    · (try dsimp only at hSw); go_simp
    simp only [Act.put, List.setIfInBounds_toArray, List.set_cons_zero, List.set_cons_succ]
    refine wpAnyZ_listed #[false, true, false, true, true, true, false, false] (by kernel_rfl) ?_
    refine wpAnyZ_one (i := 0) (o := ⟨some 7, Op.load 3 (Operand.tmp 2), 3, _, _, none⟩) (by kernel_rfl) rfl (fun K hK => ?_)
    have k0 := X0.fact (.head _) (i := 0) rfl
    go_simp
    clear k0
    try clear hHeld
    refine hK.out _ _ (X0.tail.fact (.head _) (i := 0) rfl) (fun hHeld => ?_)
    clear hK K
    try simp only [List.setIfInBounds_toArray, List.set_cons_zero, List.set_cons_succ]
    refine wpAnyZ_listed #[true, true, false, true, true, true, false, false] (by kernel_rfl) ?_
    refine wpAnyZ_one (i := 2) (o := ⟨some 9, Op.call { callee := Callee.builtin Builtin.min, args := #[Operand.tmp 7, Operand.tmp 8], argTypes := #[3, 3] }, 3, _, _, none⟩) (by kernel_rfl) rfl (fun K hK => ?_)
    go_simp
    try clear hHeld
    refine hK.out _ _ (X0.tail.fact (.head _) (i := 0) rfl) (fun hHeld => ?_)
    clear hK K
    try simp only [List.setIfInBounds_toArray, List.set_cons_zero, List.set_cons_succ]
    refine wpAnyZ_listed #[true, true, true, true, true, true, false, false] (by kernel_rfl) ?_
    refine wpAnyZ_one (i := 6) (o := ⟨none, Op.store 3 (Operand.tmp 2) (Operand.tmp 9), 0, _, _, none⟩) (by kernel_rfl) rfl (fun K hK => ?_)
    have k0 := X0.fact (.head _) (i := 0) rfl
    have f0 := X0.free (.head _) (i := 0) rfl
    go_simp
    have X1 : Has w [(w.heap.size, [.int .i64 L']), (w.heap.size + 1, [.int .i64 H])] (A0.setCell ⟨w.heap.size, 0, none⟩ (.int .i64 L')) := X0.set 0 (by simp) (.int .i64 L')
    have Y1 := (HA0.out ▸ hL.drew : Kept w A0).set (b := w.heap.size) (o := 0) (Nat.le_refl _) (.int .i64 L')
    have Z1 := (HA0.out ▸ keeps_drew w1.heap.size A : KeepsFrom w1.heap.size A A0).trans (keeps_cell (b := w.heap.size) (o := 0) A0 (.int .i64 L') (by omega))
    generalize A0.setCell ⟨w.heap.size, 0, none⟩ (.int .i64 L') = A1 at *
    clear k0 f0 X0
    try clear hHeld
    refine hK.out _ _ (X1.tail.fact (.head _) (i := 0) rfl) (fun hHeld => ?_)
    clear hK K
    try simp only [List.setIfInBounds_toArray, List.set_cons_zero, List.set_cons_succ]
    refine wpAnyZ_listed #[true, true, true, true, true, true, true, false] (by kernel_rfl) ?_
    refine wpAnyZ_step (o := ⟨none, Op.store 3 (Operand.tmp 3) (Operand.tmp 12), 0, _, _, none⟩) (by kernel_rfl) (by decide) rfl (fun K hK => ?_)
    have k0 := X1.tail.fact (.head _) (i := 0) rfl
    have f0 := X1.tail.free (.head _) (i := 0) rfl
    go_simp
    have X2 : Has w [(w.heap.size, [.int .i64 L']), (w.heap.size + 1, [.int .i64 H'])] (A1.setCell ⟨w.heap.size + 1, 0, none⟩ (.int .i64 H')) := (X1.swap.set 0 (by simp) (.int .i64 H')).swap
    have Y2 := Y1.set (b := w.heap.size + 1) (o := 0) (by omega) (.int .i64 H')
    have Z2 := Z1.trans (keeps_cell (b := w.heap.size + 1) (o := 0) A1 (.int .i64 H') (by omega))
    generalize A1.setCell ⟨w.heap.size + 1, 0, none⟩ (.int .i64 H') = A2 at *
    clear k0 f0 X1
    try clear hHeld
    refine hK.out _ _ ?_
    clear hK K
    try simp only [List.setIfInBounds_toArray, List.set_cons_zero, List.set_cons_succ]
    refine wpAnyH_listed #[true, true, true, true, true, true, true, true] (by kernel_rfl) ?_
    have hHeld := True.intro
    refine wpAnyH_done (by kernel_rfl) ?_ _
    exact ⟨Z2, X2, Y2⟩
  case done =>
    intro D A hD hI hK
    rw [Nat.sub_add_cancel hne] at hI
    generalize hL : lo sel ps ps.length = L at *
    generalize hH : hi sel ps ps.length = H at *
    have HL := Lib.hid hL
    have HH := Lib.hid hH
    clear hL hH
    gi_wp2_with fail
    refine wpIn_wide.2 ?_
    have X0 := hI.drew
    refine plain_Z 3 (fun W => W.cell? ⟨w.heap.size + 1, 0, none⟩ = some (.int .i64 H)) (by kernel_rfl) ?_
    have hHeld := X0.tail.fact (.head _) (i := 0) rfl
    have hK0 : A.drew.heap[D]? = some (.deferred (some [])) := hK
    generalize A.drew = A0 at *
    clear hK hI
    refine wpAnyZ_take (i := 1) (oi := ⟨some 14, Op.load 3 (Operand.tmp 3), 3, _, _, none⟩) (oz := ⟨none, Op.store 3 (Operand.tmp 3) (Operand.tmp 14), 0, _, _, none⟩) (v := .int .i64 H) rfl rfl (by kernel_rfl) (fun _ _ _ h => h) (by rfl) (by assumption) (fun wS hSw => ?_) ?_
    · (try dsimp only at hSw); go_simp
    simp only [Act.put, List.setIfInBounds_toArray, List.set_cons_zero, List.set_cons_succ]
    refine wpAnyZ_listed #[false, true, false, false] (by kernel_rfl) ?_
    refine wpAnyZ_one (i := 0) (o := ⟨some 13, Op.load 3 (Operand.tmp 2), 3, _, _, none⟩) (by kernel_rfl) rfl (fun K hK => ?_)
    have k0 := X0.fact (.head _) (i := 0) rfl
    go_simp
    clear k0
    try clear hHeld
    refine hK.out _ _ (X0.tail.fact (.head _) (i := 0) rfl) (fun hHeld => ?_)
    clear hK K
    try simp only [List.setIfInBounds_toArray, List.set_cons_zero, List.set_cons_succ]
    refine wpAnyZ_listed #[true, true, false, false] (by kernel_rfl) ?_
    refine wpAnyZ_one (i := 2) (o := ⟨none, Op.store 3 (Operand.tmp 2) (Operand.tmp 13), 0, _, _, none⟩) (by kernel_rfl) rfl (fun K hK => ?_)
    have k0 := X0.fact (.head _) (i := 0) rfl
    have f0 := X0.free (.head _) (i := 0) rfl
    go_simp
    have X1 : Has w [(w.heap.size, [.int .i64 L]), (w.heap.size + 1, [.int .i64 H])] (A0.setCell ⟨w.heap.size, 0, none⟩ (.int .i64 L)) := X0.set 0 (by simp) (.int .i64 L)
    have hK1 := (Below.heap_setCell A0 ⟨w.heap.size, 0, none⟩ (.int .i64 L) D (by show D ≠ w.heap.size; omega)).trans hK0
    generalize A0.setCell ⟨w.heap.size, 0, none⟩ (.int .i64 L) = A1 at *
    clear k0 f0 X0 hK0
    try clear hHeld
    refine hK.out _ _ (X1.tail.fact (.head _) (i := 0) rfl) (fun hHeld => ?_)
    clear hK K
    try simp only [List.setIfInBounds_toArray, List.set_cons_zero, List.set_cons_succ]
    refine wpAnyZ_listed #[true, true, true, false] (by kernel_rfl) ?_
    refine wpAnyZ_step (o := ⟨none, Op.store 3 (Operand.tmp 3) (Operand.tmp 14), 0, _, _, none⟩) (by kernel_rfl) (by decide) rfl (fun K hK => ?_)
    have k0 := X1.tail.fact (.head _) (i := 0) rfl
    have f0 := X1.tail.free (.head _) (i := 0) rfl
    go_simp
    have X2 : Has w [(w.heap.size, [.int .i64 L]), (w.heap.size + 1, [.int .i64 H])] (A1.setCell ⟨w.heap.size + 1, 0, none⟩ (.int .i64 H)) := (X1.swap.set 0 (by simp) (.int .i64 H)).swap
    have hK2 := (Below.heap_setCell A1 ⟨w.heap.size + 1, 0, none⟩ (.int .i64 H) D (by show D ≠ w.heap.size + 1; omega)).trans hK1
    generalize A1.setCell ⟨w.heap.size + 1, 0, none⟩ (.int .i64 H) = A2 at *
    clear k0 f0 X1 hK1
    try clear hHeld
    refine hK.out _ _ ?_
    clear hK K
    try simp only [List.setIfInBounds_toArray, List.set_cons_zero, List.set_cons_succ]
    refine wpAnyH_listed #[true, true, true, true] (by kernel_rfl) ?_
    have hHeld := True.intro
    refine wpAnyH_done (by kernel_rfl) ?_ _
    refine Calm.normal ?_
    obtain ⟨k0, k1⟩ := X2.one2.1
    gi_wp2_with fail
    refine ⟨by simp, .inl ⟨_, _, rfl, run_takeDeferred hK2, ?_⟩⟩
    have X3 := X2.putObj (ob' := .deferred none) (by omega) hK2 rfl
    obtain ⟨d0, d1⟩ := X3.one2.1
    exact ⟨.tuple #[.int .i64 L, .int .i64 H], by simp [results, Try.results45, go_sem, d0, d1], by rw [HL.out, HH.out], X3.low⟩

end Go.Proofs.Ytoehojopoajcaaa
