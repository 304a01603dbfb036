/- The reference's Made. -/
import Derived.Test.YtfcoblapbcdaiaaZ
namespace Go.Proofs.Ytfcoblapbcdaiaa
open Go.RowKit Go.Lib
attribute [local go_sem] Oper.semAt_some
/-- A made history: at most eight events, at growing scales. -/
structure Asc (es : List Ev) : Prop where
  len : es.length ≤ 8
  bd : ∀ i, i < es.length → 1 ≤ atE es i ∧ atE es i ≤ 1024
  up : ∀ i j, i < j → j < es.length → atE es i < atE es j
theorem Asc.nil : Asc [] := ⟨by simp, fun i h => by simp at h, fun i j _ h => by simp at h⟩
theorem atE_append_lt {es : List Ev} {e : Ev} {i : Nat} (h : i < es.length) : atE (es ++ [e]) i = atE es i := by unfold atE; rw [List.getElem?_append_left h]
theorem atE_append_eq {es : List Ev} {e : Ev} : atE (es ++ [e]) es.length = e.at_ := by unfold atE; rw [List.getElem?_append_right (Nat.le_refl _)]; simp
theorem Asc.snoc {es : List Ev} {e : Ev} (h : Asc es) (hl : es.length ≤ 7) (h1 : 1 ≤ e.at_ ∧ e.at_ ≤ 1024) (h2 : ∀ i, i < es.length → atE es i < e.at_) : Asc (es ++ [e]) := by
  refine ⟨by simp; omega, fun i hi => ?_, fun i j hij hj => ?_⟩
  · rw [List.length_append, List.length_singleton] at hi
    rcases Nat.lt_or_ge i es.length with g | g
    · rw [atE_append_lt g]; exact h.bd i g
    · obtain rfl : i = es.length := by omega
      rw [atE_append_eq]; exact h1
  · rw [List.length_append, List.length_singleton] at hj
    rw [atE_append_lt (show i < es.length by omega)]
    rcases Nat.lt_or_ge j es.length with g | g
    · rw [atE_append_lt g]; exact h.up i j hij g
    · obtain rfl : j = es.length := by omega
      rw [atE_append_eq]; exact h2 i hij
theorem le_snoc {es : List Ev} {e : Ev} (h : ∀ i, i < es.length → atE es i < e.at_) : ∀ i, i < (es ++ [e]).length → atE (es ++ [e]) i ≤ e.at_ := by
  intro i hi
  rw [List.length_append, List.length_singleton] at hi
  rcases Nat.lt_or_ge i es.length with g | g
  · rw [atE_append_lt g]; exact Int.le_of_lt (h i g)
  · obtain rfl : i = es.length := by omega
    rw [atE_append_eq]; exact Int.le_refl _
theorem ge_one {x : Int} (h : 0 ≤ x) : 1 ≤ 1 + x := by omega
theorem gaps_at {j : Nat} (h : j < 4) : ∃ g : Int, ([.int .i64 2, .int .i64 6, .int .i64 30, .int .i64 140] : List Value)[j]? = some (.int .i64 g) ∧ 1 ≤ g ∧ g ≤ 140 := by
  rcases j with _ | _ | _ | _ | j
  · exact ⟨2, rfl, by omega⟩
  · exact ⟨6, rfl, by omega⟩
  · exact ⟨30, rfl, by omega⟩
  · exact ⟨140, rfl, by omega⟩
  · omega
theorem Has.ne_at {w0 w : World} {bs : List (Nat × List Value)} (h : Has w0 bs w) (i j : Nat) {p q : Nat × List Value} (hi : bs[i]? = some p) (hj : bs[j]? = some q) (hne : i ≠ j) : p.1 ≠ q.1 := by
  obtain ⟨hi1, hi2⟩ := List.getElem?_eq_some_iff.1 hi
  obtain ⟨hj1, hj2⟩ := List.getElem?_eq_some_iff.1 hj
  have hp := List.pairwise_iff_getElem.1 h.nd
  rcases Nat.lt_or_gt_of_ne hne with g | g
  · have := hp i j hi1 hj1 g
    rw [hi2, hj2] at this; exact this
  · have := hp j i hj1 hi1 g
    rw [hi2, hj2] at this; exact this.symm
theorem Oth.ownE {b B : Nat} {w w' : World} {v : Value} {es : List Ev} (h : Oth b w w') (hb : b < B) (ho : Own tE B w v es) : Own tE B w' v es :=
  ownsRow_same ho fun k e => by
    have := World.ownsRow.lt ho k e
    exact h.2 k (by omega) this.2
theorem setB_ownE {b o B : Nat} {w : World} {u v : Value} {es : List Ev} (hb : b < B) (ho : Own tE B w v es) : Own tE B (w.setCell ⟨b, o, none⟩ u) v es := (Oth.set b o w u).ownE hb ho
set_option linter.unusedSimpArgs false in
set_option maxRecDepth 100000 in
set_option maxHeartbeats 8000000 in
theorem made_any (v : Value) (xs : List Int) (w : World) (hv : Row tI w v xs) :
    Calls Try.prog 9 #[v] w fun e w' => ∃ d ev es, e = .returned (.agg #[.int .i64 d, ev]) ∧ Row tE w' ev es ∧ Asc es ∧ Below w.heap.size w w' := by
  obtain ⟨va, vn, vc, rfl, hvn, hvc, hvm, hv⟩ := hv.form
  have HR := Lib.hid hv.num
  clear hv
  have C0 := has2 (w := w) [.int .i64 0, .slice none 0 0] [.slice va vn vc, .int .i64 0] 25 55
  change Has w _ ((w.alloc (.cells #[.int .i64 0, .slice none 0 0] 25)).alloc (.cells #[.slice va vn vc, .int .i64 0] 55)) at C0
  go_enter Try.func9, Try.ntmps9
  go_wp2_with fail
  generalize (w.alloc (.cells #[.int .i64 0, .slice none 0 0] 25)).alloc (.cells #[.slice va vn vc, .int .i64 0] 55) = w1 at *
  refine (next_any C0.swap HR.out (by omega) 3 (by decide) (by decide)).mono ?_
  rintro e w2 ⟨r1, t1, rfl, hr1, hr1', ht1, C2, -⟩
  have s1 : IntKind.i64.wrap (1 + r1) = 1 + r1 := by rw [IntKind.wrap_i64]; omega
  have s2 : wrap64 (1 + r1) = 1 + r1 := IntWalk.wrap64_in _ ⟨by omega, by omega⟩
  have C3 := C2.push [.int .i64 (1 + r1), .slice none 0 0] 25
  change Has w _ (w2.alloc (.cells #[.int .i64 (1 + r1), .slice none 0 0] 25)) at C3
  go_wp2_with fail
  have E3 : (w2.alloc (.cells #[.int .i64 (1 + r1), .slice none 0 0] 25)).heap.size = w2.heap.size + 1 := by simp
  generalize w2.alloc (.cells #[.int .i64 (1 + r1), .slice none 0 0] 25) = w3 at *
  generalize w2.heap.size = A at *
  refine (next_any C3.swap HR.out ht1 9 (by decide) (by decide)).mono ?_
  rintro e w4 ⟨mm, t2, rfl, hm0, hm1, ht2, C4, O4⟩
  obtain ⟨M, rfl⟩ : ∃ M : Nat, mm = M := ⟨mm.toNat, by omega⟩
  have hA4 : A + 1 ≤ w4.heap.size := by have := O4.1; omega
  have hD : w.heap.size + 1 < A + 1 := by have := C3.tail.lt (w.heap.size + 1, _) (.head _); simp only at this; omega
  generalize hdd : 1 + r1 = dd at *
  clear C0 C2 C3 O4 E3 hr1 hr1' hdd s1 s2
  have hO := Own.nil (T := tE) (A + 1) w4
  go_wp2_with fail
  go_loopw [7, 6] (fun i at_ wr => ∃ (k : Nat) (t x : Int) (ev : Value) (es : List Ev), k ≤ M ∧ i = .int .i64 k ∧ at_ = .int .i64 x ∧ es.length ≤ k ∧ Hid (Asc es) ∧ (0 ≤ x ∧ x ≤ 141 * k) ∧ Hid (∀ i, i < es.length → atE es i ≤ x) ∧ 0 ≤ t ∧ Has w [(w.heap.size + 1, [.slice va vn vc, .int .i64 t]), (A, [.int .i64 dd, ev]), (w.heap.size, [.int .i64 0, .slice none 0 0])] wr ∧ Own tE (A + 1) wr ev es ∧ A + 1 ≤ wr.heap.size) (fun i _ _ => M - (RowKit.intOf i).toNat)
  case atStart => exact ⟨0, t2, 0, _, [], Nat.zero_le _, rfl, rfl, by simp, Lib.hid Asc.nil, by omega, Lib.hid (fun i h => by simp at h), ht2, C4, hO, hA4⟩
  case round =>
    clear C4 hO ht2 hA4
    obtain ⟨k, t, x, ev, es, hk, rfl, rfl, hlen, HC, hx, HX, ht, C, hO, hA⟩ := hrel
    by_cases hlt : k < M
    · have b1 : (k : Int) < M := by omega
      have hwl : w.heap.size + 1 < wr.heap.size := C.lt0
      have s1 : IntKind.i64.wrap (x + 1) = x + 1 := by rw [IntKind.wrap_i64]; omega
      have s2 : wrap64 (x + 1) = x + 1 := IntWalk.wrap64_in _ ⟨by omega, by omega⟩
      have C1 := C.push [.int .i64 2, .int .i64 6, .int .i64 30, .int .i64 140] 3
      have hO1 := hO.later ((Below.refl _ wr).alloc (Nat.le_refl _) (.cells #[.int .i64 2, .int .i64 6, .int .i64 30, .int .i64 140] 3))
      change Has w _ (wr.alloc (.cells #[.int .i64 2, .int .i64 6, .int .i64 30, .int .i64 140] 3)) at C1
      go_wp2_with fail
      have E1 : (wr.alloc (.cells #[.int .i64 2, .int .i64 6, .int .i64 30, .int .i64 140] 3)).heap.size = wr.heap.size + 1 := by simp
      generalize wr.alloc (.cells #[.int .i64 2, .int .i64 6, .int .i64 30, .int .i64 140] 3) = w5 at *
      generalize wr.heap.size = G at *
      refine (next_any C1.swap HR.out ht 4 (by decide) (by decide)).mono ?_
      rintro e w6 ⟨j, t3, rfl, hj0, hj1, ht3, C2, O2⟩
      obtain ⟨jn, rfl⟩ : ∃ n : Nat, j = n := ⟨j.toNat, by omega⟩
      obtain ⟨g, hg, hg0, hg1⟩ := gaps_at (j := jn) (by omega)
      have c0 := C2.tail.fact (.head _) hg
      simp only at c0
      have hO2 := O2.ownE hD hO1
      have hA2 : A + 1 ≤ w6.heap.size := by have := O2.1; omega
      clear C C1 O2 hO hO1 E1
      go_wp2_with fail
      refine (next_any C2 HR.out ht3 g (by omega) (by omega)).mono ?_
      rintro e w7 ⟨y, t4, rfl, hy0, hy1, ht4, C3, O3⟩
      have hO3 := O3.ownE hD hO2
      have hA3 : A + 1 ≤ w7.heap.size := by have := O3.1; omega
      have C4 := C3.swap.tail
      have s3 : IntKind.i64.wrap (x + 1 + y) = x + 1 + y := by rw [IntKind.wrap_i64]; omega
      have s4 : wrap64 (x + 1 + y) = x + 1 + y := IntWalk.wrap64_in _ ⟨by omega, by omega⟩
      have ksum : IntKind.i64.wrap ((k : Int) + 1) = ((k + 1 : Nat) : Int) := by rw [IntWalk.i64_in _ (by omega)]; rfl
      clear C2 C3 O3 hO2 hA2 c0 hg
      obtain ⟨z, hz⟩ : ∃ z, x + 1 + y = z := ⟨_, rfl⟩
      have HX2 := Lib.hid (show ∀ i, i < es.length → atE es i < z from fun i hi => by have := HX.out i hi; omega)
      have hz2 : 1 ≤ z ∧ z ≤ 141 * ((k : Int) + 1) := by omega
      rw [hz] at s3 s4
      have HZ := hz
      by_cases hle : z ≤ 1024
      · have hwl7 : w.heap.size + 1 < w7.heap.size := C4.lt0
        go_wp2_with fail
        refine plain_Z 17 (fun W => W.cell? ⟨A, 1, none⟩ = some ev) (by kernel_rfl) ?_
        have X0 := C4.drew
        have P0 := hO3.later ((Below.refl _ w7).drew)
        have hHeld : (fun W => W.cell? ⟨A, 1, none⟩ = some ev) w7.drew := X0.tail.fact (.head _) (i := 1) rfl
        have hA7 : A + 1 ≤ w7.drew.heap.size := hA3
        generalize w7.drew = v0 at *
        clear C4 hO3 hA3
        try dsimp only at hHeld
        refine wpAnyZ_take (i := 0) (oi := ⟨some 34, Op.fieldAddr 25 (Operand.tmp 4) 1, 0, _, _, none⟩) (oz := ⟨none, Op.store 23 (Operand.tmp 50) (Operand.tmp 49), 0, _, _, none⟩) (v := .pointer (some ⟨A, 1, none⟩)) rfl rfl (by kernel_rfl) (fun _ _ _ h => h) (by rfl) (by assumption) (fun wS hSw => ?_) ?_
        · (try dsimp only at hSw); go_simp
        simp only [Act.put, List.setIfInBounds_toArray, List.set_cons_zero, List.set_cons_succ]
        refine wpAnyZ_take (i := 1) (oi := ⟨some 35, Op.load 23 (Operand.tmp 34), 23, _, _, none⟩) (oz := ⟨none, Op.store 23 (Operand.tmp 50) (Operand.tmp 49), 0, _, _, none⟩) (v := ev) rfl rfl (by kernel_rfl) (fun _ _ _ h => h) (by rfl) (by assumption) (fun wS hSw => ?_) ?_
        · (try dsimp only at hSw); go_simp
        simp only [Act.put, List.setIfInBounds_toArray, List.set_cons_zero, List.set_cons_succ]
        refine wpAnyZ_take (i := 2) (oi := ⟨some 36, Op.move (Operand.tmp 3), 53, _, _, none⟩) (oz := ⟨none, Op.store 23 (Operand.tmp 50) (Operand.tmp 49), 0, _, _, none⟩) (v := .pointer (some ⟨w.heap.size + 1, 0, none⟩)) rfl rfl (by kernel_rfl) (fun _ _ _ h => h) (by rfl) (by assumption) (fun wS hSw => ?_) ?_
        · (try dsimp only at hSw); go_simp
        simp only [Act.put, List.setIfInBounds_toArray, List.set_cons_zero, List.set_cons_succ]
        refine wpAnyZ_take (i := 5) (oi := ⟨some 39, Op.move (Operand.tmp 6), 3, _, _, none⟩) (oz := ⟨none, Op.store 23 (Operand.tmp 50) (Operand.tmp 49), 0, _, _, none⟩) (v := .int .i64 z) rfl rfl (by kernel_rfl) (fun _ _ _ h => h) (by rfl) (by assumption) (fun wS hSw => ?_) ?_
        · (try dsimp only at hSw); go_simp
        simp only [Act.put, List.setIfInBounds_toArray, List.set_cons_zero, List.set_cons_succ]
        refine wpAnyZ_take (i := 6) (oi := ⟨some 40, Op.move (Operand.tmp 3), 53, _, _, none⟩) (oz := ⟨none, Op.store 23 (Operand.tmp 50) (Operand.tmp 49), 0, _, _, none⟩) (v := .pointer (some ⟨w.heap.size + 1, 0, none⟩)) rfl rfl (by kernel_rfl) (fun _ _ _ h => h) (by rfl) (by assumption) (fun wS hSw => ?_) ?_
        · (try dsimp only at hSw); go_simp
        simp only [Act.put, List.setIfInBounds_toArray, List.set_cons_zero, List.set_cons_succ]
        refine wpAnyZ_take (i := 9) (oi := ⟨some 43, Op.move (Operand.tmp 3), 53, _, _, none⟩) (oz := ⟨none, Op.store 23 (Operand.tmp 50) (Operand.tmp 49), 0, _, _, none⟩) (v := .pointer (some ⟨w.heap.size + 1, 0, none⟩)) rfl rfl (by kernel_rfl) (fun _ _ _ h => h) (by rfl) (by assumption) (fun wS hSw => ?_) ?_
        · (try dsimp only at hSw); go_simp
        simp only [Act.put, List.setIfInBounds_toArray, List.set_cons_zero, List.set_cons_succ]
        refine wpAnyZ_take (i := 11) (oi := ⟨some 45, Op.move (Operand.tmp 3), 53, _, _, none⟩) (oz := ⟨none, Op.store 23 (Operand.tmp 50) (Operand.tmp 49), 0, _, _, none⟩) (v := .pointer (some ⟨w.heap.size + 1, 0, none⟩)) rfl rfl (by kernel_rfl) (fun _ _ _ h => h) (by rfl) (by assumption) (fun wS hSw => ?_) ?_
        · (try dsimp only at hSw); go_simp
        simp only [Act.put, List.setIfInBounds_toArray, List.set_cons_zero, List.set_cons_succ]
        refine wpAnyZ_listed #[true, true, true, false, false, true, true, false, false, true, false, true, false, false, false, false, false, false] (by kernel_rfl) ?_
        refine wpAnyZ_one (i := 3) (o := ⟨some 37, Op.call { callee := Callee.value (Operand.func 26), args := #[Operand.tmp 36, Operand.const (Value.int IntKind.i64 4)], argTypes := #[53, 3] }, 3, _, _, none⟩) (by kernel_rfl) rfl (fun K hK => ?_)
        go_simp
        go_at_call 26
        refine (next_any X0 HR.out ht4 4 (by decide) (by decide)).mono ?_
        rintro e v1 ⟨q1, t5, rfl, hq10, hq11, ht5, X1, Oq1⟩
        have P1 := Oq1.ownE hD P0
        have hA8 : A + 1 ≤ v1.heap.size := Nat.le_trans hA7 Oq1.1
        go_wp2_with fail
        try clear hHeld
        refine hK.out _ _ (X1.tail.fact (.head _) (i := 1) rfl) (fun hHeld => ?_)
        clear hK K
        try simp only [List.setIfInBounds_toArray, List.set_cons_zero, List.set_cons_succ]
        refine wpAnyZ_listed #[true, true, true, true, false, true, true, false, false, true, false, true, false, false, false, false, false, false] (by kernel_rfl) ?_
        clear X0 P0 Oq1 hA7
        have s5 : IntKind.i64.wrap (1 + q1) = 1 + q1 := by rw [IntKind.wrap_i64]; omega
        have s6 : wrap64 (1 + q1) = 1 + q1 := IntWalk.wrap64_in _ ⟨by omega, by omega⟩
        refine wpAnyZ_take (i := 4) (oi := ⟨some 38, Op.binOp BinOp.add 3 (Operand.const (Value.int IntKind.i64 1)) (Operand.tmp 37) 3, 3, _, _, none⟩) (oz := ⟨none, Op.store 23 (Operand.tmp 50) (Operand.tmp 49), 0, _, _, none⟩) (v := .int .i64 (1 + q1)) rfl rfl (by kernel_rfl) (fun _ _ _ h => h) (by rfl) (by assumption) (fun wS hSw => ?_) ?_
        · (try dsimp only at hSw); go_simp
        simp only [Act.put, List.setIfInBounds_toArray, List.set_cons_zero, List.set_cons_succ]
        refine wpAnyZ_listed #[true, true, true, true, true, true, true, false, false, true, false, true, false, false, false, false, false, false] (by kernel_rfl) ?_
        refine wpAnyZ_one (i := 7) (o := ⟨some 41, Op.call { callee := Callee.value (Operand.func 26), args := #[Operand.tmp 40, Operand.const (Value.int IntKind.i64 20)], argTypes := #[53, 3] }, 3, _, _, none⟩) (by kernel_rfl) rfl (fun K hK => ?_)
        go_simp
        go_at_call 26
        refine (next_any X1 HR.out ht5 20 (by decide) (by decide)).mono ?_
        rintro e v2 ⟨q2, t6, rfl, hq20, hq21, ht6, X2, Oq2⟩
        have P2 := Oq2.ownE hD P1
        have hA9 : A + 1 ≤ v2.heap.size := Nat.le_trans hA8 Oq2.1
        go_wp2_with fail
        try clear hHeld
        refine hK.out _ _ (X2.tail.fact (.head _) (i := 1) rfl) (fun hHeld => ?_)
        clear hK K
        try simp only [List.setIfInBounds_toArray, List.set_cons_zero, List.set_cons_succ]
        refine wpAnyZ_listed #[true, true, true, true, true, true, true, true, false, true, false, true, false, false, false, false, false, false] (by kernel_rfl) ?_
        clear X1 P1 Oq2 hA8
        have s7 : IntKind.i64.wrap (1 + q2) = 1 + q2 := by rw [IntKind.wrap_i64]; omega
        have s8 : wrap64 (1 + q2) = 1 + q2 := IntWalk.wrap64_in _ ⟨by omega, by omega⟩
        refine wpAnyZ_take (i := 8) (oi := ⟨some 42, Op.binOp BinOp.add 3 (Operand.const (Value.int IntKind.i64 1)) (Operand.tmp 41) 3, 3, _, _, none⟩) (oz := ⟨none, Op.store 23 (Operand.tmp 50) (Operand.tmp 49), 0, _, _, none⟩) (v := .int .i64 (1 + q2)) rfl rfl (by kernel_rfl) (fun _ _ _ h => h) (by rfl) (by assumption) (fun wS hSw => ?_) ?_
        · (try dsimp only at hSw); go_simp
        simp only [Act.put, List.setIfInBounds_toArray, List.set_cons_zero, List.set_cons_succ]
        refine wpAnyZ_listed #[true, true, true, true, true, true, true, true, true, true, false, true, false, false, false, false, false, false] (by kernel_rfl) ?_
        refine wpAnyZ_one (i := 10) (o := ⟨some 44, Op.call { callee := Callee.value (Operand.func 26), args := #[Operand.tmp 43, Operand.const (Value.int IntKind.i64 20)], argTypes := #[53, 3] }, 3, _, _, none⟩) (by kernel_rfl) rfl (fun K hK => ?_)
        go_simp
        go_at_call 26
        refine (next_any X2 HR.out ht6 20 (by decide) (by decide)).mono ?_
        rintro e v3 ⟨q3, t7, rfl, hq30, hq31, ht7, X3, Oq3⟩
        have P3 := Oq3.ownE hD P2
        have hA10 : A + 1 ≤ v3.heap.size := Nat.le_trans hA9 Oq3.1
        go_wp2_with fail
        try clear hHeld
        refine hK.out _ _ (X3.tail.fact (.head _) (i := 1) rfl) (fun hHeld => ?_)
        clear hK K
        try simp only [List.setIfInBounds_toArray, List.set_cons_zero, List.set_cons_succ]
        refine wpAnyZ_listed #[true, true, true, true, true, true, true, true, true, true, true, true, false, false, false, false, false, false] (by kernel_rfl) ?_
        clear X2 P2 Oq3 hA9
        refine wpAnyZ_one (i := 12) (o := ⟨some 46, Op.call { callee := Callee.value (Operand.func 26), args := #[Operand.tmp 45, Operand.const (Value.int IntKind.i64 4)], argTypes := #[53, 3] }, 3, _, _, none⟩) (by kernel_rfl) rfl (fun K hK => ?_)
        go_simp
        go_at_call 26
        refine (next_any X3 HR.out ht7 4 (by decide) (by decide)).mono ?_
        rintro e v4 ⟨q4, t8, rfl, hq40, hq41, ht8, X4, Oq4⟩
        have P4 := Oq4.ownE hD P3
        have hA11 : A + 1 ≤ v4.heap.size := Nat.le_trans hA10 Oq4.1
        go_wp2_with fail
        try clear hHeld
        refine hK.out _ _ (X4.tail.fact (.head _) (i := 1) rfl) (fun hHeld => ?_)
        clear hK K
        try simp only [List.setIfInBounds_toArray, List.set_cons_zero, List.set_cons_succ]
        refine wpAnyZ_listed #[true, true, true, true, true, true, true, true, true, true, true, true, true, false, false, false, false, false] (by kernel_rfl) ?_
        clear X3 P3 Oq4 hA10
        refine wpAnyZ_take (i := 13) (oi := ⟨some 47, Op.build 30 #[(0, Operand.tmp 38), (1, Operand.tmp 39), (2, Operand.tmp 42), (3, Operand.tmp 44), (4, Operand.tmp 46)], 30, _, _, none⟩) (oz := ⟨none, Op.store 23 (Operand.tmp 50) (Operand.tmp 49), 0, _, _, none⟩) (v := .agg #[.int .i64 (1 + q1), .int .i64 z, .int .i64 (1 + q2), .int .i64 q3, .int .i64 q4]) rfl rfl (by kernel_rfl) (fun _ _ _ h => h) (by rfl) (by assumption) (fun wS hSw => ?_) ?_
        · (try dsimp only at hSw); go_simp
        simp only [Act.put, List.setIfInBounds_toArray, List.set_cons_zero, List.set_cons_succ]
        refine wpAnyZ_listed #[true, true, true, true, true, true, true, true, true, true, true, true, true, true, false, false, false, false] (by kernel_rfl) ?_
        refine wpAnyZ_one (i := 14) (o := ⟨some 48, Op.buildSlice 23 1 #[(0, Operand.tmp 47)], 23, _, _, none⟩) (by kernel_rfl) rfl (fun K hK => ?_)
        have X5 := X4.push [.int .i64 (1 + q1), .int .i64 z, .int .i64 (1 + q2), .int .i64 q3, .int .i64 q4] 30
        have P5 := P4.later ((Below.refl _ v4).alloc (Nat.le_refl _) (.cells #[.int .i64 (1 + q1), .int .i64 z, .int .i64 (1 + q2), .int .i64 q3, .int .i64 q4] 30))
        have RE := row_one (T := tE) v4 30 ⟨1 + q1, z, 1 + q2, q3, q4⟩ _ rfl
        have hA12 : A + 1 ≤ (v4.alloc (.cells #[.int .i64 (1 + q1), .int .i64 z, .int .i64 (1 + q2), .int .i64 q3, .int .i64 q4] 30)).heap.size := by rw [size_alloc]; omega
        go_simp
        change Has w _ (v4.alloc (.cells #[.int .i64 (1 + q1), .int .i64 z, .int .i64 (1 + q2), .int .i64 q3, .int .i64 q4] 30)) at X5
        change Row tE (v4.alloc (.cells #[.int .i64 (1 + q1), .int .i64 z, .int .i64 (1 + q2), .int .i64 q3, .int .i64 q4] 30)) _ _ at RE
        generalize v4.alloc (.cells #[.int .i64 (1 + q1), .int .i64 z, .int .i64 (1 + q2), .int .i64 q3, .int .i64 q4] 30) = v5 at *
        generalize v4.heap.size = T at *
        try clear hHeld
        refine hK.out _ _ (X5.tail.tail.fact (.head _) (i := 1) rfl) (fun hHeld => ?_)
        clear hK K
        try simp only [List.setIfInBounds_toArray, List.set_cons_zero, List.set_cons_succ]
        refine wpAnyZ_listed #[true, true, true, true, true, true, true, true, true, true, true, true, true, true, true, false, false, false] (by kernel_rfl) ?_
        clear X4 P4 hA11
        refine wpAnyZ_one (i := 15) (o := ⟨some 49, Op.call { callee := Callee.builtin Builtin.append, args := #[Operand.tmp 35, Operand.tmp 48], argTypes := #[23, 23] }, 23, _, _, none⟩) (by kernel_rfl) rfl (fun K hK => ?_)
        refine step_append tE_ok rfl _ _ rfl rfl P5 rfl RE (by simp only [List.length_singleton]; omega) (by omega) ?_
        intro u8 v6 P6 G6 _
        have X6 := X5.tail.grownN (by intro p hp e; have := (P5.lt e).1; simp only [List.mem_cons, List.not_mem_nil, or_false] at hp; rcases hp with rfl | rfl | rfl <;> simp only at this <;> omega) (fun q e => by have := (P5.lt e).1; omega) G6
        have hA13 : A + 1 ≤ v6.heap.size := Nat.le_trans hA12 G6.size
        simp only [Act.put, List.setIfInBounds_toArray, List.set_cons_zero, List.set_cons_succ]
        try clear hHeld
        refine hK.out _ _ (X6.tail.fact (.head _) (i := 1) rfl) (fun hHeld => ?_)
        clear hK K
        try simp only [List.setIfInBounds_toArray, List.set_cons_zero, List.set_cons_succ]
        refine wpAnyZ_listed #[true, true, true, true, true, true, true, true, true, true, true, true, true, true, true, true, false, false] (by kernel_rfl) ?_
        clear X5 P5 RE hA12 G6
        obtain ⟨ua, uc, hu8, -, -⟩ := P6.form
        obtain ⟨NN, hNN⟩ : ∃ n, (es ++ [(⟨1 + q1, z, 1 + q2, q3, q4⟩ : Ev)]).length = n := ⟨_, rfl⟩
        rw [hNN] at hu8
        subst hu8
        clear hNN
        refine wpAnyZ_take (i := 16) (oi := ⟨some 50, Op.fieldAddr 25 (Operand.tmp 4) 1, 0, _, _, none⟩) (oz := ⟨none, Op.store 23 (Operand.tmp 50) (Operand.tmp 49), 0, _, _, none⟩) (v := .pointer (some ⟨A, 1, none⟩)) rfl rfl (by kernel_rfl) (fun _ _ _ h => h) (by rfl) (by assumption) (fun wS hSw => ?_) ?_
        · (try dsimp only at hSw); go_simp
        simp only [Act.put, List.setIfInBounds_toArray, List.set_cons_zero, List.set_cons_succ]
        refine wpAnyZ_listed #[true, true, true, true, true, true, true, true, true, true, true, true, true, true, true, true, true, false] (by kernel_rfl) ?_
        refine wpAnyZ_step (o := ⟨none, Op.store 23 (Operand.tmp 50) (Operand.tmp 49), 0, _, _, none⟩) (by kernel_rfl) (by decide) rfl (fun K hK => ?_)
        have f0 := X6.tail.free (.head _) (i := 1) rfl
        have k0 := X6.tail.fact (.head _) (i := 1) rfl
        simp only at f0 k0
        go_simp
        have X7 := X6.swap.set 1 (by simp) (.slice ua NN uc)
        have P7 := setB_ownE (o := 1) (u := .slice ua NN uc) (show A < A + 1 by omega) P6
        have hA14 : A + 1 ≤ (v6.setCell ⟨A, 1, none⟩ (.slice ua NN uc)).heap.size := by rw [World.size_setCell]; exact hA13
        generalize v6.setCell ⟨A, 1, none⟩ (.slice ua NN uc) = v7 at *
        clear f0 k0
        try clear hHeld
        refine hK.out _ _ ?_
        clear hK K
        try simp only [List.setIfInBounds_toArray, List.set_cons_zero, List.set_cons_succ]
        refine wpAnyH_listed #[true, true, true, true, true, true, true, true, true, true, true, true, true, true, true, true, true, true] (by kernel_rfl) ?_
        have hHeld := True.intro
        refine wpAnyH_done (by kernel_rfl) ?_ _
        refine Calm.normal ?_
        go_wp2_with fail
        go_roundw
        case rel => exact ⟨k + 1, t8, z, _, es ++ [⟨1 + q1, z, 1 + q2, q3, q4⟩], by omega, by go_num, rfl, by rw [List.length_append, List.length_singleton]; omega, Lib.hid (HC.out.snoc (by omega) ⟨hz2.1, hle⟩ HX2.out), by omega, Lib.hid (le_snoc (e := ⟨1 + q1, z, 1 + q2, q3, q4⟩) HX2.out), ht8, X7.swap, P7, hA14⟩
        case measure => simp [RowKit.intOf]; omega
      · go_wp2_with fail
        go_roundw
        case rel => exact ⟨k + 1, t4, z, ev, es, by omega, by go_num, rfl, by omega, HC, by omega, Lib.hid (fun i hi => Int.le_of_lt (HX2.out i hi)), ht4, C4, hO3, hA3⟩
        case measure => simp [RowKit.intOf]; omega
    · have b1 : ¬ (k : Int) < M := by omega
      obtain ⟨ea, ec, rfl, -, -⟩ := hO.form
      have k0 := C.tail.fact (.head _) (i := 0) rfl
      have k1 := C.tail.fact (.head _) (i := 1) rfl
      have k2 := C.tail.tail.fact (.head _) (i := 0) rfl
      have k3 := C.tail.tail.fact (.head _) (i := 1) rfl
      have f2 := C.tail.tail.free (.head _) (i := 0) rfl
      have f3 := C.tail.tail.free (.head _) (i := 1) rfl
      simp only at k0 k1 k2 k3 f2 f3
      go_wp2_with fail
      have X := C.third.set2 (.int .i64 dd) (.slice ea es.length ec)
      have hO9 := setB_ownE (o := 1) (u := .slice ea es.length ec) (show w.heap.size < A + 1 by omega) (setB_ownE (o := 0) (u := .int .i64 dd) (show w.heap.size < A + 1 by omega) hO)
      generalize (wr.setCell ⟨w.heap.size, 0, none⟩ (.int .i64 dd)).setCell ⟨w.heap.size, 1, none⟩ (.slice ea es.length ec) = w9 at *
      obtain ⟨d1, d2⟩ := X.pt
      exact bodyPost_ret (v := .agg #[.int .i64 dd, .slice ea es.length ec]) (by simp [results, Try.results9, go_sem, d1, d2]) rfl ⟨dd, _, rfl, es, hO9.row, HC.out, X.low⟩
end Go.Proofs.Ytfcoblapbcdaiaa
