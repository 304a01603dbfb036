/- Move and SpotSide against the reference. -/
import Derived.Test.YtoehojopoajcaaaLaw4
namespace Go.Proofs.Ytoehojopoajcaaa
open Go.RowKit Go.Lib

set_option linter.unusedSimpArgs false in
set_option maxRecDepth 100000 in
set_option maxHeartbeats 64000000 in
theorem moves_any (a0 a1 a2 b0 b1 b2 fn fd p0 p1 p2 : Int) (w : World) :
    Calls Try.prog 7 #[.agg #[.int .i64 a0, .int .i64 a1, .int .i64 a2, .int .i64 b0, .int .i64 b1, .int .i64 b2, .int .i64 fn, .int .i64 fd], .agg #[.int .i64 p0, .int .i64 p1, .int .i64 p2]] w fun e w' => e = .returned (.bool true) ∧ Below w.heap.size w w' := by
  have C0 := has2 (w := w) [.int .i64 a0, .int .i64 a1, .int .i64 a2, .int .i64 b0, .int .i64 b1, .int .i64 b2, .int .i64 fn, .int .i64 fd] [.int .i64 p0, .int .i64 p1, .int .i64 p2] 52 34
  obtain ⟨A0, hA0⟩ : ∃ v, cutX a0 a2 = v := ⟨_, rfl⟩
  have HA0 := Lib.hid hA0
  clear hA0
  obtain ⟨A1, hA1⟩ : ∃ v, cutX a1 a2 = v := ⟨_, rfl⟩
  have HA1 := Lib.hid hA1
  clear hA1
  obtain ⟨A2, hA2⟩ : ∃ v, cutD a2 = v := ⟨_, rfl⟩
  have HA2 := Lib.hid hA2
  clear hA2
  obtain ⟨B0, hB0⟩ : ∃ v, cutX b0 b2 = v := ⟨_, rfl⟩
  have HB0 := Lib.hid hB0
  clear hB0
  obtain ⟨B1, hB1⟩ : ∃ v, cutX b1 b2 = v := ⟨_, rfl⟩
  have HB1 := Lib.hid hB1
  clear hB1
  obtain ⟨B2, hB2⟩ : ∃ v, cutD b2 = v := ⟨_, rfl⟩
  have HB2 := Lib.hid hB2
  clear hB2
  obtain ⟨D0, hD0⟩ : ∃ v, cutX p0 p2 = v := ⟨_, rfl⟩
  have HD0 := Lib.hid hD0
  clear hD0
  obtain ⟨D1, hD1⟩ : ∃ v, cutX p1 p2 = v := ⟨_, rfl⟩
  have HD1 := Lib.hid hD1
  clear hD1
  obtain ⟨D2, hD2⟩ : ∃ v, cutD p2 = v := ⟨_, rfl⟩
  have HD2 := Lib.hid hD2
  clear hD2
  obtain ⟨D, hD⟩ : ∃ D, fd % 1048576 + 1 = D := ⟨_, rfl⟩
  have bD : 1 ≤ D ∧ D ≤ 1048576 := by omega
  have wD : IntKind.i64.wrap (fd % 1048576 + 1) = D := hD ▸ IntWalk.i64_in _ (by omega)
  obtain ⟨F, hF⟩ : ∃ F, fn % (D + 1) = F := ⟨_, rfl⟩
  have wE : IntKind.i64.wrap (D + 1) = D + 1 := IntWalk.i64_in _ (by omega)
  have HF := Lib.hid hF
  clear hF hD
  go_enter Try.func7, Try.ntmps7
  go_wp2_with fail
  change Has w _ ((w.alloc (.cells #[.int .i64 a0, .int .i64 a1, .int .i64 a2, .int .i64 b0, .int .i64 b1, .int .i64 b2, .int .i64 fn, .int .i64 fd] 52)).alloc (.cells #[.int .i64 p0, .int .i64 p1, .int .i64 p2] 34)) at C0
  generalize (w.alloc (.cells #[.int .i64 a0, .int .i64 a1, .int .i64 a2, .int .i64 b0, .int .i64 b1, .int .i64 b2, .int .i64 fn, .int .i64 fd] 52)).alloc (.cells #[.int .i64 p0, .int .i64 p1, .int .i64 p2] 34) = w0 at *
  refine (Has.call C0 (sane _)).mono ?_
  rintro e w1 ⟨rfl, C1⟩
  generalize hM : w.heap.size = M at *
  generalize hN : M + 1 = N at *
  clear hM hN C0
  go_upto_region 2 with fail
  have X0 := C1.drew
  refine wp_region_held_drew (S := (fun w' => (w'.cell? ⟨M, 0, none⟩ = some (.int .i64 a0) ∧ w'.cell? ⟨M, 1, none⟩ = some (.int .i64 a1) ∧ w'.cell? ⟨M, 2, none⟩ = some (.int .i64 a2) ∧ w'.cell? ⟨M, 3, none⟩ = some (.int .i64 b0) ∧ w'.cell? ⟨M, 4, none⟩ = some (.int .i64 b1) ∧ w'.cell? ⟨M, 5, none⟩ = some (.int .i64 b2) ∧ w'.cell? ⟨M, 6, none⟩ = some (.int .i64 fn) ∧ w'.cell? ⟨M, 7, none⟩ = some (.int .i64 fd) ∧ w'.cell? ⟨N, 0, none⟩ = some (.int .i64 p0) ∧ w'.cell? ⟨N, 1, none⟩ = some (.int .i64 p1) ∧ w'.cell? ⟨N, 2, none⟩ = some (.int .i64 p2)) ∧ Has w [(M, [.int .i64 a0, .int .i64 a1, .int .i64 a2, .int .i64 b0, .int .i64 b1, .int .i64 b2, .int .i64 fn, .int .i64 fd]), (N, [.int .i64 p0, .int .i64 p1, .int .i64 p2])] w')) (by kernel_rfl) (X0.m83) (fun hHeld => ?_)
  refine wpAnyT_begin [0, 1, 3, 4, 6] (by kernel_rfl) (by kernel_rfl) ?_
  refine wpAnyT_take (oi := ⟨some 20, Op.fieldAddr 52 (Operand.tmp 2) 0, 0, _, _, none⟩) (v := .pointer (some ⟨M, 0, none⟩)) rfl (fun _ _ _ h => h) (by rfl) (by assumption) (fun wS hSw => ?_) ?_
  · (try dsimp only at hSw); go_simp
  simp only [Act.put, List.setIfInBounds_toArray, List.set_cons_zero, List.set_cons_succ]
  refine wpAnyT_take (oi := ⟨some 21, Op.load 34 (Operand.tmp 20), 34, _, _, none⟩) (v := .agg #[.int .i64 a0, .int .i64 a1, .int .i64 a2]) rfl (fun _ _ _ h => h) (by rfl) (by assumption) (fun wS hSw => ?_) ?_
  · (try dsimp only at hSw); go_simp
  simp only [Act.put, List.setIfInBounds_toArray, List.set_cons_zero, List.set_cons_succ]
  refine wpAnyT_take (oi := ⟨some 23, Op.fieldAddr 52 (Operand.tmp 2) 1, 0, _, _, none⟩) (v := .pointer (some ⟨M, 3, none⟩)) rfl (fun _ _ _ h => h) (by rfl) (by assumption) (fun wS hSw => ?_) ?_
  · (try dsimp only at hSw); go_simp
  simp only [Act.put, List.setIfInBounds_toArray, List.set_cons_zero, List.set_cons_succ]
  refine wpAnyT_take (oi := ⟨some 24, Op.load 34 (Operand.tmp 23), 34, _, _, none⟩) (v := .agg #[.int .i64 b0, .int .i64 b1, .int .i64 b2]) rfl (fun _ _ _ h => h) (by rfl) (by assumption) (fun wS hSw => ?_) ?_
  · (try dsimp only at hSw); go_simp
  simp only [Act.put, List.setIfInBounds_toArray, List.set_cons_zero, List.set_cons_succ]
  refine wpAnyT_take (oi := ⟨some 26, Op.load 34 (Operand.tmp 3), 34, _, _, none⟩) (v := .agg #[.int .i64 p0, .int .i64 p1, .int .i64 p2]) rfl (fun _ _ _ h => h) (by rfl) (by assumption) (fun wS hSw => ?_) ?_
  · (try dsimp only at hSw); go_simp
  simp only [Act.put, List.setIfInBounds_toArray, List.set_cons_zero, List.set_cons_succ]
  refine wpAnyT_end ?_
  refine wpAnyH_listed #[true, true, false, true, true, false, true, false, false, false, false, false, false, false] (by kernel_rfl) ?_
  refine any_ind (n := St.left) (l := fun x => #[true, true, decide (1 ≤ x.n), true, true, decide (2 ≤ x.n), true, decide (3 ≤ x.n), x.a.isSome, x.b.isSome, x.c.isSome, false, false, false]) (u := fun x t => putc 22 (.agg #[.int .i64 A0, .int .i64 A1, .int .i64 A2]) (decide (1 ≤ x.n)) (putc 25 (.agg #[.int .i64 B0, .int .i64 B1, .int .i64 B2]) (decide (2 ≤ x.n)) (putc 27 (.agg #[.int .i64 D0, .int .i64 D1, .int .i64 D2]) (decide (3 ≤ x.n)) (putp 6 x.a (putp 7 x.b (putp 8 x.c t)))))) (I := fun x w' => x.n ≤ 3 ∧ Has w (bl [.int .i64 0, .int .i64 0, .int .i64 0] x.a (bl [.int .i64 0, .int .i64 0, .int .i64 0] x.b (bl [.int .i64 0, .int .i64 0, .int .i64 0] x.c [(M, [.int .i64 a0, .int .i64 a1, .int .i64 a2, .int .i64 b0, .int .i64 b1, .int .i64 b2, .int .i64 fn, .int .i64 fd]), (N, [.int .i64 p0, .int .i64 p1, .int .i64 p2])]))) w') (m := 3) ⟨none, none, none, 0⟩ (by kernel_rfl) (by kernel_rfl) (by kernel_rfl) ⟨Nat.zero_le _, X0⟩ ?_ ?_
  · rintro k ih ⟨pa, pb, pc, c⟩ w2 hk ⟨hc, hH⟩
    clear hHeld
    obtain rfl | rfl | rfl | rfl : c = 0 ∨ c = 1 ∨ c = 2 ∨ c = 3 := by simp only at hc; omega
    · cases pa with
      | none =>
        cases pb with
        | none =>
          cases pc with
          | none =>
            simp only [St.left, Option.isSome, Bool.false_eq_true, if_false, if_true] at hk
            simp only [putc, putp, Act.put, decide_eq_true_eq, decide_true, decide_false, Nat.le_refl, Nat.reduceLeDiff, List.setIfInBounds_toArray, List.set_cons_zero, List.set_cons_succ]
            refine wpAnyH_listed #[true, true, false, true, true, false, true, false, false, false, false, false, false, false] (by kernel_rfl) ?_
            refine wpAnyH_ready (rs := [2, 8, 9, 10]) (by kernel_rfl) (by simp) ?_
            refine AllReadyH.cons (o := ⟨some 22, Op.call { callee := Callee.value (Operand.func 36), args := #[Operand.tmp 21], argTypes := #[34] }, 34, _, _, none⟩) rfl (fun K hK => ?_) (?_)
            · go_simp
              go_at_call 36
              refine (Has.call hH (cut_is a0 a1 a2 A0 A1 A2 HA0.out HA1.out HA2.out _)).mono ?_
              rintro e W ⟨rfl, hC⟩
              go_wp2_with fail
              refine hK.out _ _ (Has.m83 hC) (fun _ => ?_)
              exact wpAnyH_cast rfl (by kernel_rfl) (by kernel_rfl) (ih ⟨none, none, none, 1⟩ _ (by simp only [St.left, Option.isSome, Bool.false_eq_true, if_false, if_true]; omega) ⟨by simp, hC⟩)
            refine AllReadyH.cons (o := ⟨some 6, Op.alloc 34, 0, _, _, none⟩) rfl (fun K hK => ?_) (?_)
            · go_simp
              have hC := (hH.push [.int .i64 0, .int .i64 0, .int .i64 0] 34)
              change Has w _ (w2.alloc (.cells #[.int .i64 0, .int .i64 0, .int .i64 0] 34)) at hC
              generalize w2.alloc (.cells #[.int .i64 0, .int .i64 0, .int .i64 0] 34) = W at *
              generalize w2.heap.size = P at *
              have hC' : Has w ([(P, [.int .i64 0, .int .i64 0, .int .i64 0])] ++ [(M, [.int .i64 a0, .int .i64 a1, .int .i64 a2, .int .i64 b0, .int .i64 b1, .int .i64 b2, .int .i64 fn, .int .i64 fd]), (N, [.int .i64 p0, .int .i64 p1, .int .i64 p2])]) W := hC
              refine hK.out _ _ (Has.m83 (hC.tail)) (fun _ => ?_)
              exact wpAnyH_cast rfl (by kernel_rfl) (by kernel_rfl) (ih ⟨some P, none, none, 0⟩ _ (by simp only [St.left, Option.isSome, Bool.false_eq_true, if_false, if_true]; omega) ⟨by simp, hC⟩)
            refine AllReadyH.cons (o := ⟨some 7, Op.alloc 34, 0, _, _, none⟩) rfl (fun K hK => ?_) (?_)
            · go_simp
              have hC := (hH.push [.int .i64 0, .int .i64 0, .int .i64 0] 34)
              change Has w _ (w2.alloc (.cells #[.int .i64 0, .int .i64 0, .int .i64 0] 34)) at hC
              generalize w2.alloc (.cells #[.int .i64 0, .int .i64 0, .int .i64 0] 34) = W at *
              generalize w2.heap.size = Q at *
              have hC' : Has w ([(Q, [.int .i64 0, .int .i64 0, .int .i64 0])] ++ [(M, [.int .i64 a0, .int .i64 a1, .int .i64 a2, .int .i64 b0, .int .i64 b1, .int .i64 b2, .int .i64 fn, .int .i64 fd]), (N, [.int .i64 p0, .int .i64 p1, .int .i64 p2])]) W := hC
              refine hK.out _ _ (Has.m83 (hC.tail)) (fun _ => ?_)
              exact wpAnyH_cast rfl (by kernel_rfl) (by kernel_rfl) (ih ⟨none, some Q, none, 0⟩ _ (by simp only [St.left, Option.isSome, Bool.false_eq_true, if_false, if_true]; omega) ⟨by simp, hC⟩)
            refine AllReadyH.cons (o := ⟨some 8, Op.alloc 34, 0, _, _, none⟩) rfl (fun K hK => ?_) (AllReadyH.nil)
            · go_simp
              have hC := (hH.push [.int .i64 0, .int .i64 0, .int .i64 0] 34)
              change Has w _ (w2.alloc (.cells #[.int .i64 0, .int .i64 0, .int .i64 0] 34)) at hC
              generalize w2.alloc (.cells #[.int .i64 0, .int .i64 0, .int .i64 0] 34) = W at *
              generalize w2.heap.size = R at *
              have hC' : Has w ([(R, [.int .i64 0, .int .i64 0, .int .i64 0])] ++ [(M, [.int .i64 a0, .int .i64 a1, .int .i64 a2, .int .i64 b0, .int .i64 b1, .int .i64 b2, .int .i64 fn, .int .i64 fd]), (N, [.int .i64 p0, .int .i64 p1, .int .i64 p2])]) W := hC
              refine hK.out _ _ (Has.m83 (hC.tail)) (fun _ => ?_)
              exact wpAnyH_cast rfl (by kernel_rfl) (by kernel_rfl) (ih ⟨none, none, some R, 0⟩ _ (by simp only [St.left, Option.isSome, Bool.false_eq_true, if_false, if_true]; omega) ⟨by simp, hC⟩)
          | some R =>
            simp only [St.left, Option.isSome, Bool.false_eq_true, if_false, if_true] at hk
            simp only [putc, putp, Act.put, decide_eq_true_eq, decide_true, decide_false, Nat.le_refl, Nat.reduceLeDiff, List.setIfInBounds_toArray, List.set_cons_zero, List.set_cons_succ]
            refine wpAnyH_listed #[true, true, false, true, true, false, true, false, false, false, true, false, false, false] (by kernel_rfl) ?_
            refine wpAnyH_ready (rs := [2, 8, 9]) (by kernel_rfl) (by simp) ?_
            refine AllReadyH.cons (o := ⟨some 22, Op.call { callee := Callee.value (Operand.func 36), args := #[Operand.tmp 21], argTypes := #[34] }, 34, _, _, none⟩) rfl (fun K hK => ?_) (?_)
            · go_simp
              go_at_call 36
              refine (Has.call hH (cut_is a0 a1 a2 A0 A1 A2 HA0.out HA1.out HA2.out _)).mono ?_
              rintro e W ⟨rfl, hC⟩
              go_wp2_with fail
              refine hK.out _ _ (Has.m83 hC.tail) (fun _ => ?_)
              exact wpAnyH_cast rfl (by kernel_rfl) (by kernel_rfl) (ih ⟨none, none, some R, 1⟩ _ (by simp only [St.left, Option.isSome, Bool.false_eq_true, if_false, if_true]; omega) ⟨by simp, hC⟩)
            refine AllReadyH.cons (o := ⟨some 6, Op.alloc 34, 0, _, _, none⟩) rfl (fun K hK => ?_) (?_)
            · go_simp
              have hC := (hH.push [.int .i64 0, .int .i64 0, .int .i64 0] 34)
              change Has w _ (w2.alloc (.cells #[.int .i64 0, .int .i64 0, .int .i64 0] 34)) at hC
              generalize w2.alloc (.cells #[.int .i64 0, .int .i64 0, .int .i64 0] 34) = W at *
              generalize w2.heap.size = P at *
              have hC' : Has w ([(P, [.int .i64 0, .int .i64 0, .int .i64 0]), (R, [.int .i64 0, .int .i64 0, .int .i64 0])] ++ [(M, [.int .i64 a0, .int .i64 a1, .int .i64 a2, .int .i64 b0, .int .i64 b1, .int .i64 b2, .int .i64 fn, .int .i64 fd]), (N, [.int .i64 p0, .int .i64 p1, .int .i64 p2])]) W := hC
              refine hK.out _ _ (Has.m83 (hC.tail.tail)) (fun _ => ?_)
              exact wpAnyH_cast rfl (by kernel_rfl) (by kernel_rfl) (ih ⟨some P, none, some R, 0⟩ _ (by simp only [St.left, Option.isSome, Bool.false_eq_true, if_false, if_true]; omega) ⟨by simp, hC⟩)
            refine AllReadyH.cons (o := ⟨some 7, Op.alloc 34, 0, _, _, none⟩) rfl (fun K hK => ?_) (AllReadyH.nil)
            · go_simp
              have hC := (hH.push [.int .i64 0, .int .i64 0, .int .i64 0] 34)
              change Has w _ (w2.alloc (.cells #[.int .i64 0, .int .i64 0, .int .i64 0] 34)) at hC
              generalize w2.alloc (.cells #[.int .i64 0, .int .i64 0, .int .i64 0] 34) = W at *
              generalize w2.heap.size = Q at *
              have hC' : Has w ([(Q, [.int .i64 0, .int .i64 0, .int .i64 0]), (R, [.int .i64 0, .int .i64 0, .int .i64 0])] ++ [(M, [.int .i64 a0, .int .i64 a1, .int .i64 a2, .int .i64 b0, .int .i64 b1, .int .i64 b2, .int .i64 fn, .int .i64 fd]), (N, [.int .i64 p0, .int .i64 p1, .int .i64 p2])]) W := hC
              refine hK.out _ _ (Has.m83 (hC.tail.tail)) (fun _ => ?_)
              exact wpAnyH_cast rfl (by kernel_rfl) (by kernel_rfl) (ih ⟨none, some Q, some R, 0⟩ _ (by simp only [St.left, Option.isSome, Bool.false_eq_true, if_false, if_true]; omega) ⟨by simp, hC⟩)
        | some Q =>
          cases pc with
          | none =>
            simp only [St.left, Option.isSome, Bool.false_eq_true, if_false, if_true] at hk
            simp only [putc, putp, Act.put, decide_eq_true_eq, decide_true, decide_false, Nat.le_refl, Nat.reduceLeDiff, List.setIfInBounds_toArray, List.set_cons_zero, List.set_cons_succ]
            refine wpAnyH_listed #[true, true, false, true, true, false, true, false, false, true, false, false, false, false] (by kernel_rfl) ?_
            refine wpAnyH_ready (rs := [2, 8, 10]) (by kernel_rfl) (by simp) ?_
            refine AllReadyH.cons (o := ⟨some 22, Op.call { callee := Callee.value (Operand.func 36), args := #[Operand.tmp 21], argTypes := #[34] }, 34, _, _, none⟩) rfl (fun K hK => ?_) (?_)
            · go_simp
              go_at_call 36
              refine (Has.call hH (cut_is a0 a1 a2 A0 A1 A2 HA0.out HA1.out HA2.out _)).mono ?_
              rintro e W ⟨rfl, hC⟩
              go_wp2_with fail
              refine hK.out _ _ (Has.m83 hC.tail) (fun _ => ?_)
              exact wpAnyH_cast rfl (by kernel_rfl) (by kernel_rfl) (ih ⟨none, some Q, none, 1⟩ _ (by simp only [St.left, Option.isSome, Bool.false_eq_true, if_false, if_true]; omega) ⟨by simp, hC⟩)
            refine AllReadyH.cons (o := ⟨some 6, Op.alloc 34, 0, _, _, none⟩) rfl (fun K hK => ?_) (?_)
            · go_simp
              have hC := (hH.push [.int .i64 0, .int .i64 0, .int .i64 0] 34)
              change Has w _ (w2.alloc (.cells #[.int .i64 0, .int .i64 0, .int .i64 0] 34)) at hC
              generalize w2.alloc (.cells #[.int .i64 0, .int .i64 0, .int .i64 0] 34) = W at *
              generalize w2.heap.size = P at *
              have hC' : Has w ([(P, [.int .i64 0, .int .i64 0, .int .i64 0]), (Q, [.int .i64 0, .int .i64 0, .int .i64 0])] ++ [(M, [.int .i64 a0, .int .i64 a1, .int .i64 a2, .int .i64 b0, .int .i64 b1, .int .i64 b2, .int .i64 fn, .int .i64 fd]), (N, [.int .i64 p0, .int .i64 p1, .int .i64 p2])]) W := hC
              refine hK.out _ _ (Has.m83 (hC.tail.tail)) (fun _ => ?_)
              exact wpAnyH_cast rfl (by kernel_rfl) (by kernel_rfl) (ih ⟨some P, some Q, none, 0⟩ _ (by simp only [St.left, Option.isSome, Bool.false_eq_true, if_false, if_true]; omega) ⟨by simp, hC⟩)
            refine AllReadyH.cons (o := ⟨some 8, Op.alloc 34, 0, _, _, none⟩) rfl (fun K hK => ?_) (AllReadyH.nil)
            · go_simp
              have hC := (hH.push [.int .i64 0, .int .i64 0, .int .i64 0] 34).swap
              change Has w _ (w2.alloc (.cells #[.int .i64 0, .int .i64 0, .int .i64 0] 34)) at hC
              generalize w2.alloc (.cells #[.int .i64 0, .int .i64 0, .int .i64 0] 34) = W at *
              generalize w2.heap.size = R at *
              have hC' : Has w ([(Q, [.int .i64 0, .int .i64 0, .int .i64 0]), (R, [.int .i64 0, .int .i64 0, .int .i64 0])] ++ [(M, [.int .i64 a0, .int .i64 a1, .int .i64 a2, .int .i64 b0, .int .i64 b1, .int .i64 b2, .int .i64 fn, .int .i64 fd]), (N, [.int .i64 p0, .int .i64 p1, .int .i64 p2])]) W := hC
              refine hK.out _ _ (Has.m83 (hC.tail.tail)) (fun _ => ?_)
              exact wpAnyH_cast rfl (by kernel_rfl) (by kernel_rfl) (ih ⟨none, some Q, some R, 0⟩ _ (by simp only [St.left, Option.isSome, Bool.false_eq_true, if_false, if_true]; omega) ⟨by simp, hC⟩)
          | some R =>
            simp only [St.left, Option.isSome, Bool.false_eq_true, if_false, if_true] at hk
            simp only [putc, putp, Act.put, decide_eq_true_eq, decide_true, decide_false, Nat.le_refl, Nat.reduceLeDiff, List.setIfInBounds_toArray, List.set_cons_zero, List.set_cons_succ]
            refine wpAnyH_listed #[true, true, false, true, true, false, true, false, false, true, true, false, false, false] (by kernel_rfl) ?_
            refine wpAnyH_ready (rs := [2, 8]) (by kernel_rfl) (by simp) ?_
            refine AllReadyH.cons (o := ⟨some 22, Op.call { callee := Callee.value (Operand.func 36), args := #[Operand.tmp 21], argTypes := #[34] }, 34, _, _, none⟩) rfl (fun K hK => ?_) (?_)
            · go_simp
              go_at_call 36
              refine (Has.call hH (cut_is a0 a1 a2 A0 A1 A2 HA0.out HA1.out HA2.out _)).mono ?_
              rintro e W ⟨rfl, hC⟩
              go_wp2_with fail
              refine hK.out _ _ (Has.m83 hC.tail.tail) (fun _ => ?_)
              exact wpAnyH_cast rfl (by kernel_rfl) (by kernel_rfl) (ih ⟨none, some Q, some R, 1⟩ _ (by simp only [St.left, Option.isSome, Bool.false_eq_true, if_false, if_true]; omega) ⟨by simp, hC⟩)
            refine AllReadyH.cons (o := ⟨some 6, Op.alloc 34, 0, _, _, none⟩) rfl (fun K hK => ?_) (AllReadyH.nil)
            · go_simp
              have hC := (hH.push [.int .i64 0, .int .i64 0, .int .i64 0] 34)
              change Has w _ (w2.alloc (.cells #[.int .i64 0, .int .i64 0, .int .i64 0] 34)) at hC
              generalize w2.alloc (.cells #[.int .i64 0, .int .i64 0, .int .i64 0] 34) = W at *
              generalize w2.heap.size = P at *
              have hC' : Has w ([(P, [.int .i64 0, .int .i64 0, .int .i64 0]), (Q, [.int .i64 0, .int .i64 0, .int .i64 0]), (R, [.int .i64 0, .int .i64 0, .int .i64 0])] ++ [(M, [.int .i64 a0, .int .i64 a1, .int .i64 a2, .int .i64 b0, .int .i64 b1, .int .i64 b2, .int .i64 fn, .int .i64 fd]), (N, [.int .i64 p0, .int .i64 p1, .int .i64 p2])]) W := hC
              refine hK.out _ _ (Has.m83 (hC.tail.tail.tail)) (fun _ => ?_)
              exact wpAnyH_cast rfl (by kernel_rfl) (by kernel_rfl) (ih ⟨some P, some Q, some R, 0⟩ _ (by simp only [St.left, Option.isSome, Bool.false_eq_true, if_false, if_true]; omega) ⟨by simp, hC⟩)
      | some P =>
        cases pb with
        | none =>
          cases pc with
          | none =>
            simp only [St.left, Option.isSome, Bool.false_eq_true, if_false, if_true] at hk
            simp only [putc, putp, Act.put, decide_eq_true_eq, decide_true, decide_false, Nat.le_refl, Nat.reduceLeDiff, List.setIfInBounds_toArray, List.set_cons_zero, List.set_cons_succ]
            refine wpAnyH_listed #[true, true, false, true, true, false, true, false, true, false, false, false, false, false] (by kernel_rfl) ?_
            refine wpAnyH_ready (rs := [2, 9, 10]) (by kernel_rfl) (by simp) ?_
            refine AllReadyH.cons (o := ⟨some 22, Op.call { callee := Callee.value (Operand.func 36), args := #[Operand.tmp 21], argTypes := #[34] }, 34, _, _, none⟩) rfl (fun K hK => ?_) (?_)
            · go_simp
              go_at_call 36
              refine (Has.call hH (cut_is a0 a1 a2 A0 A1 A2 HA0.out HA1.out HA2.out _)).mono ?_
              rintro e W ⟨rfl, hC⟩
              go_wp2_with fail
              refine hK.out _ _ (Has.m83 hC.tail) (fun _ => ?_)
              exact wpAnyH_cast rfl (by kernel_rfl) (by kernel_rfl) (ih ⟨some P, none, none, 1⟩ _ (by simp only [St.left, Option.isSome, Bool.false_eq_true, if_false, if_true]; omega) ⟨by simp, hC⟩)
            refine AllReadyH.cons (o := ⟨some 7, Op.alloc 34, 0, _, _, none⟩) rfl (fun K hK => ?_) (?_)
            · go_simp
              have hC := (hH.push [.int .i64 0, .int .i64 0, .int .i64 0] 34).swap
              change Has w _ (w2.alloc (.cells #[.int .i64 0, .int .i64 0, .int .i64 0] 34)) at hC
              generalize w2.alloc (.cells #[.int .i64 0, .int .i64 0, .int .i64 0] 34) = W at *
              generalize w2.heap.size = Q at *
              have hC' : Has w ([(P, [.int .i64 0, .int .i64 0, .int .i64 0]), (Q, [.int .i64 0, .int .i64 0, .int .i64 0])] ++ [(M, [.int .i64 a0, .int .i64 a1, .int .i64 a2, .int .i64 b0, .int .i64 b1, .int .i64 b2, .int .i64 fn, .int .i64 fd]), (N, [.int .i64 p0, .int .i64 p1, .int .i64 p2])]) W := hC
              refine hK.out _ _ (Has.m83 (hC.tail.tail)) (fun _ => ?_)
              exact wpAnyH_cast rfl (by kernel_rfl) (by kernel_rfl) (ih ⟨some P, some Q, none, 0⟩ _ (by simp only [St.left, Option.isSome, Bool.false_eq_true, if_false, if_true]; omega) ⟨by simp, hC⟩)
            refine AllReadyH.cons (o := ⟨some 8, Op.alloc 34, 0, _, _, none⟩) rfl (fun K hK => ?_) (AllReadyH.nil)
            · go_simp
              have hC := (hH.push [.int .i64 0, .int .i64 0, .int .i64 0] 34).swap
              change Has w _ (w2.alloc (.cells #[.int .i64 0, .int .i64 0, .int .i64 0] 34)) at hC
              generalize w2.alloc (.cells #[.int .i64 0, .int .i64 0, .int .i64 0] 34) = W at *
              generalize w2.heap.size = R at *
              have hC' : Has w ([(P, [.int .i64 0, .int .i64 0, .int .i64 0]), (R, [.int .i64 0, .int .i64 0, .int .i64 0])] ++ [(M, [.int .i64 a0, .int .i64 a1, .int .i64 a2, .int .i64 b0, .int .i64 b1, .int .i64 b2, .int .i64 fn, .int .i64 fd]), (N, [.int .i64 p0, .int .i64 p1, .int .i64 p2])]) W := hC
              refine hK.out _ _ (Has.m83 (hC.tail.tail)) (fun _ => ?_)
              exact wpAnyH_cast rfl (by kernel_rfl) (by kernel_rfl) (ih ⟨some P, none, some R, 0⟩ _ (by simp only [St.left, Option.isSome, Bool.false_eq_true, if_false, if_true]; omega) ⟨by simp, hC⟩)
          | some R =>
            simp only [St.left, Option.isSome, Bool.false_eq_true, if_false, if_true] at hk
            simp only [putc, putp, Act.put, decide_eq_true_eq, decide_true, decide_false, Nat.le_refl, Nat.reduceLeDiff, List.setIfInBounds_toArray, List.set_cons_zero, List.set_cons_succ]
            refine wpAnyH_listed #[true, true, false, true, true, false, true, false, true, false, true, false, false, false] (by kernel_rfl) ?_
            refine wpAnyH_ready (rs := [2, 9]) (by kernel_rfl) (by simp) ?_
            refine AllReadyH.cons (o := ⟨some 22, Op.call { callee := Callee.value (Operand.func 36), args := #[Operand.tmp 21], argTypes := #[34] }, 34, _, _, none⟩) rfl (fun K hK => ?_) (?_)
            · go_simp
              go_at_call 36
              refine (Has.call hH (cut_is a0 a1 a2 A0 A1 A2 HA0.out HA1.out HA2.out _)).mono ?_
              rintro e W ⟨rfl, hC⟩
              go_wp2_with fail
              refine hK.out _ _ (Has.m83 hC.tail.tail) (fun _ => ?_)
              exact wpAnyH_cast rfl (by kernel_rfl) (by kernel_rfl) (ih ⟨some P, none, some R, 1⟩ _ (by simp only [St.left, Option.isSome, Bool.false_eq_true, if_false, if_true]; omega) ⟨by simp, hC⟩)
            refine AllReadyH.cons (o := ⟨some 7, Op.alloc 34, 0, _, _, none⟩) rfl (fun K hK => ?_) (AllReadyH.nil)
            · go_simp
              have hC := (hH.push [.int .i64 0, .int .i64 0, .int .i64 0] 34).swap
              change Has w _ (w2.alloc (.cells #[.int .i64 0, .int .i64 0, .int .i64 0] 34)) at hC
              generalize w2.alloc (.cells #[.int .i64 0, .int .i64 0, .int .i64 0] 34) = W at *
              generalize w2.heap.size = Q at *
              have hC' : Has w ([(P, [.int .i64 0, .int .i64 0, .int .i64 0]), (Q, [.int .i64 0, .int .i64 0, .int .i64 0]), (R, [.int .i64 0, .int .i64 0, .int .i64 0])] ++ [(M, [.int .i64 a0, .int .i64 a1, .int .i64 a2, .int .i64 b0, .int .i64 b1, .int .i64 b2, .int .i64 fn, .int .i64 fd]), (N, [.int .i64 p0, .int .i64 p1, .int .i64 p2])]) W := hC
              refine hK.out _ _ (Has.m83 (hC.tail.tail.tail)) (fun _ => ?_)
              exact wpAnyH_cast rfl (by kernel_rfl) (by kernel_rfl) (ih ⟨some P, some Q, some R, 0⟩ _ (by simp only [St.left, Option.isSome, Bool.false_eq_true, if_false, if_true]; omega) ⟨by simp, hC⟩)
        | some Q =>
          cases pc with
          | none =>
            simp only [St.left, Option.isSome, Bool.false_eq_true, if_false, if_true] at hk
            simp only [putc, putp, Act.put, decide_eq_true_eq, decide_true, decide_false, Nat.le_refl, Nat.reduceLeDiff, List.setIfInBounds_toArray, List.set_cons_zero, List.set_cons_succ]
            refine wpAnyH_listed #[true, true, false, true, true, false, true, false, true, true, false, false, false, false] (by kernel_rfl) ?_
            refine wpAnyH_ready (rs := [2, 10]) (by kernel_rfl) (by simp) ?_
            refine AllReadyH.cons (o := ⟨some 22, Op.call { callee := Callee.value (Operand.func 36), args := #[Operand.tmp 21], argTypes := #[34] }, 34, _, _, none⟩) rfl (fun K hK => ?_) (?_)
            · go_simp
              go_at_call 36
              refine (Has.call hH (cut_is a0 a1 a2 A0 A1 A2 HA0.out HA1.out HA2.out _)).mono ?_
              rintro e W ⟨rfl, hC⟩
              go_wp2_with fail
              refine hK.out _ _ (Has.m83 hC.tail.tail) (fun _ => ?_)
              exact wpAnyH_cast rfl (by kernel_rfl) (by kernel_rfl) (ih ⟨some P, some Q, none, 1⟩ _ (by simp only [St.left, Option.isSome, Bool.false_eq_true, if_false, if_true]; omega) ⟨by simp, hC⟩)
            refine AllReadyH.cons (o := ⟨some 8, Op.alloc 34, 0, _, _, none⟩) rfl (fun K hK => ?_) (AllReadyH.nil)
            · go_simp
              have hC := (hH.push [.int .i64 0, .int .i64 0, .int .i64 0] 34).third.third
              change Has w _ (w2.alloc (.cells #[.int .i64 0, .int .i64 0, .int .i64 0] 34)) at hC
              generalize w2.alloc (.cells #[.int .i64 0, .int .i64 0, .int .i64 0] 34) = W at *
              generalize w2.heap.size = R at *
              have hC' : Has w ([(P, [.int .i64 0, .int .i64 0, .int .i64 0]), (Q, [.int .i64 0, .int .i64 0, .int .i64 0]), (R, [.int .i64 0, .int .i64 0, .int .i64 0])] ++ [(M, [.int .i64 a0, .int .i64 a1, .int .i64 a2, .int .i64 b0, .int .i64 b1, .int .i64 b2, .int .i64 fn, .int .i64 fd]), (N, [.int .i64 p0, .int .i64 p1, .int .i64 p2])]) W := hC
              refine hK.out _ _ (Has.m83 (hC.tail.tail.tail)) (fun _ => ?_)
              exact wpAnyH_cast rfl (by kernel_rfl) (by kernel_rfl) (ih ⟨some P, some Q, some R, 0⟩ _ (by simp only [St.left, Option.isSome, Bool.false_eq_true, if_false, if_true]; omega) ⟨by simp, hC⟩)
          | some R =>
            simp only [St.left, Option.isSome, Bool.false_eq_true, if_false, if_true] at hk
            simp only [putc, putp, Act.put, decide_eq_true_eq, decide_true, decide_false, Nat.le_refl, Nat.reduceLeDiff, List.setIfInBounds_toArray, List.set_cons_zero, List.set_cons_succ]
            refine wpAnyH_listed #[true, true, false, true, true, false, true, false, true, true, true, false, false, false] (by kernel_rfl) ?_
            refine wpAnyH_ready (rs := [2]) (by kernel_rfl) (by simp) ?_
            refine AllReadyH.cons (o := ⟨some 22, Op.call { callee := Callee.value (Operand.func 36), args := #[Operand.tmp 21], argTypes := #[34] }, 34, _, _, none⟩) rfl (fun K hK => ?_) (AllReadyH.nil)
            · go_simp
              go_at_call 36
              refine (Has.call hH (cut_is a0 a1 a2 A0 A1 A2 HA0.out HA1.out HA2.out _)).mono ?_
              rintro e W ⟨rfl, hC⟩
              go_wp2_with fail
              refine hK.out _ _ (Has.m83 hC.tail.tail.tail) (fun _ => ?_)
              exact wpAnyH_cast rfl (by kernel_rfl) (by kernel_rfl) (ih ⟨some P, some Q, some R, 1⟩ _ (by simp only [St.left, Option.isSome, Bool.false_eq_true, if_false, if_true]; omega) ⟨by simp, hC⟩)
    · cases pa with
      | none =>
        cases pb with
        | none =>
          cases pc with
          | none =>
            simp only [St.left, Option.isSome, Bool.false_eq_true, if_false, if_true] at hk
            simp only [putc, putp, Act.put, decide_eq_true_eq, decide_true, decide_false, Nat.le_refl, Nat.reduceLeDiff, List.setIfInBounds_toArray, List.set_cons_zero, List.set_cons_succ]
            refine wpAnyH_listed #[true, true, true, true, true, false, true, false, false, false, false, false, false, false] (by kernel_rfl) ?_
            refine wpAnyH_ready (rs := [5, 8, 9, 10]) (by kernel_rfl) (by simp) ?_
            refine AllReadyH.cons (o := ⟨some 25, Op.call { callee := Callee.value (Operand.func 36), args := #[Operand.tmp 24], argTypes := #[34] }, 34, _, _, none⟩) rfl (fun K hK => ?_) (?_)
            · go_simp
              go_at_call 36
              refine (Has.call hH (cut_is b0 b1 b2 B0 B1 B2 HB0.out HB1.out HB2.out _)).mono ?_
              rintro e W ⟨rfl, hC⟩
              go_wp2_with fail
              refine hK.out _ _ (Has.m83 hC) (fun _ => ?_)
              exact wpAnyH_cast rfl (by kernel_rfl) (by kernel_rfl) (ih ⟨none, none, none, 2⟩ _ (by simp only [St.left, Option.isSome, Bool.false_eq_true, if_false, if_true]; omega) ⟨by simp, hC⟩)
            refine AllReadyH.cons (o := ⟨some 6, Op.alloc 34, 0, _, _, none⟩) rfl (fun K hK => ?_) (?_)
            · go_simp
              have hC := (hH.push [.int .i64 0, .int .i64 0, .int .i64 0] 34)
              change Has w _ (w2.alloc (.cells #[.int .i64 0, .int .i64 0, .int .i64 0] 34)) at hC
              generalize w2.alloc (.cells #[.int .i64 0, .int .i64 0, .int .i64 0] 34) = W at *
              generalize w2.heap.size = P at *
              have hC' : Has w ([(P, [.int .i64 0, .int .i64 0, .int .i64 0])] ++ [(M, [.int .i64 a0, .int .i64 a1, .int .i64 a2, .int .i64 b0, .int .i64 b1, .int .i64 b2, .int .i64 fn, .int .i64 fd]), (N, [.int .i64 p0, .int .i64 p1, .int .i64 p2])]) W := hC
              refine hK.out _ _ (Has.m83 (hC.tail)) (fun _ => ?_)
              exact wpAnyH_cast rfl (by kernel_rfl) (by kernel_rfl) (ih ⟨some P, none, none, 1⟩ _ (by simp only [St.left, Option.isSome, Bool.false_eq_true, if_false, if_true]; omega) ⟨by simp, hC⟩)
            refine AllReadyH.cons (o := ⟨some 7, Op.alloc 34, 0, _, _, none⟩) rfl (fun K hK => ?_) (?_)
            · go_simp
              have hC := (hH.push [.int .i64 0, .int .i64 0, .int .i64 0] 34)
              change Has w _ (w2.alloc (.cells #[.int .i64 0, .int .i64 0, .int .i64 0] 34)) at hC
              generalize w2.alloc (.cells #[.int .i64 0, .int .i64 0, .int .i64 0] 34) = W at *
              generalize w2.heap.size = Q at *
              have hC' : Has w ([(Q, [.int .i64 0, .int .i64 0, .int .i64 0])] ++ [(M, [.int .i64 a0, .int .i64 a1, .int .i64 a2, .int .i64 b0, .int .i64 b1, .int .i64 b2, .int .i64 fn, .int .i64 fd]), (N, [.int .i64 p0, .int .i64 p1, .int .i64 p2])]) W := hC
              refine hK.out _ _ (Has.m83 (hC.tail)) (fun _ => ?_)
              exact wpAnyH_cast rfl (by kernel_rfl) (by kernel_rfl) (ih ⟨none, some Q, none, 1⟩ _ (by simp only [St.left, Option.isSome, Bool.false_eq_true, if_false, if_true]; omega) ⟨by simp, hC⟩)
            refine AllReadyH.cons (o := ⟨some 8, Op.alloc 34, 0, _, _, none⟩) rfl (fun K hK => ?_) (AllReadyH.nil)
            · go_simp
              have hC := (hH.push [.int .i64 0, .int .i64 0, .int .i64 0] 34)
              change Has w _ (w2.alloc (.cells #[.int .i64 0, .int .i64 0, .int .i64 0] 34)) at hC
              generalize w2.alloc (.cells #[.int .i64 0, .int .i64 0, .int .i64 0] 34) = W at *
              generalize w2.heap.size = R at *
              have hC' : Has w ([(R, [.int .i64 0, .int .i64 0, .int .i64 0])] ++ [(M, [.int .i64 a0, .int .i64 a1, .int .i64 a2, .int .i64 b0, .int .i64 b1, .int .i64 b2, .int .i64 fn, .int .i64 fd]), (N, [.int .i64 p0, .int .i64 p1, .int .i64 p2])]) W := hC
              refine hK.out _ _ (Has.m83 (hC.tail)) (fun _ => ?_)
              exact wpAnyH_cast rfl (by kernel_rfl) (by kernel_rfl) (ih ⟨none, none, some R, 1⟩ _ (by simp only [St.left, Option.isSome, Bool.false_eq_true, if_false, if_true]; omega) ⟨by simp, hC⟩)
          | some R =>
            simp only [St.left, Option.isSome, Bool.false_eq_true, if_false, if_true] at hk
            simp only [putc, putp, Act.put, decide_eq_true_eq, decide_true, decide_false, Nat.le_refl, Nat.reduceLeDiff, List.setIfInBounds_toArray, List.set_cons_zero, List.set_cons_succ]
            refine wpAnyH_listed #[true, true, true, true, true, false, true, false, false, false, true, false, false, false] (by kernel_rfl) ?_
            refine wpAnyH_ready (rs := [5, 8, 9]) (by kernel_rfl) (by simp) ?_
            refine AllReadyH.cons (o := ⟨some 25, Op.call { callee := Callee.value (Operand.func 36), args := #[Operand.tmp 24], argTypes := #[34] }, 34, _, _, none⟩) rfl (fun K hK => ?_) (?_)
            · go_simp
              go_at_call 36
              refine (Has.call hH (cut_is b0 b1 b2 B0 B1 B2 HB0.out HB1.out HB2.out _)).mono ?_
              rintro e W ⟨rfl, hC⟩
              go_wp2_with fail
              refine hK.out _ _ (Has.m83 hC.tail) (fun _ => ?_)
              exact wpAnyH_cast rfl (by kernel_rfl) (by kernel_rfl) (ih ⟨none, none, some R, 2⟩ _ (by simp only [St.left, Option.isSome, Bool.false_eq_true, if_false, if_true]; omega) ⟨by simp, hC⟩)
            refine AllReadyH.cons (o := ⟨some 6, Op.alloc 34, 0, _, _, none⟩) rfl (fun K hK => ?_) (?_)
            · go_simp
              have hC := (hH.push [.int .i64 0, .int .i64 0, .int .i64 0] 34)
              change Has w _ (w2.alloc (.cells #[.int .i64 0, .int .i64 0, .int .i64 0] 34)) at hC
              generalize w2.alloc (.cells #[.int .i64 0, .int .i64 0, .int .i64 0] 34) = W at *
              generalize w2.heap.size = P at *
              have hC' : Has w ([(P, [.int .i64 0, .int .i64 0, .int .i64 0]), (R, [.int .i64 0, .int .i64 0, .int .i64 0])] ++ [(M, [.int .i64 a0, .int .i64 a1, .int .i64 a2, .int .i64 b0, .int .i64 b1, .int .i64 b2, .int .i64 fn, .int .i64 fd]), (N, [.int .i64 p0, .int .i64 p1, .int .i64 p2])]) W := hC
              refine hK.out _ _ (Has.m83 (hC.tail.tail)) (fun _ => ?_)
              exact wpAnyH_cast rfl (by kernel_rfl) (by kernel_rfl) (ih ⟨some P, none, some R, 1⟩ _ (by simp only [St.left, Option.isSome, Bool.false_eq_true, if_false, if_true]; omega) ⟨by simp, hC⟩)
            refine AllReadyH.cons (o := ⟨some 7, Op.alloc 34, 0, _, _, none⟩) rfl (fun K hK => ?_) (AllReadyH.nil)
            · go_simp
              have hC := (hH.push [.int .i64 0, .int .i64 0, .int .i64 0] 34)
              change Has w _ (w2.alloc (.cells #[.int .i64 0, .int .i64 0, .int .i64 0] 34)) at hC
              generalize w2.alloc (.cells #[.int .i64 0, .int .i64 0, .int .i64 0] 34) = W at *
              generalize w2.heap.size = Q at *
              have hC' : Has w ([(Q, [.int .i64 0, .int .i64 0, .int .i64 0]), (R, [.int .i64 0, .int .i64 0, .int .i64 0])] ++ [(M, [.int .i64 a0, .int .i64 a1, .int .i64 a2, .int .i64 b0, .int .i64 b1, .int .i64 b2, .int .i64 fn, .int .i64 fd]), (N, [.int .i64 p0, .int .i64 p1, .int .i64 p2])]) W := hC
              refine hK.out _ _ (Has.m83 (hC.tail.tail)) (fun _ => ?_)
              exact wpAnyH_cast rfl (by kernel_rfl) (by kernel_rfl) (ih ⟨none, some Q, some R, 1⟩ _ (by simp only [St.left, Option.isSome, Bool.false_eq_true, if_false, if_true]; omega) ⟨by simp, hC⟩)
        | some Q =>
          cases pc with
          | none =>
            simp only [St.left, Option.isSome, Bool.false_eq_true, if_false, if_true] at hk
            simp only [putc, putp, Act.put, decide_eq_true_eq, decide_true, decide_false, Nat.le_refl, Nat.reduceLeDiff, List.setIfInBounds_toArray, List.set_cons_zero, List.set_cons_succ]
            refine wpAnyH_listed #[true, true, true, true, true, false, true, false, false, true, false, false, false, false] (by kernel_rfl) ?_
            refine wpAnyH_ready (rs := [5, 8, 10]) (by kernel_rfl) (by simp) ?_
            refine AllReadyH.cons (o := ⟨some 25, Op.call { callee := Callee.value (Operand.func 36), args := #[Operand.tmp 24], argTypes := #[34] }, 34, _, _, none⟩) rfl (fun K hK => ?_) (?_)
            · go_simp
              go_at_call 36
              refine (Has.call hH (cut_is b0 b1 b2 B0 B1 B2 HB0.out HB1.out HB2.out _)).mono ?_
              rintro e W ⟨rfl, hC⟩
              go_wp2_with fail
              refine hK.out _ _ (Has.m83 hC.tail) (fun _ => ?_)
              exact wpAnyH_cast rfl (by kernel_rfl) (by kernel_rfl) (ih ⟨none, some Q, none, 2⟩ _ (by simp only [St.left, Option.isSome, Bool.false_eq_true, if_false, if_true]; omega) ⟨by simp, hC⟩)
            refine AllReadyH.cons (o := ⟨some 6, Op.alloc 34, 0, _, _, none⟩) rfl (fun K hK => ?_) (?_)
            · go_simp
              have hC := (hH.push [.int .i64 0, .int .i64 0, .int .i64 0] 34)
              change Has w _ (w2.alloc (.cells #[.int .i64 0, .int .i64 0, .int .i64 0] 34)) at hC
              generalize w2.alloc (.cells #[.int .i64 0, .int .i64 0, .int .i64 0] 34) = W at *
              generalize w2.heap.size = P at *
              have hC' : Has w ([(P, [.int .i64 0, .int .i64 0, .int .i64 0]), (Q, [.int .i64 0, .int .i64 0, .int .i64 0])] ++ [(M, [.int .i64 a0, .int .i64 a1, .int .i64 a2, .int .i64 b0, .int .i64 b1, .int .i64 b2, .int .i64 fn, .int .i64 fd]), (N, [.int .i64 p0, .int .i64 p1, .int .i64 p2])]) W := hC
              refine hK.out _ _ (Has.m83 (hC.tail.tail)) (fun _ => ?_)
              exact wpAnyH_cast rfl (by kernel_rfl) (by kernel_rfl) (ih ⟨some P, some Q, none, 1⟩ _ (by simp only [St.left, Option.isSome, Bool.false_eq_true, if_false, if_true]; omega) ⟨by simp, hC⟩)
            refine AllReadyH.cons (o := ⟨some 8, Op.alloc 34, 0, _, _, none⟩) rfl (fun K hK => ?_) (AllReadyH.nil)
            · go_simp
              have hC := (hH.push [.int .i64 0, .int .i64 0, .int .i64 0] 34).swap
              change Has w _ (w2.alloc (.cells #[.int .i64 0, .int .i64 0, .int .i64 0] 34)) at hC
              generalize w2.alloc (.cells #[.int .i64 0, .int .i64 0, .int .i64 0] 34) = W at *
              generalize w2.heap.size = R at *
              have hC' : Has w ([(Q, [.int .i64 0, .int .i64 0, .int .i64 0]), (R, [.int .i64 0, .int .i64 0, .int .i64 0])] ++ [(M, [.int .i64 a0, .int .i64 a1, .int .i64 a2, .int .i64 b0, .int .i64 b1, .int .i64 b2, .int .i64 fn, .int .i64 fd]), (N, [.int .i64 p0, .int .i64 p1, .int .i64 p2])]) W := hC
              refine hK.out _ _ (Has.m83 (hC.tail.tail)) (fun _ => ?_)
              exact wpAnyH_cast rfl (by kernel_rfl) (by kernel_rfl) (ih ⟨none, some Q, some R, 1⟩ _ (by simp only [St.left, Option.isSome, Bool.false_eq_true, if_false, if_true]; omega) ⟨by simp, hC⟩)
          | some R =>
            simp only [St.left, Option.isSome, Bool.false_eq_true, if_false, if_true] at hk
            simp only [putc, putp, Act.put, decide_eq_true_eq, decide_true, decide_false, Nat.le_refl, Nat.reduceLeDiff, List.setIfInBounds_toArray, List.set_cons_zero, List.set_cons_succ]
            refine wpAnyH_listed #[true, true, true, true, true, false, true, false, false, true, true, false, false, false] (by kernel_rfl) ?_
            refine wpAnyH_ready (rs := [5, 8]) (by kernel_rfl) (by simp) ?_
            refine AllReadyH.cons (o := ⟨some 25, Op.call { callee := Callee.value (Operand.func 36), args := #[Operand.tmp 24], argTypes := #[34] }, 34, _, _, none⟩) rfl (fun K hK => ?_) (?_)
            · go_simp
              go_at_call 36
              refine (Has.call hH (cut_is b0 b1 b2 B0 B1 B2 HB0.out HB1.out HB2.out _)).mono ?_
              rintro e W ⟨rfl, hC⟩
              go_wp2_with fail
              refine hK.out _ _ (Has.m83 hC.tail.tail) (fun _ => ?_)
              exact wpAnyH_cast rfl (by kernel_rfl) (by kernel_rfl) (ih ⟨none, some Q, some R, 2⟩ _ (by simp only [St.left, Option.isSome, Bool.false_eq_true, if_false, if_true]; omega) ⟨by simp, hC⟩)
            refine AllReadyH.cons (o := ⟨some 6, Op.alloc 34, 0, _, _, none⟩) rfl (fun K hK => ?_) (AllReadyH.nil)
            · go_simp
              have hC := (hH.push [.int .i64 0, .int .i64 0, .int .i64 0] 34)
              change Has w _ (w2.alloc (.cells #[.int .i64 0, .int .i64 0, .int .i64 0] 34)) at hC
              generalize w2.alloc (.cells #[.int .i64 0, .int .i64 0, .int .i64 0] 34) = W at *
              generalize w2.heap.size = P at *
              have hC' : Has w ([(P, [.int .i64 0, .int .i64 0, .int .i64 0]), (Q, [.int .i64 0, .int .i64 0, .int .i64 0]), (R, [.int .i64 0, .int .i64 0, .int .i64 0])] ++ [(M, [.int .i64 a0, .int .i64 a1, .int .i64 a2, .int .i64 b0, .int .i64 b1, .int .i64 b2, .int .i64 fn, .int .i64 fd]), (N, [.int .i64 p0, .int .i64 p1, .int .i64 p2])]) W := hC
              refine hK.out _ _ (Has.m83 (hC.tail.tail.tail)) (fun _ => ?_)
              exact wpAnyH_cast rfl (by kernel_rfl) (by kernel_rfl) (ih ⟨some P, some Q, some R, 1⟩ _ (by simp only [St.left, Option.isSome, Bool.false_eq_true, if_false, if_true]; omega) ⟨by simp, hC⟩)
      | some P =>
        cases pb with
        | none =>
          cases pc with
          | none =>
            simp only [St.left, Option.isSome, Bool.false_eq_true, if_false, if_true] at hk
            simp only [putc, putp, Act.put, decide_eq_true_eq, decide_true, decide_false, Nat.le_refl, Nat.reduceLeDiff, List.setIfInBounds_toArray, List.set_cons_zero, List.set_cons_succ]
            refine wpAnyH_listed #[true, true, true, true, true, false, true, false, true, false, false, false, false, false] (by kernel_rfl) ?_
            refine wpAnyH_ready (rs := [5, 9, 10]) (by kernel_rfl) (by simp) ?_
            refine AllReadyH.cons (o := ⟨some 25, Op.call { callee := Callee.value (Operand.func 36), args := #[Operand.tmp 24], argTypes := #[34] }, 34, _, _, none⟩) rfl (fun K hK => ?_) (?_)
            · go_simp
              go_at_call 36
              refine (Has.call hH (cut_is b0 b1 b2 B0 B1 B2 HB0.out HB1.out HB2.out _)).mono ?_
              rintro e W ⟨rfl, hC⟩
              go_wp2_with fail
              refine hK.out _ _ (Has.m83 hC.tail) (fun _ => ?_)
              exact wpAnyH_cast rfl (by kernel_rfl) (by kernel_rfl) (ih ⟨some P, none, none, 2⟩ _ (by simp only [St.left, Option.isSome, Bool.false_eq_true, if_false, if_true]; omega) ⟨by simp, hC⟩)
            refine AllReadyH.cons (o := ⟨some 7, Op.alloc 34, 0, _, _, none⟩) rfl (fun K hK => ?_) (?_)
            · go_simp
              have hC := (hH.push [.int .i64 0, .int .i64 0, .int .i64 0] 34).swap
              change Has w _ (w2.alloc (.cells #[.int .i64 0, .int .i64 0, .int .i64 0] 34)) at hC
              generalize w2.alloc (.cells #[.int .i64 0, .int .i64 0, .int .i64 0] 34) = W at *
              generalize w2.heap.size = Q at *
              have hC' : Has w ([(P, [.int .i64 0, .int .i64 0, .int .i64 0]), (Q, [.int .i64 0, .int .i64 0, .int .i64 0])] ++ [(M, [.int .i64 a0, .int .i64 a1, .int .i64 a2, .int .i64 b0, .int .i64 b1, .int .i64 b2, .int .i64 fn, .int .i64 fd]), (N, [.int .i64 p0, .int .i64 p1, .int .i64 p2])]) W := hC
              refine hK.out _ _ (Has.m83 (hC.tail.tail)) (fun _ => ?_)
              exact wpAnyH_cast rfl (by kernel_rfl) (by kernel_rfl) (ih ⟨some P, some Q, none, 1⟩ _ (by simp only [St.left, Option.isSome, Bool.false_eq_true, if_false, if_true]; omega) ⟨by simp, hC⟩)
            refine AllReadyH.cons (o := ⟨some 8, Op.alloc 34, 0, _, _, none⟩) rfl (fun K hK => ?_) (AllReadyH.nil)
            · go_simp
              have hC := (hH.push [.int .i64 0, .int .i64 0, .int .i64 0] 34).swap
              change Has w _ (w2.alloc (.cells #[.int .i64 0, .int .i64 0, .int .i64 0] 34)) at hC
              generalize w2.alloc (.cells #[.int .i64 0, .int .i64 0, .int .i64 0] 34) = W at *
              generalize w2.heap.size = R at *
              have hC' : Has w ([(P, [.int .i64 0, .int .i64 0, .int .i64 0]), (R, [.int .i64 0, .int .i64 0, .int .i64 0])] ++ [(M, [.int .i64 a0, .int .i64 a1, .int .i64 a2, .int .i64 b0, .int .i64 b1, .int .i64 b2, .int .i64 fn, .int .i64 fd]), (N, [.int .i64 p0, .int .i64 p1, .int .i64 p2])]) W := hC
              refine hK.out _ _ (Has.m83 (hC.tail.tail)) (fun _ => ?_)
              exact wpAnyH_cast rfl (by kernel_rfl) (by kernel_rfl) (ih ⟨some P, none, some R, 1⟩ _ (by simp only [St.left, Option.isSome, Bool.false_eq_true, if_false, if_true]; omega) ⟨by simp, hC⟩)
          | some R =>
            simp only [St.left, Option.isSome, Bool.false_eq_true, if_false, if_true] at hk
            simp only [putc, putp, Act.put, decide_eq_true_eq, decide_true, decide_false, Nat.le_refl, Nat.reduceLeDiff, List.setIfInBounds_toArray, List.set_cons_zero, List.set_cons_succ]
            refine wpAnyH_listed #[true, true, true, true, true, false, true, false, true, false, true, false, false, false] (by kernel_rfl) ?_
            refine wpAnyH_ready (rs := [5, 9]) (by kernel_rfl) (by simp) ?_
            refine AllReadyH.cons (o := ⟨some 25, Op.call { callee := Callee.value (Operand.func 36), args := #[Operand.tmp 24], argTypes := #[34] }, 34, _, _, none⟩) rfl (fun K hK => ?_) (?_)
            · go_simp
              go_at_call 36
              refine (Has.call hH (cut_is b0 b1 b2 B0 B1 B2 HB0.out HB1.out HB2.out _)).mono ?_
              rintro e W ⟨rfl, hC⟩
              go_wp2_with fail
              refine hK.out _ _ (Has.m83 hC.tail.tail) (fun _ => ?_)
              exact wpAnyH_cast rfl (by kernel_rfl) (by kernel_rfl) (ih ⟨some P, none, some R, 2⟩ _ (by simp only [St.left, Option.isSome, Bool.false_eq_true, if_false, if_true]; omega) ⟨by simp, hC⟩)
            refine AllReadyH.cons (o := ⟨some 7, Op.alloc 34, 0, _, _, none⟩) rfl (fun K hK => ?_) (AllReadyH.nil)
            · go_simp
              have hC := (hH.push [.int .i64 0, .int .i64 0, .int .i64 0] 34).swap
              change Has w _ (w2.alloc (.cells #[.int .i64 0, .int .i64 0, .int .i64 0] 34)) at hC
              generalize w2.alloc (.cells #[.int .i64 0, .int .i64 0, .int .i64 0] 34) = W at *
              generalize w2.heap.size = Q at *
              have hC' : Has w ([(P, [.int .i64 0, .int .i64 0, .int .i64 0]), (Q, [.int .i64 0, .int .i64 0, .int .i64 0]), (R, [.int .i64 0, .int .i64 0, .int .i64 0])] ++ [(M, [.int .i64 a0, .int .i64 a1, .int .i64 a2, .int .i64 b0, .int .i64 b1, .int .i64 b2, .int .i64 fn, .int .i64 fd]), (N, [.int .i64 p0, .int .i64 p1, .int .i64 p2])]) W := hC
              refine hK.out _ _ (Has.m83 (hC.tail.tail.tail)) (fun _ => ?_)
              exact wpAnyH_cast rfl (by kernel_rfl) (by kernel_rfl) (ih ⟨some P, some Q, some R, 1⟩ _ (by simp only [St.left, Option.isSome, Bool.false_eq_true, if_false, if_true]; omega) ⟨by simp, hC⟩)
        | some Q =>
          cases pc with
          | none =>
            simp only [St.left, Option.isSome, Bool.false_eq_true, if_false, if_true] at hk
            simp only [putc, putp, Act.put, decide_eq_true_eq, decide_true, decide_false, Nat.le_refl, Nat.reduceLeDiff, List.setIfInBounds_toArray, List.set_cons_zero, List.set_cons_succ]
            refine wpAnyH_listed #[true, true, true, true, true, false, true, false, true, true, false, false, false, false] (by kernel_rfl) ?_
            refine wpAnyH_ready (rs := [5, 10]) (by kernel_rfl) (by simp) ?_
            refine AllReadyH.cons (o := ⟨some 25, Op.call { callee := Callee.value (Operand.func 36), args := #[Operand.tmp 24], argTypes := #[34] }, 34, _, _, none⟩) rfl (fun K hK => ?_) (?_)
            · go_simp
              go_at_call 36
              refine (Has.call hH (cut_is b0 b1 b2 B0 B1 B2 HB0.out HB1.out HB2.out _)).mono ?_
              rintro e W ⟨rfl, hC⟩
              go_wp2_with fail
              refine hK.out _ _ (Has.m83 hC.tail.tail) (fun _ => ?_)
              exact wpAnyH_cast rfl (by kernel_rfl) (by kernel_rfl) (ih ⟨some P, some Q, none, 2⟩ _ (by simp only [St.left, Option.isSome, Bool.false_eq_true, if_false, if_true]; omega) ⟨by simp, hC⟩)
            refine AllReadyH.cons (o := ⟨some 8, Op.alloc 34, 0, _, _, none⟩) rfl (fun K hK => ?_) (AllReadyH.nil)
            · go_simp
              have hC := (hH.push [.int .i64 0, .int .i64 0, .int .i64 0] 34).third.third
              change Has w _ (w2.alloc (.cells #[.int .i64 0, .int .i64 0, .int .i64 0] 34)) at hC
              generalize w2.alloc (.cells #[.int .i64 0, .int .i64 0, .int .i64 0] 34) = W at *
              generalize w2.heap.size = R at *
              have hC' : Has w ([(P, [.int .i64 0, .int .i64 0, .int .i64 0]), (Q, [.int .i64 0, .int .i64 0, .int .i64 0]), (R, [.int .i64 0, .int .i64 0, .int .i64 0])] ++ [(M, [.int .i64 a0, .int .i64 a1, .int .i64 a2, .int .i64 b0, .int .i64 b1, .int .i64 b2, .int .i64 fn, .int .i64 fd]), (N, [.int .i64 p0, .int .i64 p1, .int .i64 p2])]) W := hC
              refine hK.out _ _ (Has.m83 (hC.tail.tail.tail)) (fun _ => ?_)
              exact wpAnyH_cast rfl (by kernel_rfl) (by kernel_rfl) (ih ⟨some P, some Q, some R, 1⟩ _ (by simp only [St.left, Option.isSome, Bool.false_eq_true, if_false, if_true]; omega) ⟨by simp, hC⟩)
          | some R =>
            simp only [St.left, Option.isSome, Bool.false_eq_true, if_false, if_true] at hk
            simp only [putc, putp, Act.put, decide_eq_true_eq, decide_true, decide_false, Nat.le_refl, Nat.reduceLeDiff, List.setIfInBounds_toArray, List.set_cons_zero, List.set_cons_succ]
            refine wpAnyH_listed #[true, true, true, true, true, false, true, false, true, true, true, false, false, false] (by kernel_rfl) ?_
            refine wpAnyH_ready (rs := [5]) (by kernel_rfl) (by simp) ?_
            refine AllReadyH.cons (o := ⟨some 25, Op.call { callee := Callee.value (Operand.func 36), args := #[Operand.tmp 24], argTypes := #[34] }, 34, _, _, none⟩) rfl (fun K hK => ?_) (AllReadyH.nil)
            · go_simp
              go_at_call 36
              refine (Has.call hH (cut_is b0 b1 b2 B0 B1 B2 HB0.out HB1.out HB2.out _)).mono ?_
              rintro e W ⟨rfl, hC⟩
              go_wp2_with fail
              refine hK.out _ _ (Has.m83 hC.tail.tail.tail) (fun _ => ?_)
              exact wpAnyH_cast rfl (by kernel_rfl) (by kernel_rfl) (ih ⟨some P, some Q, some R, 2⟩ _ (by simp only [St.left, Option.isSome, Bool.false_eq_true, if_false, if_true]; omega) ⟨by simp, hC⟩)
    · cases pa with
      | none =>
        cases pb with
        | none =>
          cases pc with
          | none =>
            simp only [St.left, Option.isSome, Bool.false_eq_true, if_false, if_true] at hk
            simp only [putc, putp, Act.put, decide_eq_true_eq, decide_true, decide_false, Nat.le_refl, Nat.reduceLeDiff, List.setIfInBounds_toArray, List.set_cons_zero, List.set_cons_succ]
            refine wpAnyH_listed #[true, true, true, true, true, true, true, false, false, false, false, false, false, false] (by kernel_rfl) ?_
            refine wpAnyH_ready (rs := [7, 8, 9, 10]) (by kernel_rfl) (by simp) ?_
            refine AllReadyH.cons (o := ⟨some 27, Op.call { callee := Callee.value (Operand.func 36), args := #[Operand.tmp 26], argTypes := #[34] }, 34, _, _, none⟩) rfl (fun K hK => ?_) (?_)
            · go_simp
              go_at_call 36
              refine (Has.call hH (cut_is p0 p1 p2 D0 D1 D2 HD0.out HD1.out HD2.out _)).mono ?_
              rintro e W ⟨rfl, hC⟩
              go_wp2_with fail
              refine hK.out _ _ (Has.m83 hC) (fun _ => ?_)
              exact wpAnyH_cast rfl (by kernel_rfl) (by kernel_rfl) (ih ⟨none, none, none, 3⟩ _ (by simp only [St.left, Option.isSome, Bool.false_eq_true, if_false, if_true]; omega) ⟨by simp, hC⟩)
            refine AllReadyH.cons (o := ⟨some 6, Op.alloc 34, 0, _, _, none⟩) rfl (fun K hK => ?_) (?_)
            · go_simp
              have hC := (hH.push [.int .i64 0, .int .i64 0, .int .i64 0] 34)
              change Has w _ (w2.alloc (.cells #[.int .i64 0, .int .i64 0, .int .i64 0] 34)) at hC
              generalize w2.alloc (.cells #[.int .i64 0, .int .i64 0, .int .i64 0] 34) = W at *
              generalize w2.heap.size = P at *
              have hC' : Has w ([(P, [.int .i64 0, .int .i64 0, .int .i64 0])] ++ [(M, [.int .i64 a0, .int .i64 a1, .int .i64 a2, .int .i64 b0, .int .i64 b1, .int .i64 b2, .int .i64 fn, .int .i64 fd]), (N, [.int .i64 p0, .int .i64 p1, .int .i64 p2])]) W := hC
              refine hK.out _ _ (Has.m83 (hC.tail)) (fun _ => ?_)
              exact wpAnyH_cast rfl (by kernel_rfl) (by kernel_rfl) (ih ⟨some P, none, none, 2⟩ _ (by simp only [St.left, Option.isSome, Bool.false_eq_true, if_false, if_true]; omega) ⟨by simp, hC⟩)
            refine AllReadyH.cons (o := ⟨some 7, Op.alloc 34, 0, _, _, none⟩) rfl (fun K hK => ?_) (?_)
            · go_simp
              have hC := (hH.push [.int .i64 0, .int .i64 0, .int .i64 0] 34)
              change Has w _ (w2.alloc (.cells #[.int .i64 0, .int .i64 0, .int .i64 0] 34)) at hC
              generalize w2.alloc (.cells #[.int .i64 0, .int .i64 0, .int .i64 0] 34) = W at *
              generalize w2.heap.size = Q at *
              have hC' : Has w ([(Q, [.int .i64 0, .int .i64 0, .int .i64 0])] ++ [(M, [.int .i64 a0, .int .i64 a1, .int .i64 a2, .int .i64 b0, .int .i64 b1, .int .i64 b2, .int .i64 fn, .int .i64 fd]), (N, [.int .i64 p0, .int .i64 p1, .int .i64 p2])]) W := hC
              refine hK.out _ _ (Has.m83 (hC.tail)) (fun _ => ?_)
              exact wpAnyH_cast rfl (by kernel_rfl) (by kernel_rfl) (ih ⟨none, some Q, none, 2⟩ _ (by simp only [St.left, Option.isSome, Bool.false_eq_true, if_false, if_true]; omega) ⟨by simp, hC⟩)
            refine AllReadyH.cons (o := ⟨some 8, Op.alloc 34, 0, _, _, none⟩) rfl (fun K hK => ?_) (AllReadyH.nil)
            · go_simp
              have hC := (hH.push [.int .i64 0, .int .i64 0, .int .i64 0] 34)
              change Has w _ (w2.alloc (.cells #[.int .i64 0, .int .i64 0, .int .i64 0] 34)) at hC
              generalize w2.alloc (.cells #[.int .i64 0, .int .i64 0, .int .i64 0] 34) = W at *
              generalize w2.heap.size = R at *
              have hC' : Has w ([(R, [.int .i64 0, .int .i64 0, .int .i64 0])] ++ [(M, [.int .i64 a0, .int .i64 a1, .int .i64 a2, .int .i64 b0, .int .i64 b1, .int .i64 b2, .int .i64 fn, .int .i64 fd]), (N, [.int .i64 p0, .int .i64 p1, .int .i64 p2])]) W := hC
              refine hK.out _ _ (Has.m83 (hC.tail)) (fun _ => ?_)
              exact wpAnyH_cast rfl (by kernel_rfl) (by kernel_rfl) (ih ⟨none, none, some R, 2⟩ _ (by simp only [St.left, Option.isSome, Bool.false_eq_true, if_false, if_true]; omega) ⟨by simp, hC⟩)
          | some R =>
            simp only [St.left, Option.isSome, Bool.false_eq_true, if_false, if_true] at hk
            simp only [putc, putp, Act.put, decide_eq_true_eq, decide_true, decide_false, Nat.le_refl, Nat.reduceLeDiff, List.setIfInBounds_toArray, List.set_cons_zero, List.set_cons_succ]
            refine wpAnyH_listed #[true, true, true, true, true, true, true, false, false, false, true, false, false, false] (by kernel_rfl) ?_
            refine wpAnyH_ready (rs := [7, 8, 9]) (by kernel_rfl) (by simp) ?_
            refine AllReadyH.cons (o := ⟨some 27, Op.call { callee := Callee.value (Operand.func 36), args := #[Operand.tmp 26], argTypes := #[34] }, 34, _, _, none⟩) rfl (fun K hK => ?_) (?_)
            · go_simp
              go_at_call 36
              refine (Has.call hH (cut_is p0 p1 p2 D0 D1 D2 HD0.out HD1.out HD2.out _)).mono ?_
              rintro e W ⟨rfl, hC⟩
              go_wp2_with fail
              refine hK.out _ _ (Has.m83 hC.tail) (fun _ => ?_)
              exact wpAnyH_cast rfl (by kernel_rfl) (by kernel_rfl) (ih ⟨none, none, some R, 3⟩ _ (by simp only [St.left, Option.isSome, Bool.false_eq_true, if_false, if_true]; omega) ⟨by simp, hC⟩)
            refine AllReadyH.cons (o := ⟨some 6, Op.alloc 34, 0, _, _, none⟩) rfl (fun K hK => ?_) (?_)
            · go_simp
              have hC := (hH.push [.int .i64 0, .int .i64 0, .int .i64 0] 34)
              change Has w _ (w2.alloc (.cells #[.int .i64 0, .int .i64 0, .int .i64 0] 34)) at hC
              generalize w2.alloc (.cells #[.int .i64 0, .int .i64 0, .int .i64 0] 34) = W at *
              generalize w2.heap.size = P at *
              have hC' : Has w ([(P, [.int .i64 0, .int .i64 0, .int .i64 0]), (R, [.int .i64 0, .int .i64 0, .int .i64 0])] ++ [(M, [.int .i64 a0, .int .i64 a1, .int .i64 a2, .int .i64 b0, .int .i64 b1, .int .i64 b2, .int .i64 fn, .int .i64 fd]), (N, [.int .i64 p0, .int .i64 p1, .int .i64 p2])]) W := hC
              refine hK.out _ _ (Has.m83 (hC.tail.tail)) (fun _ => ?_)
              exact wpAnyH_cast rfl (by kernel_rfl) (by kernel_rfl) (ih ⟨some P, none, some R, 2⟩ _ (by simp only [St.left, Option.isSome, Bool.false_eq_true, if_false, if_true]; omega) ⟨by simp, hC⟩)
            refine AllReadyH.cons (o := ⟨some 7, Op.alloc 34, 0, _, _, none⟩) rfl (fun K hK => ?_) (AllReadyH.nil)
            · go_simp
              have hC := (hH.push [.int .i64 0, .int .i64 0, .int .i64 0] 34)
              change Has w _ (w2.alloc (.cells #[.int .i64 0, .int .i64 0, .int .i64 0] 34)) at hC
              generalize w2.alloc (.cells #[.int .i64 0, .int .i64 0, .int .i64 0] 34) = W at *
              generalize w2.heap.size = Q at *
              have hC' : Has w ([(Q, [.int .i64 0, .int .i64 0, .int .i64 0]), (R, [.int .i64 0, .int .i64 0, .int .i64 0])] ++ [(M, [.int .i64 a0, .int .i64 a1, .int .i64 a2, .int .i64 b0, .int .i64 b1, .int .i64 b2, .int .i64 fn, .int .i64 fd]), (N, [.int .i64 p0, .int .i64 p1, .int .i64 p2])]) W := hC
              refine hK.out _ _ (Has.m83 (hC.tail.tail)) (fun _ => ?_)
              exact wpAnyH_cast rfl (by kernel_rfl) (by kernel_rfl) (ih ⟨none, some Q, some R, 2⟩ _ (by simp only [St.left, Option.isSome, Bool.false_eq_true, if_false, if_true]; omega) ⟨by simp, hC⟩)
        | some Q =>
          cases pc with
          | none =>
            simp only [St.left, Option.isSome, Bool.false_eq_true, if_false, if_true] at hk
            simp only [putc, putp, Act.put, decide_eq_true_eq, decide_true, decide_false, Nat.le_refl, Nat.reduceLeDiff, List.setIfInBounds_toArray, List.set_cons_zero, List.set_cons_succ]
            refine wpAnyH_listed #[true, true, true, true, true, true, true, false, false, true, false, false, false, false] (by kernel_rfl) ?_
            refine wpAnyH_ready (rs := [7, 8, 10]) (by kernel_rfl) (by simp) ?_
            refine AllReadyH.cons (o := ⟨some 27, Op.call { callee := Callee.value (Operand.func 36), args := #[Operand.tmp 26], argTypes := #[34] }, 34, _, _, none⟩) rfl (fun K hK => ?_) (?_)
            · go_simp
              go_at_call 36
              refine (Has.call hH (cut_is p0 p1 p2 D0 D1 D2 HD0.out HD1.out HD2.out _)).mono ?_
              rintro e W ⟨rfl, hC⟩
              go_wp2_with fail
              refine hK.out _ _ (Has.m83 hC.tail) (fun _ => ?_)
              exact wpAnyH_cast rfl (by kernel_rfl) (by kernel_rfl) (ih ⟨none, some Q, none, 3⟩ _ (by simp only [St.left, Option.isSome, Bool.false_eq_true, if_false, if_true]; omega) ⟨by simp, hC⟩)
            refine AllReadyH.cons (o := ⟨some 6, Op.alloc 34, 0, _, _, none⟩) rfl (fun K hK => ?_) (?_)
            · go_simp
              have hC := (hH.push [.int .i64 0, .int .i64 0, .int .i64 0] 34)
              change Has w _ (w2.alloc (.cells #[.int .i64 0, .int .i64 0, .int .i64 0] 34)) at hC
              generalize w2.alloc (.cells #[.int .i64 0, .int .i64 0, .int .i64 0] 34) = W at *
              generalize w2.heap.size = P at *
              have hC' : Has w ([(P, [.int .i64 0, .int .i64 0, .int .i64 0]), (Q, [.int .i64 0, .int .i64 0, .int .i64 0])] ++ [(M, [.int .i64 a0, .int .i64 a1, .int .i64 a2, .int .i64 b0, .int .i64 b1, .int .i64 b2, .int .i64 fn, .int .i64 fd]), (N, [.int .i64 p0, .int .i64 p1, .int .i64 p2])]) W := hC
              refine hK.out _ _ (Has.m83 (hC.tail.tail)) (fun _ => ?_)
              exact wpAnyH_cast rfl (by kernel_rfl) (by kernel_rfl) (ih ⟨some P, some Q, none, 2⟩ _ (by simp only [St.left, Option.isSome, Bool.false_eq_true, if_false, if_true]; omega) ⟨by simp, hC⟩)
            refine AllReadyH.cons (o := ⟨some 8, Op.alloc 34, 0, _, _, none⟩) rfl (fun K hK => ?_) (AllReadyH.nil)
            · go_simp
              have hC := (hH.push [.int .i64 0, .int .i64 0, .int .i64 0] 34).swap
              change Has w _ (w2.alloc (.cells #[.int .i64 0, .int .i64 0, .int .i64 0] 34)) at hC
              generalize w2.alloc (.cells #[.int .i64 0, .int .i64 0, .int .i64 0] 34) = W at *
              generalize w2.heap.size = R at *
              have hC' : Has w ([(Q, [.int .i64 0, .int .i64 0, .int .i64 0]), (R, [.int .i64 0, .int .i64 0, .int .i64 0])] ++ [(M, [.int .i64 a0, .int .i64 a1, .int .i64 a2, .int .i64 b0, .int .i64 b1, .int .i64 b2, .int .i64 fn, .int .i64 fd]), (N, [.int .i64 p0, .int .i64 p1, .int .i64 p2])]) W := hC
              refine hK.out _ _ (Has.m83 (hC.tail.tail)) (fun _ => ?_)
              exact wpAnyH_cast rfl (by kernel_rfl) (by kernel_rfl) (ih ⟨none, some Q, some R, 2⟩ _ (by simp only [St.left, Option.isSome, Bool.false_eq_true, if_false, if_true]; omega) ⟨by simp, hC⟩)
          | some R =>
            simp only [St.left, Option.isSome, Bool.false_eq_true, if_false, if_true] at hk
            simp only [putc, putp, Act.put, decide_eq_true_eq, decide_true, decide_false, Nat.le_refl, Nat.reduceLeDiff, List.setIfInBounds_toArray, List.set_cons_zero, List.set_cons_succ]
            refine wpAnyH_listed #[true, true, true, true, true, true, true, false, false, true, true, false, false, false] (by kernel_rfl) ?_
            refine wpAnyH_ready (rs := [7, 8]) (by kernel_rfl) (by simp) ?_
            refine AllReadyH.cons (o := ⟨some 27, Op.call { callee := Callee.value (Operand.func 36), args := #[Operand.tmp 26], argTypes := #[34] }, 34, _, _, none⟩) rfl (fun K hK => ?_) (?_)
            · go_simp
              go_at_call 36
              refine (Has.call hH (cut_is p0 p1 p2 D0 D1 D2 HD0.out HD1.out HD2.out _)).mono ?_
              rintro e W ⟨rfl, hC⟩
              go_wp2_with fail
              refine hK.out _ _ (Has.m83 hC.tail.tail) (fun _ => ?_)
              exact wpAnyH_cast rfl (by kernel_rfl) (by kernel_rfl) (ih ⟨none, some Q, some R, 3⟩ _ (by simp only [St.left, Option.isSome, Bool.false_eq_true, if_false, if_true]; omega) ⟨by simp, hC⟩)
            refine AllReadyH.cons (o := ⟨some 6, Op.alloc 34, 0, _, _, none⟩) rfl (fun K hK => ?_) (AllReadyH.nil)
            · go_simp
              have hC := (hH.push [.int .i64 0, .int .i64 0, .int .i64 0] 34)
              change Has w _ (w2.alloc (.cells #[.int .i64 0, .int .i64 0, .int .i64 0] 34)) at hC
              generalize w2.alloc (.cells #[.int .i64 0, .int .i64 0, .int .i64 0] 34) = W at *
              generalize w2.heap.size = P at *
              have hC' : Has w ([(P, [.int .i64 0, .int .i64 0, .int .i64 0]), (Q, [.int .i64 0, .int .i64 0, .int .i64 0]), (R, [.int .i64 0, .int .i64 0, .int .i64 0])] ++ [(M, [.int .i64 a0, .int .i64 a1, .int .i64 a2, .int .i64 b0, .int .i64 b1, .int .i64 b2, .int .i64 fn, .int .i64 fd]), (N, [.int .i64 p0, .int .i64 p1, .int .i64 p2])]) W := hC
              refine hK.out _ _ (Has.m83 (hC.tail.tail.tail)) (fun _ => ?_)
              exact wpAnyH_cast rfl (by kernel_rfl) (by kernel_rfl) (ih ⟨some P, some Q, some R, 2⟩ _ (by simp only [St.left, Option.isSome, Bool.false_eq_true, if_false, if_true]; omega) ⟨by simp, hC⟩)
      | some P =>
        cases pb with
        | none =>
          cases pc with
          | none =>
            simp only [St.left, Option.isSome, Bool.false_eq_true, if_false, if_true] at hk
            simp only [putc, putp, Act.put, decide_eq_true_eq, decide_true, decide_false, Nat.le_refl, Nat.reduceLeDiff, List.setIfInBounds_toArray, List.set_cons_zero, List.set_cons_succ]
            refine wpAnyH_listed #[true, true, true, true, true, true, true, false, true, false, false, false, false, false] (by kernel_rfl) ?_
            refine wpAnyH_ready (rs := [7, 9, 10]) (by kernel_rfl) (by simp) ?_
            refine AllReadyH.cons (o := ⟨some 27, Op.call { callee := Callee.value (Operand.func 36), args := #[Operand.tmp 26], argTypes := #[34] }, 34, _, _, none⟩) rfl (fun K hK => ?_) (?_)
            · go_simp
              go_at_call 36
              refine (Has.call hH (cut_is p0 p1 p2 D0 D1 D2 HD0.out HD1.out HD2.out _)).mono ?_
              rintro e W ⟨rfl, hC⟩
              go_wp2_with fail
              refine hK.out _ _ (Has.m83 hC.tail) (fun _ => ?_)
              exact wpAnyH_cast rfl (by kernel_rfl) (by kernel_rfl) (ih ⟨some P, none, none, 3⟩ _ (by simp only [St.left, Option.isSome, Bool.false_eq_true, if_false, if_true]; omega) ⟨by simp, hC⟩)
            refine AllReadyH.cons (o := ⟨some 7, Op.alloc 34, 0, _, _, none⟩) rfl (fun K hK => ?_) (?_)
            · go_simp
              have hC := (hH.push [.int .i64 0, .int .i64 0, .int .i64 0] 34).swap
              change Has w _ (w2.alloc (.cells #[.int .i64 0, .int .i64 0, .int .i64 0] 34)) at hC
              generalize w2.alloc (.cells #[.int .i64 0, .int .i64 0, .int .i64 0] 34) = W at *
              generalize w2.heap.size = Q at *
              have hC' : Has w ([(P, [.int .i64 0, .int .i64 0, .int .i64 0]), (Q, [.int .i64 0, .int .i64 0, .int .i64 0])] ++ [(M, [.int .i64 a0, .int .i64 a1, .int .i64 a2, .int .i64 b0, .int .i64 b1, .int .i64 b2, .int .i64 fn, .int .i64 fd]), (N, [.int .i64 p0, .int .i64 p1, .int .i64 p2])]) W := hC
              refine hK.out _ _ (Has.m83 (hC.tail.tail)) (fun _ => ?_)
              exact wpAnyH_cast rfl (by kernel_rfl) (by kernel_rfl) (ih ⟨some P, some Q, none, 2⟩ _ (by simp only [St.left, Option.isSome, Bool.false_eq_true, if_false, if_true]; omega) ⟨by simp, hC⟩)
            refine AllReadyH.cons (o := ⟨some 8, Op.alloc 34, 0, _, _, none⟩) rfl (fun K hK => ?_) (AllReadyH.nil)
            · go_simp
              have hC := (hH.push [.int .i64 0, .int .i64 0, .int .i64 0] 34).swap
              change Has w _ (w2.alloc (.cells #[.int .i64 0, .int .i64 0, .int .i64 0] 34)) at hC
              generalize w2.alloc (.cells #[.int .i64 0, .int .i64 0, .int .i64 0] 34) = W at *
              generalize w2.heap.size = R at *
              have hC' : Has w ([(P, [.int .i64 0, .int .i64 0, .int .i64 0]), (R, [.int .i64 0, .int .i64 0, .int .i64 0])] ++ [(M, [.int .i64 a0, .int .i64 a1, .int .i64 a2, .int .i64 b0, .int .i64 b1, .int .i64 b2, .int .i64 fn, .int .i64 fd]), (N, [.int .i64 p0, .int .i64 p1, .int .i64 p2])]) W := hC
              refine hK.out _ _ (Has.m83 (hC.tail.tail)) (fun _ => ?_)
              exact wpAnyH_cast rfl (by kernel_rfl) (by kernel_rfl) (ih ⟨some P, none, some R, 2⟩ _ (by simp only [St.left, Option.isSome, Bool.false_eq_true, if_false, if_true]; omega) ⟨by simp, hC⟩)
          | some R =>
            simp only [St.left, Option.isSome, Bool.false_eq_true, if_false, if_true] at hk
            simp only [putc, putp, Act.put, decide_eq_true_eq, decide_true, decide_false, Nat.le_refl, Nat.reduceLeDiff, List.setIfInBounds_toArray, List.set_cons_zero, List.set_cons_succ]
            refine wpAnyH_listed #[true, true, true, true, true, true, true, false, true, false, true, false, false, false] (by kernel_rfl) ?_
            refine wpAnyH_ready (rs := [7, 9]) (by kernel_rfl) (by simp) ?_
            refine AllReadyH.cons (o := ⟨some 27, Op.call { callee := Callee.value (Operand.func 36), args := #[Operand.tmp 26], argTypes := #[34] }, 34, _, _, none⟩) rfl (fun K hK => ?_) (?_)
            · go_simp
              go_at_call 36
              refine (Has.call hH (cut_is p0 p1 p2 D0 D1 D2 HD0.out HD1.out HD2.out _)).mono ?_
              rintro e W ⟨rfl, hC⟩
              go_wp2_with fail
              refine hK.out _ _ (Has.m83 hC.tail.tail) (fun _ => ?_)
              exact wpAnyH_cast rfl (by kernel_rfl) (by kernel_rfl) (ih ⟨some P, none, some R, 3⟩ _ (by simp only [St.left, Option.isSome, Bool.false_eq_true, if_false, if_true]; omega) ⟨by simp, hC⟩)
            refine AllReadyH.cons (o := ⟨some 7, Op.alloc 34, 0, _, _, none⟩) rfl (fun K hK => ?_) (AllReadyH.nil)
            · go_simp
              have hC := (hH.push [.int .i64 0, .int .i64 0, .int .i64 0] 34).swap
              change Has w _ (w2.alloc (.cells #[.int .i64 0, .int .i64 0, .int .i64 0] 34)) at hC
              generalize w2.alloc (.cells #[.int .i64 0, .int .i64 0, .int .i64 0] 34) = W at *
              generalize w2.heap.size = Q at *
              have hC' : Has w ([(P, [.int .i64 0, .int .i64 0, .int .i64 0]), (Q, [.int .i64 0, .int .i64 0, .int .i64 0]), (R, [.int .i64 0, .int .i64 0, .int .i64 0])] ++ [(M, [.int .i64 a0, .int .i64 a1, .int .i64 a2, .int .i64 b0, .int .i64 b1, .int .i64 b2, .int .i64 fn, .int .i64 fd]), (N, [.int .i64 p0, .int .i64 p1, .int .i64 p2])]) W := hC
              refine hK.out _ _ (Has.m83 (hC.tail.tail.tail)) (fun _ => ?_)
              exact wpAnyH_cast rfl (by kernel_rfl) (by kernel_rfl) (ih ⟨some P, some Q, some R, 2⟩ _ (by simp only [St.left, Option.isSome, Bool.false_eq_true, if_false, if_true]; omega) ⟨by simp, hC⟩)
        | some Q =>
          cases pc with
          | none =>
            simp only [St.left, Option.isSome, Bool.false_eq_true, if_false, if_true] at hk
            simp only [putc, putp, Act.put, decide_eq_true_eq, decide_true, decide_false, Nat.le_refl, Nat.reduceLeDiff, List.setIfInBounds_toArray, List.set_cons_zero, List.set_cons_succ]
            refine wpAnyH_listed #[true, true, true, true, true, true, true, false, true, true, false, false, false, false] (by kernel_rfl) ?_
            refine wpAnyH_ready (rs := [7, 10]) (by kernel_rfl) (by simp) ?_
            refine AllReadyH.cons (o := ⟨some 27, Op.call { callee := Callee.value (Operand.func 36), args := #[Operand.tmp 26], argTypes := #[34] }, 34, _, _, none⟩) rfl (fun K hK => ?_) (?_)
            · go_simp
              go_at_call 36
              refine (Has.call hH (cut_is p0 p1 p2 D0 D1 D2 HD0.out HD1.out HD2.out _)).mono ?_
              rintro e W ⟨rfl, hC⟩
              go_wp2_with fail
              refine hK.out _ _ (Has.m83 hC.tail.tail) (fun _ => ?_)
              exact wpAnyH_cast rfl (by kernel_rfl) (by kernel_rfl) (ih ⟨some P, some Q, none, 3⟩ _ (by simp only [St.left, Option.isSome, Bool.false_eq_true, if_false, if_true]; omega) ⟨by simp, hC⟩)
            refine AllReadyH.cons (o := ⟨some 8, Op.alloc 34, 0, _, _, none⟩) rfl (fun K hK => ?_) (AllReadyH.nil)
            · go_simp
              have hC := (hH.push [.int .i64 0, .int .i64 0, .int .i64 0] 34).third.third
              change Has w _ (w2.alloc (.cells #[.int .i64 0, .int .i64 0, .int .i64 0] 34)) at hC
              generalize w2.alloc (.cells #[.int .i64 0, .int .i64 0, .int .i64 0] 34) = W at *
              generalize w2.heap.size = R at *
              have hC' : Has w ([(P, [.int .i64 0, .int .i64 0, .int .i64 0]), (Q, [.int .i64 0, .int .i64 0, .int .i64 0]), (R, [.int .i64 0, .int .i64 0, .int .i64 0])] ++ [(M, [.int .i64 a0, .int .i64 a1, .int .i64 a2, .int .i64 b0, .int .i64 b1, .int .i64 b2, .int .i64 fn, .int .i64 fd]), (N, [.int .i64 p0, .int .i64 p1, .int .i64 p2])]) W := hC
              refine hK.out _ _ (Has.m83 (hC.tail.tail.tail)) (fun _ => ?_)
              exact wpAnyH_cast rfl (by kernel_rfl) (by kernel_rfl) (ih ⟨some P, some Q, some R, 2⟩ _ (by simp only [St.left, Option.isSome, Bool.false_eq_true, if_false, if_true]; omega) ⟨by simp, hC⟩)
          | some R =>
            simp only [St.left, Option.isSome, Bool.false_eq_true, if_false, if_true] at hk
            simp only [putc, putp, Act.put, decide_eq_true_eq, decide_true, decide_false, Nat.le_refl, Nat.reduceLeDiff, List.setIfInBounds_toArray, List.set_cons_zero, List.set_cons_succ]
            refine wpAnyH_listed #[true, true, true, true, true, true, true, false, true, true, true, false, false, false] (by kernel_rfl) ?_
            refine wpAnyH_ready (rs := [7]) (by kernel_rfl) (by simp) ?_
            refine AllReadyH.cons (o := ⟨some 27, Op.call { callee := Callee.value (Operand.func 36), args := #[Operand.tmp 26], argTypes := #[34] }, 34, _, _, none⟩) rfl (fun K hK => ?_) (AllReadyH.nil)
            · go_simp
              go_at_call 36
              refine (Has.call hH (cut_is p0 p1 p2 D0 D1 D2 HD0.out HD1.out HD2.out _)).mono ?_
              rintro e W ⟨rfl, hC⟩
              go_wp2_with fail
              refine hK.out _ _ (Has.m83 hC.tail.tail.tail) (fun _ => ?_)
              exact wpAnyH_cast rfl (by kernel_rfl) (by kernel_rfl) (ih ⟨some P, some Q, some R, 3⟩ _ (by simp only [St.left, Option.isSome, Bool.false_eq_true, if_false, if_true]; omega) ⟨by simp, hC⟩)
    · cases pa with
      | none =>
        cases pb with
        | none =>
          cases pc with
          | none =>
            simp only [St.left, Option.isSome, Bool.false_eq_true, if_false, if_true] at hk
            simp only [putc, putp, Act.put, decide_eq_true_eq, decide_true, decide_false, Nat.le_refl, Nat.reduceLeDiff, List.setIfInBounds_toArray, List.set_cons_zero, List.set_cons_succ]
            refine wpAnyH_listed #[true, true, true, true, true, true, true, true, false, false, false, false, false, false] (by kernel_rfl) ?_
            refine wpAnyH_ready (rs := [8, 9, 10]) (by kernel_rfl) (by simp) ?_
            refine AllReadyH.cons (o := ⟨some 6, Op.alloc 34, 0, _, _, none⟩) rfl (fun K hK => ?_) (?_)
            · go_simp
              have hC := (hH.push [.int .i64 0, .int .i64 0, .int .i64 0] 34)
              change Has w _ (w2.alloc (.cells #[.int .i64 0, .int .i64 0, .int .i64 0] 34)) at hC
              generalize w2.alloc (.cells #[.int .i64 0, .int .i64 0, .int .i64 0] 34) = W at *
              generalize w2.heap.size = P at *
              have hC' : Has w ([(P, [.int .i64 0, .int .i64 0, .int .i64 0])] ++ [(M, [.int .i64 a0, .int .i64 a1, .int .i64 a2, .int .i64 b0, .int .i64 b1, .int .i64 b2, .int .i64 fn, .int .i64 fd]), (N, [.int .i64 p0, .int .i64 p1, .int .i64 p2])]) W := hC
              refine hK.out _ _ (Has.m83 (hC.tail)) (fun _ => ?_)
              exact wpAnyH_cast rfl (by kernel_rfl) (by kernel_rfl) (ih ⟨some P, none, none, 3⟩ _ (by simp only [St.left, Option.isSome, Bool.false_eq_true, if_false, if_true]; omega) ⟨by simp, hC⟩)
            refine AllReadyH.cons (o := ⟨some 7, Op.alloc 34, 0, _, _, none⟩) rfl (fun K hK => ?_) (?_)
            · go_simp
              have hC := (hH.push [.int .i64 0, .int .i64 0, .int .i64 0] 34)
              change Has w _ (w2.alloc (.cells #[.int .i64 0, .int .i64 0, .int .i64 0] 34)) at hC
              generalize w2.alloc (.cells #[.int .i64 0, .int .i64 0, .int .i64 0] 34) = W at *
              generalize w2.heap.size = Q at *
              have hC' : Has w ([(Q, [.int .i64 0, .int .i64 0, .int .i64 0])] ++ [(M, [.int .i64 a0, .int .i64 a1, .int .i64 a2, .int .i64 b0, .int .i64 b1, .int .i64 b2, .int .i64 fn, .int .i64 fd]), (N, [.int .i64 p0, .int .i64 p1, .int .i64 p2])]) W := hC
              refine hK.out _ _ (Has.m83 (hC.tail)) (fun _ => ?_)
              exact wpAnyH_cast rfl (by kernel_rfl) (by kernel_rfl) (ih ⟨none, some Q, none, 3⟩ _ (by simp only [St.left, Option.isSome, Bool.false_eq_true, if_false, if_true]; omega) ⟨by simp, hC⟩)
            refine AllReadyH.cons (o := ⟨some 8, Op.alloc 34, 0, _, _, none⟩) rfl (fun K hK => ?_) (AllReadyH.nil)
            · go_simp
              have hC := (hH.push [.int .i64 0, .int .i64 0, .int .i64 0] 34)
              change Has w _ (w2.alloc (.cells #[.int .i64 0, .int .i64 0, .int .i64 0] 34)) at hC
              generalize w2.alloc (.cells #[.int .i64 0, .int .i64 0, .int .i64 0] 34) = W at *
              generalize w2.heap.size = R at *
              have hC' : Has w ([(R, [.int .i64 0, .int .i64 0, .int .i64 0])] ++ [(M, [.int .i64 a0, .int .i64 a1, .int .i64 a2, .int .i64 b0, .int .i64 b1, .int .i64 b2, .int .i64 fn, .int .i64 fd]), (N, [.int .i64 p0, .int .i64 p1, .int .i64 p2])]) W := hC
              refine hK.out _ _ (Has.m83 (hC.tail)) (fun _ => ?_)
              exact wpAnyH_cast rfl (by kernel_rfl) (by kernel_rfl) (ih ⟨none, none, some R, 3⟩ _ (by simp only [St.left, Option.isSome, Bool.false_eq_true, if_false, if_true]; omega) ⟨by simp, hC⟩)
          | some R =>
            simp only [St.left, Option.isSome, Bool.false_eq_true, if_false, if_true] at hk
            simp only [putc, putp, Act.put, decide_eq_true_eq, decide_true, decide_false, Nat.le_refl, Nat.reduceLeDiff, List.setIfInBounds_toArray, List.set_cons_zero, List.set_cons_succ]
            refine wpAnyH_listed #[true, true, true, true, true, true, true, true, false, false, true, false, false, false] (by kernel_rfl) ?_
            refine wpAnyH_ready (rs := [8, 9]) (by kernel_rfl) (by simp) ?_
            refine AllReadyH.cons (o := ⟨some 6, Op.alloc 34, 0, _, _, none⟩) rfl (fun K hK => ?_) (?_)
            · go_simp
              have hC := (hH.push [.int .i64 0, .int .i64 0, .int .i64 0] 34)
              change Has w _ (w2.alloc (.cells #[.int .i64 0, .int .i64 0, .int .i64 0] 34)) at hC
              generalize w2.alloc (.cells #[.int .i64 0, .int .i64 0, .int .i64 0] 34) = W at *
              generalize w2.heap.size = P at *
              have hC' : Has w ([(P, [.int .i64 0, .int .i64 0, .int .i64 0]), (R, [.int .i64 0, .int .i64 0, .int .i64 0])] ++ [(M, [.int .i64 a0, .int .i64 a1, .int .i64 a2, .int .i64 b0, .int .i64 b1, .int .i64 b2, .int .i64 fn, .int .i64 fd]), (N, [.int .i64 p0, .int .i64 p1, .int .i64 p2])]) W := hC
              refine hK.out _ _ (Has.m83 (hC.tail.tail)) (fun _ => ?_)
              exact wpAnyH_cast rfl (by kernel_rfl) (by kernel_rfl) (ih ⟨some P, none, some R, 3⟩ _ (by simp only [St.left, Option.isSome, Bool.false_eq_true, if_false, if_true]; omega) ⟨by simp, hC⟩)
            refine AllReadyH.cons (o := ⟨some 7, Op.alloc 34, 0, _, _, none⟩) rfl (fun K hK => ?_) (AllReadyH.nil)
            · go_simp
              have hC := (hH.push [.int .i64 0, .int .i64 0, .int .i64 0] 34)
              change Has w _ (w2.alloc (.cells #[.int .i64 0, .int .i64 0, .int .i64 0] 34)) at hC
              generalize w2.alloc (.cells #[.int .i64 0, .int .i64 0, .int .i64 0] 34) = W at *
              generalize w2.heap.size = Q at *
              have hC' : Has w ([(Q, [.int .i64 0, .int .i64 0, .int .i64 0]), (R, [.int .i64 0, .int .i64 0, .int .i64 0])] ++ [(M, [.int .i64 a0, .int .i64 a1, .int .i64 a2, .int .i64 b0, .int .i64 b1, .int .i64 b2, .int .i64 fn, .int .i64 fd]), (N, [.int .i64 p0, .int .i64 p1, .int .i64 p2])]) W := hC
              refine hK.out _ _ (Has.m83 (hC.tail.tail)) (fun _ => ?_)
              exact wpAnyH_cast rfl (by kernel_rfl) (by kernel_rfl) (ih ⟨none, some Q, some R, 3⟩ _ (by simp only [St.left, Option.isSome, Bool.false_eq_true, if_false, if_true]; omega) ⟨by simp, hC⟩)
        | some Q =>
          cases pc with
          | none =>
            simp only [St.left, Option.isSome, Bool.false_eq_true, if_false, if_true] at hk
            simp only [putc, putp, Act.put, decide_eq_true_eq, decide_true, decide_false, Nat.le_refl, Nat.reduceLeDiff, List.setIfInBounds_toArray, List.set_cons_zero, List.set_cons_succ]
            refine wpAnyH_listed #[true, true, true, true, true, true, true, true, false, true, false, false, false, false] (by kernel_rfl) ?_
            refine wpAnyH_ready (rs := [8, 10]) (by kernel_rfl) (by simp) ?_
            refine AllReadyH.cons (o := ⟨some 6, Op.alloc 34, 0, _, _, none⟩) rfl (fun K hK => ?_) (?_)
            · go_simp
              have hC := (hH.push [.int .i64 0, .int .i64 0, .int .i64 0] 34)
              change Has w _ (w2.alloc (.cells #[.int .i64 0, .int .i64 0, .int .i64 0] 34)) at hC
              generalize w2.alloc (.cells #[.int .i64 0, .int .i64 0, .int .i64 0] 34) = W at *
              generalize w2.heap.size = P at *
              have hC' : Has w ([(P, [.int .i64 0, .int .i64 0, .int .i64 0]), (Q, [.int .i64 0, .int .i64 0, .int .i64 0])] ++ [(M, [.int .i64 a0, .int .i64 a1, .int .i64 a2, .int .i64 b0, .int .i64 b1, .int .i64 b2, .int .i64 fn, .int .i64 fd]), (N, [.int .i64 p0, .int .i64 p1, .int .i64 p2])]) W := hC
              refine hK.out _ _ (Has.m83 (hC.tail.tail)) (fun _ => ?_)
              exact wpAnyH_cast rfl (by kernel_rfl) (by kernel_rfl) (ih ⟨some P, some Q, none, 3⟩ _ (by simp only [St.left, Option.isSome, Bool.false_eq_true, if_false, if_true]; omega) ⟨by simp, hC⟩)
            refine AllReadyH.cons (o := ⟨some 8, Op.alloc 34, 0, _, _, none⟩) rfl (fun K hK => ?_) (AllReadyH.nil)
            · go_simp
              have hC := (hH.push [.int .i64 0, .int .i64 0, .int .i64 0] 34).swap
              change Has w _ (w2.alloc (.cells #[.int .i64 0, .int .i64 0, .int .i64 0] 34)) at hC
              generalize w2.alloc (.cells #[.int .i64 0, .int .i64 0, .int .i64 0] 34) = W at *
              generalize w2.heap.size = R at *
              have hC' : Has w ([(Q, [.int .i64 0, .int .i64 0, .int .i64 0]), (R, [.int .i64 0, .int .i64 0, .int .i64 0])] ++ [(M, [.int .i64 a0, .int .i64 a1, .int .i64 a2, .int .i64 b0, .int .i64 b1, .int .i64 b2, .int .i64 fn, .int .i64 fd]), (N, [.int .i64 p0, .int .i64 p1, .int .i64 p2])]) W := hC
              refine hK.out _ _ (Has.m83 (hC.tail.tail)) (fun _ => ?_)
              exact wpAnyH_cast rfl (by kernel_rfl) (by kernel_rfl) (ih ⟨none, some Q, some R, 3⟩ _ (by simp only [St.left, Option.isSome, Bool.false_eq_true, if_false, if_true]; omega) ⟨by simp, hC⟩)
          | some R =>
            simp only [St.left, Option.isSome, Bool.false_eq_true, if_false, if_true] at hk
            simp only [putc, putp, Act.put, decide_eq_true_eq, decide_true, decide_false, Nat.le_refl, Nat.reduceLeDiff, List.setIfInBounds_toArray, List.set_cons_zero, List.set_cons_succ]
            refine wpAnyH_listed #[true, true, true, true, true, true, true, true, false, true, true, false, false, false] (by kernel_rfl) ?_
            refine wpAnyH_ready (rs := [8]) (by kernel_rfl) (by simp) ?_
            refine AllReadyH.cons (o := ⟨some 6, Op.alloc 34, 0, _, _, none⟩) rfl (fun K hK => ?_) (AllReadyH.nil)
            · go_simp
              have hC := (hH.push [.int .i64 0, .int .i64 0, .int .i64 0] 34)
              change Has w _ (w2.alloc (.cells #[.int .i64 0, .int .i64 0, .int .i64 0] 34)) at hC
              generalize w2.alloc (.cells #[.int .i64 0, .int .i64 0, .int .i64 0] 34) = W at *
              generalize w2.heap.size = P at *
              have hC' : Has w ([(P, [.int .i64 0, .int .i64 0, .int .i64 0]), (Q, [.int .i64 0, .int .i64 0, .int .i64 0]), (R, [.int .i64 0, .int .i64 0, .int .i64 0])] ++ [(M, [.int .i64 a0, .int .i64 a1, .int .i64 a2, .int .i64 b0, .int .i64 b1, .int .i64 b2, .int .i64 fn, .int .i64 fd]), (N, [.int .i64 p0, .int .i64 p1, .int .i64 p2])]) W := hC
              refine hK.out _ _ (Has.m83 (hC.tail.tail.tail)) (fun _ => ?_)
              exact wpAnyH_cast rfl (by kernel_rfl) (by kernel_rfl) (ih ⟨some P, some Q, some R, 3⟩ _ (by simp only [St.left, Option.isSome, Bool.false_eq_true, if_false, if_true]; omega) ⟨by simp, hC⟩)
      | some P =>
        cases pb with
        | none =>
          cases pc with
          | none =>
            simp only [St.left, Option.isSome, Bool.false_eq_true, if_false, if_true] at hk
            simp only [putc, putp, Act.put, decide_eq_true_eq, decide_true, decide_false, Nat.le_refl, Nat.reduceLeDiff, List.setIfInBounds_toArray, List.set_cons_zero, List.set_cons_succ]
            refine wpAnyH_listed #[true, true, true, true, true, true, true, true, true, false, false, false, false, false] (by kernel_rfl) ?_
            refine wpAnyH_ready (rs := [9, 10]) (by kernel_rfl) (by simp) ?_
            refine AllReadyH.cons (o := ⟨some 7, Op.alloc 34, 0, _, _, none⟩) rfl (fun K hK => ?_) (?_)
            · go_simp
              have hC := (hH.push [.int .i64 0, .int .i64 0, .int .i64 0] 34).swap
              change Has w _ (w2.alloc (.cells #[.int .i64 0, .int .i64 0, .int .i64 0] 34)) at hC
              generalize w2.alloc (.cells #[.int .i64 0, .int .i64 0, .int .i64 0] 34) = W at *
              generalize w2.heap.size = Q at *
              have hC' : Has w ([(P, [.int .i64 0, .int .i64 0, .int .i64 0]), (Q, [.int .i64 0, .int .i64 0, .int .i64 0])] ++ [(M, [.int .i64 a0, .int .i64 a1, .int .i64 a2, .int .i64 b0, .int .i64 b1, .int .i64 b2, .int .i64 fn, .int .i64 fd]), (N, [.int .i64 p0, .int .i64 p1, .int .i64 p2])]) W := hC
              refine hK.out _ _ (Has.m83 (hC.tail.tail)) (fun _ => ?_)
              exact wpAnyH_cast rfl (by kernel_rfl) (by kernel_rfl) (ih ⟨some P, some Q, none, 3⟩ _ (by simp only [St.left, Option.isSome, Bool.false_eq_true, if_false, if_true]; omega) ⟨by simp, hC⟩)
            refine AllReadyH.cons (o := ⟨some 8, Op.alloc 34, 0, _, _, none⟩) rfl (fun K hK => ?_) (AllReadyH.nil)
            · go_simp
              have hC := (hH.push [.int .i64 0, .int .i64 0, .int .i64 0] 34).swap
              change Has w _ (w2.alloc (.cells #[.int .i64 0, .int .i64 0, .int .i64 0] 34)) at hC
              generalize w2.alloc (.cells #[.int .i64 0, .int .i64 0, .int .i64 0] 34) = W at *
              generalize w2.heap.size = R at *
              have hC' : Has w ([(P, [.int .i64 0, .int .i64 0, .int .i64 0]), (R, [.int .i64 0, .int .i64 0, .int .i64 0])] ++ [(M, [.int .i64 a0, .int .i64 a1, .int .i64 a2, .int .i64 b0, .int .i64 b1, .int .i64 b2, .int .i64 fn, .int .i64 fd]), (N, [.int .i64 p0, .int .i64 p1, .int .i64 p2])]) W := hC
              refine hK.out _ _ (Has.m83 (hC.tail.tail)) (fun _ => ?_)
              exact wpAnyH_cast rfl (by kernel_rfl) (by kernel_rfl) (ih ⟨some P, none, some R, 3⟩ _ (by simp only [St.left, Option.isSome, Bool.false_eq_true, if_false, if_true]; omega) ⟨by simp, hC⟩)
          | some R =>
            simp only [St.left, Option.isSome, Bool.false_eq_true, if_false, if_true] at hk
            simp only [putc, putp, Act.put, decide_eq_true_eq, decide_true, decide_false, Nat.le_refl, Nat.reduceLeDiff, List.setIfInBounds_toArray, List.set_cons_zero, List.set_cons_succ]
            refine wpAnyH_listed #[true, true, true, true, true, true, true, true, true, false, true, false, false, false] (by kernel_rfl) ?_
            refine wpAnyH_ready (rs := [9]) (by kernel_rfl) (by simp) ?_
            refine AllReadyH.cons (o := ⟨some 7, Op.alloc 34, 0, _, _, none⟩) rfl (fun K hK => ?_) (AllReadyH.nil)
            · go_simp
              have hC := (hH.push [.int .i64 0, .int .i64 0, .int .i64 0] 34).swap
              change Has w _ (w2.alloc (.cells #[.int .i64 0, .int .i64 0, .int .i64 0] 34)) at hC
              generalize w2.alloc (.cells #[.int .i64 0, .int .i64 0, .int .i64 0] 34) = W at *
              generalize w2.heap.size = Q at *
              have hC' : Has w ([(P, [.int .i64 0, .int .i64 0, .int .i64 0]), (Q, [.int .i64 0, .int .i64 0, .int .i64 0]), (R, [.int .i64 0, .int .i64 0, .int .i64 0])] ++ [(M, [.int .i64 a0, .int .i64 a1, .int .i64 a2, .int .i64 b0, .int .i64 b1, .int .i64 b2, .int .i64 fn, .int .i64 fd]), (N, [.int .i64 p0, .int .i64 p1, .int .i64 p2])]) W := hC
              refine hK.out _ _ (Has.m83 (hC.tail.tail.tail)) (fun _ => ?_)
              exact wpAnyH_cast rfl (by kernel_rfl) (by kernel_rfl) (ih ⟨some P, some Q, some R, 3⟩ _ (by simp only [St.left, Option.isSome, Bool.false_eq_true, if_false, if_true]; omega) ⟨by simp, hC⟩)
        | some Q =>
          cases pc with
          | none =>
            simp only [St.left, Option.isSome, Bool.false_eq_true, if_false, if_true] at hk
            simp only [putc, putp, Act.put, decide_eq_true_eq, decide_true, decide_false, Nat.le_refl, Nat.reduceLeDiff, List.setIfInBounds_toArray, List.set_cons_zero, List.set_cons_succ]
            refine wpAnyH_listed #[true, true, true, true, true, true, true, true, true, true, false, false, false, false] (by kernel_rfl) ?_
            refine wpAnyH_ready (rs := [10]) (by kernel_rfl) (by simp) ?_
            refine AllReadyH.cons (o := ⟨some 8, Op.alloc 34, 0, _, _, none⟩) rfl (fun K hK => ?_) (AllReadyH.nil)
            · go_simp
              have hC := (hH.push [.int .i64 0, .int .i64 0, .int .i64 0] 34).third.third
              change Has w _ (w2.alloc (.cells #[.int .i64 0, .int .i64 0, .int .i64 0] 34)) at hC
              generalize w2.alloc (.cells #[.int .i64 0, .int .i64 0, .int .i64 0] 34) = W at *
              generalize w2.heap.size = R at *
              have hC' : Has w ([(P, [.int .i64 0, .int .i64 0, .int .i64 0]), (Q, [.int .i64 0, .int .i64 0, .int .i64 0]), (R, [.int .i64 0, .int .i64 0, .int .i64 0])] ++ [(M, [.int .i64 a0, .int .i64 a1, .int .i64 a2, .int .i64 b0, .int .i64 b1, .int .i64 b2, .int .i64 fn, .int .i64 fd]), (N, [.int .i64 p0, .int .i64 p1, .int .i64 p2])]) W := hC
              refine hK.out _ _ (Has.m83 (hC.tail.tail.tail)) (fun _ => ?_)
              exact wpAnyH_cast rfl (by kernel_rfl) (by kernel_rfl) (ih ⟨some P, some Q, some R, 3⟩ _ (by simp only [St.left, Option.isSome, Bool.false_eq_true, if_false, if_true]; omega) ⟨by simp, hC⟩)
          | some R =>
            exact absurd hk (by simp [St.left])
  rintro ⟨pa, pb, pc, c⟩ w2 hk ⟨hc, hH⟩
  obtain ⟨P, Q, R, rfl, rfl, rfl, rfl⟩ : ∃ P Q R, pa = some P ∧ pb = some Q ∧ pc = some R ∧ c = 3 := by
    cases pa <;> cases pb <;> cases pc <;> simp only [St.left, Option.isSome, Bool.false_eq_true, if_false, if_true] at hk <;> simp only at hc <;> first | exact ⟨_, _, _, rfl, rfl, rfl, by omega⟩ | omega
  simp only [putc, putp, Act.put, decide_eq_true_eq, decide_true, decide_false, Nat.le_refl, Nat.reduceLeDiff, List.setIfInBounds_toArray, List.set_cons_zero, List.set_cons_succ]
  have X1 : Has w ([(P, [.int .i64 0, .int .i64 0, .int .i64 0]), (Q, [.int .i64 0, .int .i64 0, .int .i64 0]), (R, [.int .i64 0, .int .i64 0, .int .i64 0])] ++ [(M, [.int .i64 a0, .int .i64 a1, .int .i64 a2, .int .i64 b0, .int .i64 b1, .int .i64 b2, .int .i64 fn, .int .i64 fd]), (N, [.int .i64 p0, .int .i64 p1, .int .i64 p2])]) w2 := hH
  change Has w [(P, [.int .i64 0, .int .i64 0, .int .i64 0]), (Q, [.int .i64 0, .int .i64 0, .int .i64 0]), (R, [.int .i64 0, .int .i64 0, .int .i64 0]), (M, [.int .i64 a0, .int .i64 a1, .int .i64 a2, .int .i64 b0, .int .i64 b1, .int .i64 b2, .int .i64 fn, .int .i64 fd]), (N, [.int .i64 p0, .int .i64 p1, .int .i64 p2])] w2 at X1
  clear hH hk hc C1 X0
  refine wpAnyH_listed #[true, true, true, true, true, true, true, true, true, true, true, false, false, false] (by kernel_rfl) ?_
  refine wpAnyH_ready (rs := [11]) (by kernel_rfl) (by simp) ?_
  refine AllReadyH.cons (o := ⟨none, Op.store 34 (Operand.tmp 6) (Operand.tmp 22), 0, _, _, none⟩) rfl (fun K hK => ?_) AllReadyH.nil
  have k0 := X1.fact (.head _) (i := 0) rfl
  have k1 := X1.fact (.head _) (i := 1) rfl
  have k2 := X1.fact (.head _) (i := 2) rfl
  have f0 := X1.free (.head _) (i := 0) rfl
  have f1 := X1.free (.head _) (i := 1) rfl
  have f2 := X1.free (.head _) (i := 2) rfl
  go_simp
  have X2 : Has w [(P, [.int .i64 A0, .int .i64 A1, .int .i64 A2]), (Q, [.int .i64 0, .int .i64 0, .int .i64 0]), (R, [.int .i64 0, .int .i64 0, .int .i64 0]), (M, [.int .i64 a0, .int .i64 a1, .int .i64 a2, .int .i64 b0, .int .i64 b1, .int .i64 b2, .int .i64 fn, .int .i64 fd]), (N, [.int .i64 p0, .int .i64 p1, .int .i64 p2])] (World.setCell (World.setCell (World.setCell w2 ⟨P, 0, none⟩ (.int .i64 A0)) ⟨P, 1, none⟩ (.int .i64 A1)) ⟨P, 2, none⟩ (.int .i64 A2)) := (X1.set3 (.int .i64 A0) (.int .i64 A1) (.int .i64 A2))
  generalize (World.setCell (World.setCell (World.setCell w2 ⟨P, 0, none⟩ (.int .i64 A0)) ⟨P, 1, none⟩ (.int .i64 A1)) ⟨P, 2, none⟩ (.int .i64 A2)) = y0 at *
  clear k0 k1 k2 f0 f1 f2 X1
  clear hHeld
  refine hK.out _ _ (Has.m83 X2.tail.tail.tail) (fun hHeld => ?_)
  clear hK K
  try simp only [List.setIfInBounds_toArray, List.set_cons_zero, List.set_cons_succ]
  refine wpAnyH_listed #[true, true, true, true, true, true, true, true, true, true, true, true, false, false] (by kernel_rfl) ?_
  refine wpAnyH_ready (rs := [12]) (by kernel_rfl) (by simp) ?_
  refine AllReadyH.cons (o := ⟨none, Op.store 34 (Operand.tmp 7) (Operand.tmp 25), 0, _, _, none⟩) rfl (fun K hK => ?_) AllReadyH.nil
  have k0 := X2.tail.fact (.head _) (i := 0) rfl
  have k1 := X2.tail.fact (.head _) (i := 1) rfl
  have k2 := X2.tail.fact (.head _) (i := 2) rfl
  have f0 := X2.tail.free (.head _) (i := 0) rfl
  have f1 := X2.tail.free (.head _) (i := 1) rfl
  have f2 := X2.tail.free (.head _) (i := 2) rfl
  go_simp
  have X3 : Has w [(P, [.int .i64 A0, .int .i64 A1, .int .i64 A2]), (Q, [.int .i64 B0, .int .i64 B1, .int .i64 B2]), (R, [.int .i64 0, .int .i64 0, .int .i64 0]), (M, [.int .i64 a0, .int .i64 a1, .int .i64 a2, .int .i64 b0, .int .i64 b1, .int .i64 b2, .int .i64 fn, .int .i64 fd]), (N, [.int .i64 p0, .int .i64 p1, .int .i64 p2])] (World.setCell (World.setCell (World.setCell y0 ⟨Q, 0, none⟩ (.int .i64 B0)) ⟨Q, 1, none⟩ (.int .i64 B1)) ⟨Q, 2, none⟩ (.int .i64 B2)) := (X2.swap.set3 (.int .i64 B0) (.int .i64 B1) (.int .i64 B2)).swap
  generalize (World.setCell (World.setCell (World.setCell y0 ⟨Q, 0, none⟩ (.int .i64 B0)) ⟨Q, 1, none⟩ (.int .i64 B1)) ⟨Q, 2, none⟩ (.int .i64 B2)) = y1 at *
  clear k0 k1 k2 f0 f1 f2 X2
  clear hHeld
  refine hK.out _ _ (Has.m83 X3.tail.tail.tail) (fun hHeld => ?_)
  clear hK K
  try simp only [List.setIfInBounds_toArray, List.set_cons_zero, List.set_cons_succ]
  refine wpAnyH_listed #[true, true, true, true, true, true, true, true, true, true, true, true, true, false] (by kernel_rfl) ?_
  refine wpAnyH_ready (rs := [13]) (by kernel_rfl) (by simp) ?_
  refine AllReadyH.cons (o := ⟨none, Op.store 34 (Operand.tmp 8) (Operand.tmp 27), 0, _, _, none⟩) rfl (fun K hK => ?_) AllReadyH.nil
  have k0 := X3.tail.tail.fact (.head _) (i := 0) rfl
  have k1 := X3.tail.tail.fact (.head _) (i := 1) rfl
  have k2 := X3.tail.tail.fact (.head _) (i := 2) rfl
  have f0 := X3.tail.tail.free (.head _) (i := 0) rfl
  have f1 := X3.tail.tail.free (.head _) (i := 1) rfl
  have f2 := X3.tail.tail.free (.head _) (i := 2) rfl
  go_simp
  have X4 : Has w [(P, [.int .i64 A0, .int .i64 A1, .int .i64 A2]), (Q, [.int .i64 B0, .int .i64 B1, .int .i64 B2]), (R, [.int .i64 D0, .int .i64 D1, .int .i64 D2]), (M, [.int .i64 a0, .int .i64 a1, .int .i64 a2, .int .i64 b0, .int .i64 b1, .int .i64 b2, .int .i64 fn, .int .i64 fd]), (N, [.int .i64 p0, .int .i64 p1, .int .i64 p2])] (World.setCell (World.setCell (World.setCell y1 ⟨R, 0, none⟩ (.int .i64 D0)) ⟨R, 1, none⟩ (.int .i64 D1)) ⟨R, 2, none⟩ (.int .i64 D2)) := (X3.third.set3 (.int .i64 D0) (.int .i64 D1) (.int .i64 D2)).third.third
  generalize (World.setCell (World.setCell (World.setCell y1 ⟨R, 0, none⟩ (.int .i64 D0)) ⟨R, 1, none⟩ (.int .i64 D1)) ⟨R, 2, none⟩ (.int .i64 D2)) = y2 at *
  clear k0 k1 k2 f0 f1 f2 X3
  clear hHeld
  refine hK.out _ _ (Has.m83 X4.tail.tail.tail) (fun hHeld => ?_)
  clear hK K
  try simp only [List.setIfInBounds_toArray, List.set_cons_zero, List.set_cons_succ]
  refine wpAnyH_listed #[true, true, true, true, true, true, true, true, true, true, true, true, true, true] (by kernel_rfl) ?_
  refine wpAnyH_done (by kernel_rfl) ?_ _
  try clear hHeld
  have m7 := X4.tail.tail.tail.fact (.head _) (i := 7) rfl
  go_wp2_with fail
  refine (mod_any _ _ _ (by omega) (by omega)).mono ?_
  rintro e v1 ⟨rfl, rfl⟩
  have m6 := X4.tail.tail.tail.fact (.head _) (i := 6) rfl
  go_wp2_with fail
  refine (mod_any _ _ _ (by omega) (by omega)).mono ?_
  rintro e v1 ⟨rfl, rfl⟩
  rw [HF.out]
  go_upto_region 5 with fail
  have X5 := X4.push [.int .i64 F, .int .i64 D] 50
  change Has w _ (y2.alloc (.cells #[.int .i64 F, .int .i64 D] 50)) at X5
  generalize y2.alloc (.cells #[.int .i64 F, .int .i64 D] 50) = y3 at *
  generalize y2.heap.size = T at *
  clear X4 m6 m7
  have t0 := X5.fact (.head _) (i := 0) rfl
  have t1 := X5.fact (.head _) (i := 1) rfl
  have q0 := X5.tail.fact (.head _) (i := 0) rfl
  have q1 := X5.tail.fact (.head _) (i := 1) rfl
  have q2 := X5.tail.fact (.head _) (i := 2) rfl
  have r0 := X5.tail.tail.fact (.head _) (i := 0) rfl
  have r1 := X5.tail.tail.fact (.head _) (i := 1) rfl
  have r2 := X5.tail.tail.fact (.head _) (i := 2) rfl
  have n0 := X5.tail.tail.tail.tail.fact (.head _) (i := 0) rfl
  have n1 := X5.tail.tail.tail.tail.fact (.head _) (i := 1) rfl
  have n2 := X5.tail.tail.tail.tail.fact (.head _) (i := 2) rfl
  have n3 := X5.tail.tail.tail.tail.fact (.head _) (i := 3) rfl
  have n4 := X5.tail.tail.tail.tail.fact (.head _) (i := 4) rfl
  have n5 := X5.tail.tail.tail.tail.fact (.head _) (i := 5) rfl
  have n6 := X5.tail.tail.tail.tail.fact (.head _) (i := 6) rfl
  have n7 := X5.tail.tail.tail.tail.fact (.head _) (i := 7) rfl
  obtain ⟨L, hL⟩ : ∃ L : List Value, L = (.int .i64 A0 :: .int .i64 A1 :: .int .i64 A2 :: .int .i64 B0 :: .int .i64 B1 :: .int .i64 B2 :: .int .i64 F :: .int .i64 D :: .int .i64 a0 :: .int .i64 a1 :: .int .i64 a2 :: .int .i64 b0 :: .int .i64 b1 :: .int .i64 b2 :: .int .i64 fn :: .int .i64 fd :: .int .i64 A0 :: .int .i64 A1 :: .int .i64 A2 :: .int .i64 B0 :: .int .i64 B1 :: .int .i64 B2 :: .int .i64 fn :: .int .i64 fd :: .int .i64 a0 :: .int .i64 a1 :: .int .i64 a2 :: .int .i64 B0 :: .int .i64 B1 :: .int .i64 B2 :: .int .i64 F :: .int .i64 D :: .int .i64 A0 :: .int .i64 A1 :: .int .i64 A2 :: .int .i64 b0 :: .int .i64 b1 :: .int .i64 b2 :: .int .i64 F :: .int .i64 D :: []) := ⟨_, rfl⟩
  have HO := Lib.hid (show Octs L 5 from hL ▸ octs5 A0 A1 A2 B0 B1 B2 F D a0 a1 a2 b0 b1 b2 fn fd A0 A1 A2 B0 B1 B2 fn fd a0 a1 a2 B0 B1 B2 F D A0 A1 A2 b0 b1 b2 F D)
  go_upto_block 0 with fail
  have X6 := X5.tail.tail.tail.swap.tail.push L 52
  have hW : y3.alloc (.cells L.toArray 52) = y3.alloc (.cells (List.toArray (Value.int .i64 A0 :: Value.int .i64 A1 :: Value.int .i64 A2 :: Value.int .i64 B0 :: Value.int .i64 B1 :: Value.int .i64 B2 :: Value.int .i64 F :: Value.int .i64 D :: Value.int .i64 a0 :: Value.int .i64 a1 :: Value.int .i64 a2 :: Value.int .i64 b0 :: Value.int .i64 b1 :: Value.int .i64 b2 :: Value.int .i64 fn :: Value.int .i64 fd :: Value.int .i64 A0 :: Value.int .i64 A1 :: Value.int .i64 A2 :: Value.int .i64 B0 :: Value.int .i64 B1 :: Value.int .i64 B2 :: Value.int .i64 fn :: Value.int .i64 fd :: Value.int .i64 a0 :: Value.int .i64 a1 :: Value.int .i64 a2 :: Value.int .i64 B0 :: Value.int .i64 B1 :: Value.int .i64 B2 :: Value.int .i64 F :: Value.int .i64 D :: Value.int .i64 A0 :: Value.int .i64 A1 :: Value.int .i64 A2 :: Value.int .i64 b0 :: Value.int .i64 b1 :: Value.int .i64 b2 :: Value.int .i64 F :: Value.int .i64 D :: [])) 52) := by rw [hL]
  rw [← hW]
  generalize y3.alloc (.cells L.toArray 52) = y4 at *
  generalize y3.heap.size = S at *
  clear hL hW t0 t1 q0 q1 q2 r0 r1 r2 n0 n1 n2 n3 n4 n5 n6 n7 X5
  go_wp2_with fail
  go_loopw [63] (fun v wr => ∃ k : Nat, k ≤ 5 ∧ v = .int .i64 k ∧ Has w [(S, L), (R, [.int .i64 D0, .int .i64 D1, .int .i64 D2]), (N, [.int .i64 p0, .int .i64 p1, .int .i64 p2])] wr) (fun v _ => 5 - (intOf v).toNat)
  case atStart => exact ⟨0, by omega, rfl, X6⟩
  case round =>
    clear X6
    obtain ⟨k, hk, rfl, G0⟩ := hrel
    by_cases hlt : k < 5
    · obtain ⟨e0, e1, e2, e3, e4, e5, e6, e7, l0, l1, l2, l3, l4, l5, l6, l7⟩ := HO.out k hlt
      have c0 := G0.fact (.head _) (i := k * 8) l0
      have c1 := G0.fact (.head _) (i := k * 8 + 1) l1
      have c2 := G0.fact (.head _) (i := k * 8 + 2) l2
      have c3 := G0.fact (.head _) (i := k * 8 + 3) l3
      have c4 := G0.fact (.head _) (i := k * 8 + 4) l4
      have c5 := G0.fact (.head _) (i := k * 8 + 5) l5
      have c6 := G0.fact (.head _) (i := k * 8 + 6) l6
      have c7 := G0.fact (.head _) (i := k * 8 + 7) l7
      clear l0 l1 l2 l3 l4 l5 l6 l7
      go_upto_region 8 with fail
      have G1 := G0.push [.int .i64 e0, .int .i64 e1, .int .i64 e2, .int .i64 e3, .int .i64 e4, .int .i64 e5, .int .i64 e6, .int .i64 e7] 52
      change Has w _ (wr.alloc (.cells #[.int .i64 e0, .int .i64 e1, .int .i64 e2, .int .i64 e3, .int .i64 e4, .int .i64 e5, .int .i64 e6, .int .i64 e7] 52)) at G1
      generalize wr.alloc (.cells #[.int .i64 e0, .int .i64 e1, .int .i64 e2, .int .i64 e3, .int .i64 e4, .int .i64 e5, .int .i64 e6, .int .i64 e7] 52) = v0 at *
      generalize wr.heap.size = E at *
      clear c0 c1 c2 c3 c4 c5 c6 c7
      obtain ⟨r, hr⟩ : ∃ v, mv0 e0 e1 e2 e3 e4 e5 e6 e7 = v := ⟨_, rfl⟩
      have Hr := Lib.hid hr
      clear hr
      obtain ⟨s, hs⟩ : ∃ v, mv1 e0 e1 e2 e3 e4 e5 e6 e7 = v := ⟨_, rfl⟩
      have Hs := Lib.hid hs
      clear hs
      obtain ⟨t, ht⟩ : ∃ v, mv2 e0 e1 e2 e3 e4 e5 e6 e7 = v := ⟨_, rfl⟩
      have Ht := Lib.hid ht
      clear ht
      obtain ⟨u, hu⟩ : ∃ v, mvI e0 e1 e2 e3 e4 e5 e6 e7 = v := ⟨_, rfl⟩
      have Hu := Lib.hid hu
      clear hu
      obtain ⟨⟨k0, k1, k2, k3, k4, k5, k6, k7⟩, -⟩ := G1.eight
      go_wp2_with fail
      refine (Has.call G1 (move_is e0 e1 e2 e3 e4 e5 e6 e7 r s t u Hr.out Hs.out Ht.out Hu.out _)).mono ?_
      rintro e v1 ⟨rfl, G2⟩
      clear k0 k1 k2 k3 k4 k5 k6 k7
      go_upto_region 9 with fail
      have G3 := G2.push [.int .i64 r, .int .i64 s, .int .i64 t] 34
      change Has w _ (v1.alloc (.cells #[.int .i64 r, .int .i64 s, .int .i64 t] 34)) at G3
      generalize v1.alloc (.cells #[.int .i64 r, .int .i64 s, .int .i64 t] 34) = v2 at *
      generalize v1.heap.size = Y1 at *
      obtain ⟨⟨k0, k1, k2, k3, k4, k5, k6, k7⟩, -⟩ := G3.tail.eight
      go_wp2_with fail
      refine (Has.call G3 (rmove_is e0 e1 e2 e3 e4 e5 e6 e7 r s t u Hr.out Hs.out Ht.out Hu.out _)).mono ?_
      rintro e v3 ⟨rfl, G4⟩
      clear k0 k1 k2 k3 k4 k5 k6 k7
      go_upto_region 10 with fail
      have G5 := G4.push [.int .i64 r, .int .i64 s, .int .i64 t] 34
      change Has w _ (v3.alloc (.cells #[.int .i64 r, .int .i64 s, .int .i64 t] 34)) at G5
      generalize v3.alloc (.cells #[.int .i64 r, .int .i64 s, .int .i64 t] 34) = v4 at *
      generalize v3.heap.size = Y2 at *
      have fa0 := G5.fact (.head _) (i := 0) rfl
      have fa1 := G5.fact (.head _) (i := 1) rfl
      have fa2 := G5.fact (.head _) (i := 2) rfl
      have fb0 := G5.tail.fact (.head _) (i := 0) rfl
      have fb1 := G5.tail.fact (.head _) (i := 1) rfl
      have fb2 := G5.tail.fact (.head _) (i := 2) rfl
      have fc0 := G5.tail.tail.tail.tail.fact (.head _) (i := 0) rfl
      have fc1 := G5.tail.tail.tail.tail.fact (.head _) (i := 1) rfl
      have fc2 := G5.tail.tail.tail.tail.fact (.head _) (i := 2) rfl
      have fd0 := G5.tail.tail.tail.tail.tail.fact (.head _) (i := 0) rfl
      have fd1 := G5.tail.tail.tail.tail.tail.fact (.head _) (i := 1) rfl
      have fd2 := G5.tail.tail.tail.tail.tail.fact (.head _) (i := 2) rfl
      obtain ⟨K9, hK9⟩ : ∃ L : List Value, L = [.int .i64 D0, .int .i64 D1, .int .i64 D2, .int .i64 p0, .int .i64 p1, .int .i64 p2, .int .i64 r, .int .i64 s, .int .i64 t] := ⟨_, rfl⟩
      have HT := Lib.hid (show Trips K9 3 from hK9 ▸ trips3 D0 D1 D2 p0 p1 p2 r s t)
      go_upto_block 2 with fail
      have G6 := G5.tail.tail.push K9 34
      have hW : v4.alloc (.cells K9.toArray 34) = v4.alloc (.cells #[.int .i64 D0, .int .i64 D1, .int .i64 D2, .int .i64 p0, .int .i64 p1, .int .i64 p2, .int .i64 r, .int .i64 s, .int .i64 t] 34) := by rw [hK9]
      rw [← hW]
      generalize v4.alloc (.cells K9.toArray 34) = v5 at *
      generalize v4.heap.size = Z at *
      clear hK9 hW fa0 fa1 fa2 fb0 fb1 fb2 fc0 fc1 fc2 fd0 fd1 fd2 G0 G1 G2 G3 G4 G5 Hr Hs Ht Hu
      go_wp2_with fail
      go_loopw [100] (fun v wr => ∃ j : Nat, j ≤ 3 ∧ v = .int .i64 j ∧ Has w [(Z, K9), (E, [.int .i64 e0, .int .i64 e1, .int .i64 e2, .int .i64 e3, .int .i64 e4, .int .i64 e5, .int .i64 e6, .int .i64 e7]), (S, L), (R, [.int .i64 D0, .int .i64 D1, .int .i64 D2]), (N, [.int .i64 p0, .int .i64 p1, .int .i64 p2])] wr) (fun v _ => 3 - (intOf v).toNat)
      case atStart => exact ⟨0, by omega, rfl, G6⟩
      case round =>
        clear G6
        obtain ⟨j, hj, rfl, G0⟩ := hrel
        by_cases hlj : j < 3
        · obtain ⟨y0, y1, y2, l0, l1, l2⟩ := HT.out j hlj
          have c0 := G0.fact (.head _) (i := j * 3) l0
          have c1 := G0.fact (.head _) (i := j * 3 + 1) l1
          have c2 := G0.fact (.head _) (i := j * 3 + 2) l2
          clear l0 l1 l2
          go_upto_region 15 with fail
          have G1 := G0.push [.int .i64 y0, .int .i64 y1, .int .i64 y2] 34
          change Has w _ (wr.alloc (.cells #[.int .i64 y0, .int .i64 y1, .int .i64 y2] 34)) at G1
          generalize wr.alloc (.cells #[.int .i64 y0, .int .i64 y1, .int .i64 y2] 34) = v6 at *
          generalize wr.heap.size = V at *
          clear c0 c1 c2
          obtain ⟨s1, hs1⟩ : ∃ s, sideS e0 e1 e2 e3 e4 e5 y0 y1 y2 = s := ⟨_, rfl⟩
          obtain ⟨s2, hs2⟩ : ∃ s, sideS y0 y1 y2 e0 e1 e2 e3 e4 e5 = s := ⟨_, rfl⟩
          have Hs1 := Lib.hid hs1
          have Hs2 := Lib.hid hs2
          clear hs1 hs2
          have X0 := G1.third.swap.drew
          refine wp_region_held_drew (S := (fun w' => (w'.cell? ⟨V, 0, none⟩ = some (.int .i64 y0) ∧ w'.cell? ⟨V, 1, none⟩ = some (.int .i64 y1) ∧ w'.cell? ⟨V, 2, none⟩ = some (.int .i64 y2) ∧ w'.cell? ⟨E, 0, none⟩ = some (.int .i64 e0) ∧ w'.cell? ⟨E, 1, none⟩ = some (.int .i64 e1) ∧ w'.cell? ⟨E, 2, none⟩ = some (.int .i64 e2) ∧ w'.cell? ⟨E, 3, none⟩ = some (.int .i64 e3) ∧ w'.cell? ⟨E, 4, none⟩ = some (.int .i64 e4) ∧ w'.cell? ⟨E, 5, none⟩ = some (.int .i64 e5) ∧ w'.cell? ⟨E, 6, none⟩ = some (.int .i64 e6) ∧ w'.cell? ⟨E, 7, none⟩ = some (.int .i64 e7)) ∧ Has w [(V, [.int .i64 y0, .int .i64 y1, .int .i64 y2]), (E, [.int .i64 e0, .int .i64 e1, .int .i64 e2, .int .i64 e3, .int .i64 e4, .int .i64 e5, .int .i64 e6, .int .i64 e7]), (Z, K9), (S, L), (R, [.int .i64 D0, .int .i64 D1, .int .i64 D2]), (N, [.int .i64 p0, .int .i64 p1, .int .i64 p2])] w')) (by kernel_rfl) (X0.m38) (fun hHeld => ?_)
          refine wpAnyT_begin [0, 1, 2, 3, 4, 6, 7, 8, 9, 10] (by kernel_rfl) (by kernel_rfl) ?_
          refine wpAnyT_take (oi := ⟨some 104, Op.fieldAddr 52 (Operand.tmp 12) 0, 0, _, _, none⟩) (v := .pointer (some ⟨E, 0, none⟩)) rfl (fun _ _ _ h => h) (by rfl) (by assumption) (fun wS hSw => ?_) ?_
          · (try dsimp only at hSw); go_simp
          simp only [Act.put, List.setIfInBounds_toArray, List.set_cons_zero, List.set_cons_succ]
          refine wpAnyT_take (oi := ⟨some 105, Op.load 34 (Operand.tmp 104), 34, _, _, none⟩) (v := .agg #[.int .i64 e0, .int .i64 e1, .int .i64 e2]) rfl (fun _ _ _ h => h) (by rfl) (by assumption) (fun wS hSw => ?_) ?_
          · (try dsimp only at hSw); go_simp
          simp only [Act.put, List.setIfInBounds_toArray, List.set_cons_zero, List.set_cons_succ]
          refine wpAnyT_take (oi := ⟨some 106, Op.fieldAddr 52 (Operand.tmp 12) 1, 0, _, _, none⟩) (v := .pointer (some ⟨E, 3, none⟩)) rfl (fun _ _ _ h => h) (by rfl) (by assumption) (fun wS hSw => ?_) ?_
          · (try dsimp only at hSw); go_simp
          simp only [Act.put, List.setIfInBounds_toArray, List.set_cons_zero, List.set_cons_succ]
          refine wpAnyT_take (oi := ⟨some 107, Op.load 34 (Operand.tmp 106), 34, _, _, none⟩) (v := .agg #[.int .i64 e3, .int .i64 e4, .int .i64 e5]) rfl (fun _ _ _ h => h) (by rfl) (by assumption) (fun wS hSw => ?_) ?_
          · (try dsimp only at hSw); go_simp
          simp only [Act.put, List.setIfInBounds_toArray, List.set_cons_zero, List.set_cons_succ]
          refine wpAnyT_take (oi := ⟨some 108, Op.load 34 (Operand.tmp 18), 34, _, _, none⟩) (v := .agg #[.int .i64 y0, .int .i64 y1, .int .i64 y2]) rfl (fun _ _ _ h => h) (by rfl) (by assumption) (fun wS hSw => ?_) ?_
          · (try dsimp only at hSw); go_simp
          simp only [Act.put, List.setIfInBounds_toArray, List.set_cons_zero, List.set_cons_succ]
          refine wpAnyT_take (oi := ⟨some 110, Op.fieldAddr 52 (Operand.tmp 12) 0, 0, _, _, none⟩) (v := .pointer (some ⟨E, 0, none⟩)) rfl (fun _ _ _ h => h) (by rfl) (by assumption) (fun wS hSw => ?_) ?_
          · (try dsimp only at hSw); go_simp
          simp only [Act.put, List.setIfInBounds_toArray, List.set_cons_zero, List.set_cons_succ]
          refine wpAnyT_take (oi := ⟨some 111, Op.load 34 (Operand.tmp 110), 34, _, _, none⟩) (v := .agg #[.int .i64 e0, .int .i64 e1, .int .i64 e2]) rfl (fun _ _ _ h => h) (by rfl) (by assumption) (fun wS hSw => ?_) ?_
          · (try dsimp only at hSw); go_simp
          simp only [Act.put, List.setIfInBounds_toArray, List.set_cons_zero, List.set_cons_succ]
          refine wpAnyT_take (oi := ⟨some 112, Op.fieldAddr 52 (Operand.tmp 12) 1, 0, _, _, none⟩) (v := .pointer (some ⟨E, 3, none⟩)) rfl (fun _ _ _ h => h) (by rfl) (by assumption) (fun wS hSw => ?_) ?_
          · (try dsimp only at hSw); go_simp
          simp only [Act.put, List.setIfInBounds_toArray, List.set_cons_zero, List.set_cons_succ]
          refine wpAnyT_take (oi := ⟨some 113, Op.load 34 (Operand.tmp 112), 34, _, _, none⟩) (v := .agg #[.int .i64 e3, .int .i64 e4, .int .i64 e5]) rfl (fun _ _ _ h => h) (by rfl) (by assumption) (fun wS hSw => ?_) ?_
          · (try dsimp only at hSw); go_simp
          simp only [Act.put, List.setIfInBounds_toArray, List.set_cons_zero, List.set_cons_succ]
          refine wpAnyT_take (oi := ⟨some 114, Op.load 34 (Operand.tmp 18), 34, _, _, none⟩) (v := .agg #[.int .i64 y0, .int .i64 y1, .int .i64 y2]) rfl (fun _ _ _ h => h) (by rfl) (by assumption) (fun wS hSw => ?_) ?_
          · (try dsimp only at hSw); go_simp
          simp only [Act.put, List.setIfInBounds_toArray, List.set_cons_zero, List.set_cons_succ]
          refine wpAnyT_end ?_
          refine wpAnyH_listed #[true, true, true, true, true, false, true, true, true, true, true, false, false, false, false, false, false, false, false, false, false, false, false, false, false, false, false, false] (by kernel_rfl) ?_
          refine wpAnyH_ready (rs := [5]) (by kernel_rfl) (by simp) ?_
          refine AllReadyH.cons (o := ⟨some 109, Op.call { callee := Callee.value (Operand.func 40), args := #[Operand.tmp 105, Operand.tmp 107, Operand.tmp 108], argTypes := #[34, 34, 34] }, 3, _, _, none⟩) rfl (fun K hK => ?_) AllReadyH.nil
          go_simp
          go_at_call 40
          refine (Has.call X0 (spotSide_is e0 e1 e2 e3 e4 e5 y0 y1 y2 s1 Hs1.out _)).mono ?_
          rintro e W1 ⟨rfl, X1⟩
          go_wp2_with fail
          clear hHeld
          refine hK.out _ _ (X1.m38) (fun hHeld => ?_)
          clear hK K
          try simp only [List.setIfInBounds_toArray, List.set_cons_zero, List.set_cons_succ]
          refine wpAnyH_listed #[true, true, true, true, true, true, true, true, true, true, true, false, false, false, false, false, false, false, false, false, false, false, false, false, false, false, false, false] (by kernel_rfl) ?_
          refine wpAnyH_ready (rs := [11]) (by kernel_rfl) (by simp) ?_
          refine AllReadyH.cons (o := ⟨some 115, Op.call { callee := Callee.value (Operand.func 41), args := #[Operand.tmp 111, Operand.tmp 113, Operand.tmp 114], argTypes := #[34, 34, 34] }, 3, _, _, none⟩) rfl (fun K hK => ?_) AllReadyH.nil
          go_simp
          go_at_call 41
          refine (Has.call X1 (rspotSide_is e0 e1 e2 e3 e4 e5 y0 y1 y2 s1 Hs1.out _)).mono ?_
          rintro e W2 ⟨rfl, X2⟩
          go_wp2_with fail
          clear hHeld
          refine hK.out _ _ (X2.m38) (fun hHeld => ?_)
          clear hK K
          try simp only [List.setIfInBounds_toArray, List.set_cons_zero, List.set_cons_succ]
          refine wpAnyH_listed #[true, true, true, true, true, true, true, true, true, true, true, true, false, false, false, false, false, false, false, false, false, false, false, false, false, false, false, false] (by kernel_rfl) ?_
          refine wpAnyT_begin [12, 13, 14, 15, 16, 17, 18, 20, 21, 22, 23, 24] (by kernel_rfl) (by kernel_rfl) ?_
          refine wpAnyT_take (oi := ⟨some 116, Op.binOp BinOp.neq 3 (Operand.tmp 109) (Operand.tmp 115) 3, 4, _, _, none⟩) (v := .bool false) rfl (fun _ _ _ h => h) (by rfl) (by assumption) (fun wS hSw => ?_) ?_
          · (try dsimp only at hSw); go_simp
          simp only [Act.put, List.setIfInBounds_toArray, List.set_cons_zero, List.set_cons_succ]
          refine wpAnyT_take (oi := ⟨some 117, Op.move (Operand.tmp 116), 4, _, _, none⟩) (v := .bool false) rfl (fun _ _ _ h => h) (by rfl) (by assumption) (fun wS hSw => ?_) ?_
          · (try dsimp only at hSw); go_simp
          simp only [Act.put, List.setIfInBounds_toArray, List.set_cons_zero, List.set_cons_succ]
          refine wpAnyT_take (oi := ⟨some 118, Op.load 34 (Operand.tmp 18), 34, _, _, some (13, false)⟩) (v := .agg #[.int .i64 y0, .int .i64 y1, .int .i64 y2]) rfl (fun _ _ _ h => h) (by rfl) (by assumption) (fun wS hSw => ?_) ?_
          · (try dsimp only at hSw); go_simp
          simp only [Act.put, List.setIfInBounds_toArray, List.set_cons_zero, List.set_cons_succ]
          refine wpAnyT_take (oi := ⟨some 119, Op.fieldAddr 52 (Operand.tmp 12) 0, 0, _, _, some (13, false)⟩) (v := .pointer (some ⟨E, 0, none⟩)) rfl (fun _ _ _ h => h) (by rfl) (by assumption) (fun wS hSw => ?_) ?_
          · (try dsimp only at hSw); go_simp
          simp only [Act.put, List.setIfInBounds_toArray, List.set_cons_zero, List.set_cons_succ]
          refine wpAnyT_take (oi := ⟨some 120, Op.load 34 (Operand.tmp 119), 34, _, _, some (13, false)⟩) (v := .agg #[.int .i64 e0, .int .i64 e1, .int .i64 e2]) rfl (fun _ _ _ h => h) (by rfl) (by assumption) (fun wS hSw => ?_) ?_
          · (try dsimp only at hSw); go_simp
          simp only [Act.put, List.setIfInBounds_toArray, List.set_cons_zero, List.set_cons_succ]
          refine wpAnyT_take (oi := ⟨some 121, Op.fieldAddr 52 (Operand.tmp 12) 1, 0, _, _, some (13, false)⟩) (v := .pointer (some ⟨E, 3, none⟩)) rfl (fun _ _ _ h => h) (by rfl) (by assumption) (fun wS hSw => ?_) ?_
          · (try dsimp only at hSw); go_simp
          simp only [Act.put, List.setIfInBounds_toArray, List.set_cons_zero, List.set_cons_succ]
          refine wpAnyT_take (oi := ⟨some 122, Op.load 34 (Operand.tmp 121), 34, _, _, some (13, false)⟩) (v := .agg #[.int .i64 e3, .int .i64 e4, .int .i64 e5]) rfl (fun _ _ _ h => h) (by rfl) (by assumption) (fun wS hSw => ?_) ?_
          · (try dsimp only at hSw); go_simp
          simp only [Act.put, List.setIfInBounds_toArray, List.set_cons_zero, List.set_cons_succ]
          refine wpAnyT_take (oi := ⟨some 124, Op.load 34 (Operand.tmp 18), 34, _, _, some (13, false)⟩) (v := .agg #[.int .i64 y0, .int .i64 y1, .int .i64 y2]) rfl (fun _ _ _ h => h) (by rfl) (by assumption) (fun wS hSw => ?_) ?_
          · (try dsimp only at hSw); go_simp
          simp only [Act.put, List.setIfInBounds_toArray, List.set_cons_zero, List.set_cons_succ]
          refine wpAnyT_take (oi := ⟨some 125, Op.fieldAddr 52 (Operand.tmp 12) 0, 0, _, _, some (13, false)⟩) (v := .pointer (some ⟨E, 0, none⟩)) rfl (fun _ _ _ h => h) (by rfl) (by assumption) (fun wS hSw => ?_) ?_
          · (try dsimp only at hSw); go_simp
          simp only [Act.put, List.setIfInBounds_toArray, List.set_cons_zero, List.set_cons_succ]
          refine wpAnyT_take (oi := ⟨some 126, Op.load 34 (Operand.tmp 125), 34, _, _, some (13, false)⟩) (v := .agg #[.int .i64 e0, .int .i64 e1, .int .i64 e2]) rfl (fun _ _ _ h => h) (by rfl) (by assumption) (fun wS hSw => ?_) ?_
          · (try dsimp only at hSw); go_simp
          simp only [Act.put, List.setIfInBounds_toArray, List.set_cons_zero, List.set_cons_succ]
          refine wpAnyT_take (oi := ⟨some 127, Op.fieldAddr 52 (Operand.tmp 12) 1, 0, _, _, some (13, false)⟩) (v := .pointer (some ⟨E, 3, none⟩)) rfl (fun _ _ _ h => h) (by rfl) (by assumption) (fun wS hSw => ?_) ?_
          · (try dsimp only at hSw); go_simp
          simp only [Act.put, List.setIfInBounds_toArray, List.set_cons_zero, List.set_cons_succ]
          refine wpAnyT_take (oi := ⟨some 128, Op.load 34 (Operand.tmp 127), 34, _, _, some (13, false)⟩) (v := .agg #[.int .i64 e3, .int .i64 e4, .int .i64 e5]) rfl (fun _ _ _ h => h) (by rfl) (by assumption) (fun wS hSw => ?_) ?_
          · (try dsimp only at hSw); go_simp
          simp only [Act.put, List.setIfInBounds_toArray, List.set_cons_zero, List.set_cons_succ]
          refine wpAnyT_end ?_
          refine wpAnyH_listed #[true, true, true, true, true, true, true, true, true, true, true, true, true, true, true, true, true, true, true, false, true, true, true, true, true, false, false, false] (by kernel_rfl) ?_
          refine wpAnyH_ready (rs := [19]) (by kernel_rfl) (by simp) ?_
          refine AllReadyH.cons (o := ⟨some 123, Op.call { callee := Callee.value (Operand.func 40), args := #[Operand.tmp 118, Operand.tmp 120, Operand.tmp 122], argTypes := #[34, 34, 34] }, 3, _, _, some (13, false)⟩) rfl (fun K hK => ?_) AllReadyH.nil
          go_simp
          go_at_call 40
          refine (Has.call X2 (spotSide_is y0 y1 y2 e0 e1 e2 e3 e4 e5 s2 Hs2.out _)).mono ?_
          rintro e W3 ⟨rfl, X3⟩
          go_wp2_with fail
          clear hHeld
          refine hK.out _ _ (X3.m38) (fun hHeld => ?_)
          clear hK K
          try simp only [List.setIfInBounds_toArray, List.set_cons_zero, List.set_cons_succ]
          refine wpAnyH_listed #[true, true, true, true, true, true, true, true, true, true, true, true, true, true, true, true, true, true, true, true, true, true, true, true, true, false, false, false] (by kernel_rfl) ?_
          refine wpAnyH_ready (rs := [25]) (by kernel_rfl) (by simp) ?_
          refine AllReadyH.cons (o := ⟨some 129, Op.call { callee := Callee.value (Operand.func 41), args := #[Operand.tmp 124, Operand.tmp 126, Operand.tmp 128], argTypes := #[34, 34, 34] }, 3, _, _, some (13, false)⟩) rfl (fun K hK => ?_) AllReadyH.nil
          go_simp
          go_at_call 41
          refine (Has.call X3 (rspotSide_is y0 y1 y2 e0 e1 e2 e3 e4 e5 s2 Hs2.out _)).mono ?_
          rintro e W4 ⟨rfl, X4⟩
          go_wp2_with fail
          clear hHeld
          refine hK.out _ _ (X4.m38) (fun hHeld => ?_)
          clear hK K
          try simp only [List.setIfInBounds_toArray, List.set_cons_zero, List.set_cons_succ]
          refine wpAnyH_listed #[true, true, true, true, true, true, true, true, true, true, true, true, true, true, true, true, true, true, true, true, true, true, true, true, true, true, false, false] (by kernel_rfl) ?_
          refine wpAnyT_begin [26, 27] (by kernel_rfl) (by kernel_rfl) ?_
          refine wpAnyT_take (oi := ⟨some 130, Op.binOp BinOp.neq 3 (Operand.tmp 123) (Operand.tmp 129) 3, 4, _, _, some (13, false)⟩) (v := .bool false) rfl (fun _ _ _ h => h) (by rfl) (by assumption) (fun wS hSw => ?_) ?_
          · (try dsimp only at hSw); go_simp
          simp only [Act.put, List.setIfInBounds_toArray, List.set_cons_zero, List.set_cons_succ]
          refine wpAnyT_take (oi := ⟨some 131, Op.pick (Operand.tmp 117) (Operand.const (Value.bool true)) (Operand.tmp 130), 4, _, _, none⟩) (v := .bool false) rfl (fun _ _ _ h => h) (by rfl) (by assumption) (fun wS hSw => ?_) ?_
          · (try dsimp only at hSw); go_simp
          simp only [Act.put, List.setIfInBounds_toArray, List.set_cons_zero, List.set_cons_succ]
          refine wpAnyT_end ?_
          refine wpAnyH_listed #[true, true, true, true, true, true, true, true, true, true, true, true, true, true, true, true, true, true, true, true, true, true, true, true, true, true, true, true] (by kernel_rfl) ?_
          refine wpAnyH_done (by kernel_rfl) ?_ _
          clear X0 X1 X2 X3 hHeld G0 G1
          go_wp2_with fail
          go_roundw
          case rel => exact ⟨j + 1, by omega, by go_num, X4.tail.swap⟩
          case measure => simp [intOf]; omega
        · obtain rfl : j = 3 := by omega
          go_wp2_with fail
          go_roundw
          case rel => exact ⟨k + 1, by omega, by go_num, G0.tail.tail⟩
          case measure => simp [intOf]; omega
    · obtain rfl : k = 5 := by omega
      go_wp2_with fail
      go_ret
      exact ⟨rfl, G0.low⟩

end Go.Proofs.Ytoehojopoajcaaa
