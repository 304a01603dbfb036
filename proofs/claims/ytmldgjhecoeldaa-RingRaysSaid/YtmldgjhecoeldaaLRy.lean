/- The law of RingRays. -/
import Derived.Test.YtmldgjhecoeldaaSn
import Derived.Test.YtmldgjhecoeldaaRRy
import Derived.Test.YtmldgjhecoeldaaRaS
namespace Go.Proofs.Ytmldgjhecoeldaa
open Go.RowKit Go.Lib

theorem tmod_i64 (x n : Int) (hn : 1 ≤ n ∧ n ≤ 1000000) : -9223372036854775808 ≤ x.tmod n ∧ x.tmod n ≤ 9223372036854775807 := by
  have h1 := Int.tmod_lt_of_pos x (show 0 < n by omega)
  have h2 := Int.lt_tmod_of_pos x (show 0 < n by omega)
  omega
theorem and7 (n : Int) : bits .and .i64 n 7 = n % 8 := by
  have h3 : (BitVec.ofInt 64 7).toNat = 2 ^ 3 - 1 := by decide
  have key : (BitVec.ofInt 64 n &&& BitVec.ofInt 64 7).toNat = (n % ((2 ^ 64 : Nat) : Int)).toNat % 2 ^ 3 := by
    rw [BitVec.toNat_and, BitVec.toNat_ofInt, h3, Nat.and_two_pow_sub_one_eq_mod]
  show IntKind.i64.wrap ((BitVec.ofInt 64 n &&& BitVec.ofInt 64 7).toNat : Nat) = n % 8
  rw [key, IntKind.wrap_i64]
  omega
set_option linter.unusedSimpArgs false in
set_option linter.unusedVariables false in
set_option maxRecDepth 100000 in
set_option maxHeartbeats 16000000 in
theorem rays_any (p0 p1 p2 p3 p4 p5 s0 s1 s2 s3 s4 s5 : Int) (w : World) (hp0 : (-9223372036854775808 ≤ p0 ∧ p0 ≤ 9223372036854775807)) (hp1 : (-9223372036854775808 ≤ p1 ∧ p1 ≤ 9223372036854775807)) (hp2 : (-9223372036854775808 ≤ p2 ∧ p2 ≤ 9223372036854775807)) (hp3 : (-9223372036854775808 ≤ p3 ∧ p3 ≤ 9223372036854775807)) (hp4 : (-9223372036854775808 ≤ p4 ∧ p4 ≤ 9223372036854775807)) (hp5 : (-9223372036854775808 ≤ p5 ∧ p5 ≤ 9223372036854775807)) (hs0 : (-9223372036854775808 ≤ s0 ∧ s0 ≤ 9223372036854775807)) (hs1 : (-9223372036854775808 ≤ s1 ∧ s1 ≤ 9223372036854775807)) (hs2 : (-9223372036854775808 ≤ s2 ∧ s2 ≤ 9223372036854775807)) (hs3 : (-9223372036854775808 ≤ s3 ∧ s3 ≤ 9223372036854775807)) (hs4 : (-9223372036854775808 ≤ s4 ∧ s4 ≤ 9223372036854775807)) (hs5 : (-9223372036854775808 ≤ s5 ∧ s5 ≤ 9223372036854775807)) :
    Calls Try.prog 5 #[.agg #[.int .i64 p0, .int .i64 p1, .int .i64 p2, .int .i64 p3, .int .i64 p4, .int .i64 p5], .agg #[.int .i64 s0, .int .i64 s1, .int .i64 s2, .int .i64 s3, .int .i64 s4, .int .i64 s5]] w fun e w' => e = .returned (.bool true) ∧ Below w.heap.size w w' := by
  have D0 := has2 (w := w) [.int .i64 p0, .int .i64 p1, .int .i64 p2, .int .i64 p3, .int .i64 p4, .int .i64 p5] [.int .i64 s0, .int .i64 s1, .int .i64 s2, .int .i64 s3, .int .i64 s4, .int .i64 s5] 37 40
  change Has w _ ((w.alloc (.cells #[.int .i64 p0, .int .i64 p1, .int .i64 p2, .int .i64 p3, .int .i64 p4, .int .i64 p5] 37)).alloc (.cells #[.int .i64 s0, .int .i64 s1, .int .i64 s2, .int .i64 s3, .int .i64 s4, .int .i64 s5] 40)) at D0
  go_enter Try.func5, Try.ntmps5
  go_wp2_with fail
  generalize (w.alloc (.cells #[.int .i64 p0, .int .i64 p1, .int .i64 p2, .int .i64 p3, .int .i64 p4, .int .i64 p5] 37)).alloc (.cells #[.int .i64 s0, .int .i64 s1, .int .i64 s2, .int .i64 s3, .int .i64 s4, .int .i64 s5] 40) = w0 at *
  obtain ⟨A, hA⟩ : ∃ A, w.heap.size = A := ⟨_, rfl⟩
  obtain ⟨B, hB⟩ : ∃ B, w.heap.size + 1 = B := ⟨_, rfl⟩
  have D0' : Has w [(B, [.int .i64 s0, .int .i64 s1, .int .i64 s2, .int .i64 s3, .int .i64 s4, .int .i64 s5]), (A, [.int .i64 p0, .int .i64 p1, .int .i64 p2, .int .i64 p3, .int .i64 p4, .int .i64 p5])] w0 := by rw [← hA, ← hB]; exact D0.swap
  clear D0
  simp only [hB, hA]
  refine (Has.call D0' (sane_any w0)).mono ?_
  rintro e w1 ⟨rfl, C0⟩
  clear D0' 
  go_upto_region 2 with fail
  have X0 := C0.drew
  have ms1 := Lib.hid (show ∀ w', Has w [(B, [.int .i64 s0, .int .i64 s1, .int .i64 s2, .int .i64 s3, .int .i64 s4, .int .i64 s5]), (A, [.int .i64 p0, .int .i64 p1, .int .i64 p2, .int .i64 p3, .int .i64 p4, .int .i64 p5])] w' → (w'.cell? ⟨A, 0, none⟩ = some (.int .i64 p0) ∧ w'.cell? ⟨A, 1, none⟩ = some (.int .i64 p1) ∧ w'.cell? ⟨A, 2, none⟩ = some (.int .i64 p2) ∧ w'.cell? ⟨A, 3, none⟩ = some (.int .i64 p3) ∧ w'.cell? ⟨A, 4, none⟩ = some (.int .i64 p4) ∧ w'.cell? ⟨A, 5, none⟩ = some (.int .i64 p5)) ∧ Has w [(B, [.int .i64 s0, .int .i64 s1, .int .i64 s2, .int .i64 s3, .int .i64 s4, .int .i64 s5]), (A, [.int .i64 p0, .int .i64 p1, .int .i64 p2, .int .i64 p3, .int .i64 p4, .int .i64 p5])] w' from fun w' h => ⟨⟨h.tail.fact (.head _) (i := 0) rfl, h.tail.fact (.head _) (i := 1) rfl, h.tail.fact (.head _) (i := 2) rfl, h.tail.fact (.head _) (i := 3) rfl, h.tail.fact (.head _) (i := 4) rfl, h.tail.fact (.head _) (i := 5) rfl⟩, h⟩)
  refine wp_region_held_drew (S := (fun w' => (w'.cell? ⟨A, 0, none⟩ = some (.int .i64 p0) ∧ w'.cell? ⟨A, 1, none⟩ = some (.int .i64 p1) ∧ w'.cell? ⟨A, 2, none⟩ = some (.int .i64 p2) ∧ w'.cell? ⟨A, 3, none⟩ = some (.int .i64 p3) ∧ w'.cell? ⟨A, 4, none⟩ = some (.int .i64 p4) ∧ w'.cell? ⟨A, 5, none⟩ = some (.int .i64 p5)) ∧ Has w [(B, [.int .i64 s0, .int .i64 s1, .int .i64 s2, .int .i64 s3, .int .i64 s4, .int .i64 s5]), (A, [.int .i64 p0, .int .i64 p1, .int .i64 p2, .int .i64 p3, .int .i64 p4, .int .i64 p5])] w')) (by kernel_rfl) (ms1.out _ X0) (fun hHeld => ?_)
  refine wpAnyT_begin [0, 1, 2, 3, 4, 5] (by kernel_rfl) (by kernel_rfl) ?_
  refine wpAnyT_take (oi := ⟨some 16, Op.indexAddr 37 (Operand.tmp 2) (Operand.const (Value.int IntKind.i64 0)), 0, _, _, none⟩) (v := .pointer (some ⟨A, 0, none⟩)) rfl (fun _ _ _ h => h) (by rfl) (by assumption) (fun wS hSw => ?_) ?_
  · (try dsimp only at hSw); go_simp
  simp only [Act.put, List.setIfInBounds_toArray, List.set_cons_zero, List.set_cons_succ]
  refine wpAnyT_take (oi := ⟨some 17, Op.load 24 (Operand.tmp 16), 24, _, _, none⟩) (v := .agg #[.int .i64 p0, .int .i64 p1]) rfl (fun _ _ _ h => h) (by rfl) (by assumption) (fun wS hSw => ?_) ?_
  · (try dsimp only at hSw); go_simp
  simp only [Act.put, List.setIfInBounds_toArray, List.set_cons_zero, List.set_cons_succ]
  refine wpAnyT_take (oi := ⟨some 18, Op.indexAddr 37 (Operand.tmp 2) (Operand.const (Value.int IntKind.i64 1)), 0, _, _, none⟩) (v := .pointer (some ⟨A, 2, none⟩)) rfl (fun _ _ _ h => h) (by rfl) (by assumption) (fun wS hSw => ?_) ?_
  · (try dsimp only at hSw); go_simp
  simp only [Act.put, List.setIfInBounds_toArray, List.set_cons_zero, List.set_cons_succ]
  refine wpAnyT_take (oi := ⟨some 19, Op.load 24 (Operand.tmp 18), 24, _, _, none⟩) (v := .agg #[.int .i64 p2, .int .i64 p3]) rfl (fun _ _ _ h => h) (by rfl) (by assumption) (fun wS hSw => ?_) ?_
  · (try dsimp only at hSw); go_simp
  simp only [Act.put, List.setIfInBounds_toArray, List.set_cons_zero, List.set_cons_succ]
  refine wpAnyT_take (oi := ⟨some 20, Op.indexAddr 37 (Operand.tmp 2) (Operand.const (Value.int IntKind.i64 2)), 0, _, _, none⟩) (v := .pointer (some ⟨A, 4, none⟩)) rfl (fun _ _ _ h => h) (by rfl) (by assumption) (fun wS hSw => ?_) ?_
  · (try dsimp only at hSw); go_simp
  simp only [Act.put, List.setIfInBounds_toArray, List.set_cons_zero, List.set_cons_succ]
  refine wpAnyT_take (oi := ⟨some 21, Op.load 24 (Operand.tmp 20), 24, _, _, none⟩) (v := .agg #[.int .i64 p4, .int .i64 p5]) rfl (fun _ _ _ h => h) (by rfl) (by assumption) (fun wS hSw => ?_) ?_
  · (try dsimp only at hSw); go_simp
  simp only [Act.put, List.setIfInBounds_toArray, List.set_cons_zero, List.set_cons_succ]
  refine wpAnyT_end ?_
  refine wpAnyH_listed #[true, true, true, true, true, true, false, false, false, false, false, false] (by kernel_rfl) ?_
  refine any_ind (X := Sta) (n := fun sx => (0 - sx.n) + (if sx.a.isSome then 0 else 1) + (if sx.b.isSome then 0 else 1) + (if sx.c.isSome then 0 else 1)) (l := fun sx => #[true, true, true, true, true, true, sx.a.isSome, sx.b.isSome, sx.c.isSome, false, false, false]) (u := fun sx t => (putp 6 sx.a (putp 7 sx.b (putp 8 sx.c t)))) (I := fun sx w' => sx.n ≤ 0 ∧ Has w (bl [.int .i64 0, .int .i64 0] sx.a (bl [.int .i64 0, .int .i64 0] sx.b (bl [.int .i64 0, .int .i64 0] sx.c [(B, [.int .i64 s0, .int .i64 s1, .int .i64 s2, .int .i64 s3, .int .i64 s4, .int .i64 s5]), (A, [.int .i64 p0, .int .i64 p1, .int .i64 p2, .int .i64 p3, .int .i64 p4, .int .i64 p5])]))) w') (m := 3) ⟨none, none, none, 0⟩ (by kernel_rfl) (by kernel_rfl) (by kernel_rfl) ⟨Nat.zero_le _, X0⟩ ?_ ?_
  · rintro k ih ⟨pa, pb, pc, c⟩ w2 hk ⟨hc, hH⟩
    clear hHeld
    obtain rfl : c = 0 := by simp only at hc; omega
    · cases pa with
      | none =>
        cases pb with
        | none =>
          cases pc with
          | none =>
            simp only [Option.isSome, Bool.false_eq_true, if_false, if_true] at hk
            simp only [putc, putp, Act.put, decide_eq_true_eq, decide_true, decide_false, Nat.le_refl, Nat.reduceLeDiff, List.setIfInBounds_toArray, List.set_cons_zero, List.set_cons_succ]
            refine wpAnyH_listed #[true, true, true, true, true, true, false, false, false, false, false, false] (by kernel_rfl) ?_
            refine wpAnyH_ready (rs := [6, 7, 8]) (by kernel_rfl) (by simp) ?_
            refine AllReadyH.cons (o := ⟨some 6, Op.alloc 24, 0, _, _, none⟩) rfl (fun K hK => ?_) (?_)
            · go_simp
              have hC := (hH.push [.int .i64 0, .int .i64 0] 24)
              change Has w _ (w2.alloc (.cells #[.int .i64 0, .int .i64 0] 24)) at hC
              generalize w2.alloc (.cells #[.int .i64 0, .int .i64 0] 24) = W at *
              generalize w2.heap.size = E at *
              have hC' : Has w ([(E, [.int .i64 0, .int .i64 0])] ++ [(B, [.int .i64 s0, .int .i64 s1, .int .i64 s2, .int .i64 s3, .int .i64 s4, .int .i64 s5]), (A, [.int .i64 p0, .int .i64 p1, .int .i64 p2, .int .i64 p3, .int .i64 p4, .int .i64 p5])]) W := hC
              refine hK.out _ _ (ms1.out _ (hC.tail)) (fun _ => ?_)
              exact wpAnyH_cast rfl (by kernel_rfl) (by kernel_rfl) (ih ⟨some E, none, none, 0⟩ _ (by simp only [Option.isSome, Bool.false_eq_true, if_false, if_true]; omega) ⟨by simp, hC⟩)
            refine AllReadyH.cons (o := ⟨some 7, Op.alloc 24, 0, _, _, none⟩) rfl (fun K hK => ?_) (?_)
            · go_simp
              have hC := (hH.push [.int .i64 0, .int .i64 0] 24)
              change Has w _ (w2.alloc (.cells #[.int .i64 0, .int .i64 0] 24)) at hC
              generalize w2.alloc (.cells #[.int .i64 0, .int .i64 0] 24) = W at *
              generalize w2.heap.size = F at *
              have hC' : Has w ([(F, [.int .i64 0, .int .i64 0])] ++ [(B, [.int .i64 s0, .int .i64 s1, .int .i64 s2, .int .i64 s3, .int .i64 s4, .int .i64 s5]), (A, [.int .i64 p0, .int .i64 p1, .int .i64 p2, .int .i64 p3, .int .i64 p4, .int .i64 p5])]) W := hC
              refine hK.out _ _ (ms1.out _ (hC.tail)) (fun _ => ?_)
              exact wpAnyH_cast rfl (by kernel_rfl) (by kernel_rfl) (ih ⟨none, some F, none, 0⟩ _ (by simp only [Option.isSome, Bool.false_eq_true, if_false, if_true]; omega) ⟨by simp, hC⟩)
            refine AllReadyH.cons (o := ⟨some 8, Op.alloc 24, 0, _, _, none⟩) rfl (fun K hK => ?_) (AllReadyH.nil)
            · go_simp
              have hC := (hH.push [.int .i64 0, .int .i64 0] 24)
              change Has w _ (w2.alloc (.cells #[.int .i64 0, .int .i64 0] 24)) at hC
              generalize w2.alloc (.cells #[.int .i64 0, .int .i64 0] 24) = W at *
              generalize w2.heap.size = G at *
              have hC' : Has w ([(G, [.int .i64 0, .int .i64 0])] ++ [(B, [.int .i64 s0, .int .i64 s1, .int .i64 s2, .int .i64 s3, .int .i64 s4, .int .i64 s5]), (A, [.int .i64 p0, .int .i64 p1, .int .i64 p2, .int .i64 p3, .int .i64 p4, .int .i64 p5])]) W := hC
              refine hK.out _ _ (ms1.out _ (hC.tail)) (fun _ => ?_)
              exact wpAnyH_cast rfl (by kernel_rfl) (by kernel_rfl) (ih ⟨none, none, some G, 0⟩ _ (by simp only [Option.isSome, Bool.false_eq_true, if_false, if_true]; omega) ⟨by simp, hC⟩)
          | some G =>
            simp only [Option.isSome, Bool.false_eq_true, if_false, if_true] at hk
            simp only [putc, putp, Act.put, decide_eq_true_eq, decide_true, decide_false, Nat.le_refl, Nat.reduceLeDiff, List.setIfInBounds_toArray, List.set_cons_zero, List.set_cons_succ]
            refine wpAnyH_listed #[true, true, true, true, true, true, false, false, true, false, false, false] (by kernel_rfl) ?_
            refine wpAnyH_ready (rs := [6, 7]) (by kernel_rfl) (by simp) ?_
            refine AllReadyH.cons (o := ⟨some 6, Op.alloc 24, 0, _, _, none⟩) rfl (fun K hK => ?_) (?_)
            · go_simp
              have hC := (hH.push [.int .i64 0, .int .i64 0] 24)
              change Has w _ (w2.alloc (.cells #[.int .i64 0, .int .i64 0] 24)) at hC
              generalize w2.alloc (.cells #[.int .i64 0, .int .i64 0] 24) = W at *
              generalize w2.heap.size = E at *
              have hC' : Has w ([(E, [.int .i64 0, .int .i64 0]), (G, [.int .i64 0, .int .i64 0])] ++ [(B, [.int .i64 s0, .int .i64 s1, .int .i64 s2, .int .i64 s3, .int .i64 s4, .int .i64 s5]), (A, [.int .i64 p0, .int .i64 p1, .int .i64 p2, .int .i64 p3, .int .i64 p4, .int .i64 p5])]) W := hC
              refine hK.out _ _ (ms1.out _ (hC.tail.tail)) (fun _ => ?_)
              exact wpAnyH_cast rfl (by kernel_rfl) (by kernel_rfl) (ih ⟨some E, none, some G, 0⟩ _ (by simp only [Option.isSome, Bool.false_eq_true, if_false, if_true]; omega) ⟨by simp, hC⟩)
            refine AllReadyH.cons (o := ⟨some 7, Op.alloc 24, 0, _, _, none⟩) rfl (fun K hK => ?_) (AllReadyH.nil)
            · go_simp
              have hC := (hH.push [.int .i64 0, .int .i64 0] 24)
              change Has w _ (w2.alloc (.cells #[.int .i64 0, .int .i64 0] 24)) at hC
              generalize w2.alloc (.cells #[.int .i64 0, .int .i64 0] 24) = W at *
              generalize w2.heap.size = F at *
              have hC' : Has w ([(F, [.int .i64 0, .int .i64 0]), (G, [.int .i64 0, .int .i64 0])] ++ [(B, [.int .i64 s0, .int .i64 s1, .int .i64 s2, .int .i64 s3, .int .i64 s4, .int .i64 s5]), (A, [.int .i64 p0, .int .i64 p1, .int .i64 p2, .int .i64 p3, .int .i64 p4, .int .i64 p5])]) W := hC
              refine hK.out _ _ (ms1.out _ (hC.tail.tail)) (fun _ => ?_)
              exact wpAnyH_cast rfl (by kernel_rfl) (by kernel_rfl) (ih ⟨none, some F, some G, 0⟩ _ (by simp only [Option.isSome, Bool.false_eq_true, if_false, if_true]; omega) ⟨by simp, hC⟩)
        | some F =>
          cases pc with
          | none =>
            simp only [Option.isSome, Bool.false_eq_true, if_false, if_true] at hk
            simp only [putc, putp, Act.put, decide_eq_true_eq, decide_true, decide_false, Nat.le_refl, Nat.reduceLeDiff, List.setIfInBounds_toArray, List.set_cons_zero, List.set_cons_succ]
            refine wpAnyH_listed #[true, true, true, true, true, true, false, true, false, false, false, false] (by kernel_rfl) ?_
            refine wpAnyH_ready (rs := [6, 8]) (by kernel_rfl) (by simp) ?_
            refine AllReadyH.cons (o := ⟨some 6, Op.alloc 24, 0, _, _, none⟩) rfl (fun K hK => ?_) (?_)
            · go_simp
              have hC := (hH.push [.int .i64 0, .int .i64 0] 24)
              change Has w _ (w2.alloc (.cells #[.int .i64 0, .int .i64 0] 24)) at hC
              generalize w2.alloc (.cells #[.int .i64 0, .int .i64 0] 24) = W at *
              generalize w2.heap.size = E at *
              have hC' : Has w ([(E, [.int .i64 0, .int .i64 0]), (F, [.int .i64 0, .int .i64 0])] ++ [(B, [.int .i64 s0, .int .i64 s1, .int .i64 s2, .int .i64 s3, .int .i64 s4, .int .i64 s5]), (A, [.int .i64 p0, .int .i64 p1, .int .i64 p2, .int .i64 p3, .int .i64 p4, .int .i64 p5])]) W := hC
              refine hK.out _ _ (ms1.out _ (hC.tail.tail)) (fun _ => ?_)
              exact wpAnyH_cast rfl (by kernel_rfl) (by kernel_rfl) (ih ⟨some E, some F, none, 0⟩ _ (by simp only [Option.isSome, Bool.false_eq_true, if_false, if_true]; omega) ⟨by simp, hC⟩)
            refine AllReadyH.cons (o := ⟨some 8, Op.alloc 24, 0, _, _, none⟩) rfl (fun K hK => ?_) (AllReadyH.nil)
            · go_simp
              have hC := (hH.push [.int .i64 0, .int .i64 0] 24).swap
              change Has w _ (w2.alloc (.cells #[.int .i64 0, .int .i64 0] 24)) at hC
              generalize w2.alloc (.cells #[.int .i64 0, .int .i64 0] 24) = W at *
              generalize w2.heap.size = G at *
              have hC' : Has w ([(F, [.int .i64 0, .int .i64 0]), (G, [.int .i64 0, .int .i64 0])] ++ [(B, [.int .i64 s0, .int .i64 s1, .int .i64 s2, .int .i64 s3, .int .i64 s4, .int .i64 s5]), (A, [.int .i64 p0, .int .i64 p1, .int .i64 p2, .int .i64 p3, .int .i64 p4, .int .i64 p5])]) W := hC
              refine hK.out _ _ (ms1.out _ (hC.tail.tail)) (fun _ => ?_)
              exact wpAnyH_cast rfl (by kernel_rfl) (by kernel_rfl) (ih ⟨none, some F, some G, 0⟩ _ (by simp only [Option.isSome, Bool.false_eq_true, if_false, if_true]; omega) ⟨by simp, hC⟩)
          | some G =>
            simp only [Option.isSome, Bool.false_eq_true, if_false, if_true] at hk
            simp only [putc, putp, Act.put, decide_eq_true_eq, decide_true, decide_false, Nat.le_refl, Nat.reduceLeDiff, List.setIfInBounds_toArray, List.set_cons_zero, List.set_cons_succ]
            refine wpAnyH_listed #[true, true, true, true, true, true, false, true, true, false, false, false] (by kernel_rfl) ?_
            refine wpAnyH_ready (rs := [6]) (by kernel_rfl) (by simp) ?_
            refine AllReadyH.cons (o := ⟨some 6, Op.alloc 24, 0, _, _, none⟩) rfl (fun K hK => ?_) (AllReadyH.nil)
            · go_simp
              have hC := (hH.push [.int .i64 0, .int .i64 0] 24)
              change Has w _ (w2.alloc (.cells #[.int .i64 0, .int .i64 0] 24)) at hC
              generalize w2.alloc (.cells #[.int .i64 0, .int .i64 0] 24) = W at *
              generalize w2.heap.size = E at *
              have hC' : Has w ([(E, [.int .i64 0, .int .i64 0]), (F, [.int .i64 0, .int .i64 0]), (G, [.int .i64 0, .int .i64 0])] ++ [(B, [.int .i64 s0, .int .i64 s1, .int .i64 s2, .int .i64 s3, .int .i64 s4, .int .i64 s5]), (A, [.int .i64 p0, .int .i64 p1, .int .i64 p2, .int .i64 p3, .int .i64 p4, .int .i64 p5])]) W := hC
              refine hK.out _ _ (ms1.out _ (hC.tail.tail.tail)) (fun _ => ?_)
              exact wpAnyH_cast rfl (by kernel_rfl) (by kernel_rfl) (ih ⟨some E, some F, some G, 0⟩ _ (by simp only [Option.isSome, Bool.false_eq_true, if_false, if_true]; omega) ⟨by simp, hC⟩)
      | some E =>
        cases pb with
        | none =>
          cases pc with
          | none =>
            simp only [Option.isSome, Bool.false_eq_true, if_false, if_true] at hk
            simp only [putc, putp, Act.put, decide_eq_true_eq, decide_true, decide_false, Nat.le_refl, Nat.reduceLeDiff, List.setIfInBounds_toArray, List.set_cons_zero, List.set_cons_succ]
            refine wpAnyH_listed #[true, true, true, true, true, true, true, false, false, false, false, false] (by kernel_rfl) ?_
            refine wpAnyH_ready (rs := [7, 8]) (by kernel_rfl) (by simp) ?_
            refine AllReadyH.cons (o := ⟨some 7, Op.alloc 24, 0, _, _, none⟩) rfl (fun K hK => ?_) (?_)
            · go_simp
              have hC := (hH.push [.int .i64 0, .int .i64 0] 24).swap
              change Has w _ (w2.alloc (.cells #[.int .i64 0, .int .i64 0] 24)) at hC
              generalize w2.alloc (.cells #[.int .i64 0, .int .i64 0] 24) = W at *
              generalize w2.heap.size = F at *
              have hC' : Has w ([(E, [.int .i64 0, .int .i64 0]), (F, [.int .i64 0, .int .i64 0])] ++ [(B, [.int .i64 s0, .int .i64 s1, .int .i64 s2, .int .i64 s3, .int .i64 s4, .int .i64 s5]), (A, [.int .i64 p0, .int .i64 p1, .int .i64 p2, .int .i64 p3, .int .i64 p4, .int .i64 p5])]) W := hC
              refine hK.out _ _ (ms1.out _ (hC.tail.tail)) (fun _ => ?_)
              exact wpAnyH_cast rfl (by kernel_rfl) (by kernel_rfl) (ih ⟨some E, some F, none, 0⟩ _ (by simp only [Option.isSome, Bool.false_eq_true, if_false, if_true]; omega) ⟨by simp, hC⟩)
            refine AllReadyH.cons (o := ⟨some 8, Op.alloc 24, 0, _, _, none⟩) rfl (fun K hK => ?_) (AllReadyH.nil)
            · go_simp
              have hC := (hH.push [.int .i64 0, .int .i64 0] 24).swap
              change Has w _ (w2.alloc (.cells #[.int .i64 0, .int .i64 0] 24)) at hC
              generalize w2.alloc (.cells #[.int .i64 0, .int .i64 0] 24) = W at *
              generalize w2.heap.size = G at *
              have hC' : Has w ([(E, [.int .i64 0, .int .i64 0]), (G, [.int .i64 0, .int .i64 0])] ++ [(B, [.int .i64 s0, .int .i64 s1, .int .i64 s2, .int .i64 s3, .int .i64 s4, .int .i64 s5]), (A, [.int .i64 p0, .int .i64 p1, .int .i64 p2, .int .i64 p3, .int .i64 p4, .int .i64 p5])]) W := hC
              refine hK.out _ _ (ms1.out _ (hC.tail.tail)) (fun _ => ?_)
              exact wpAnyH_cast rfl (by kernel_rfl) (by kernel_rfl) (ih ⟨some E, none, some G, 0⟩ _ (by simp only [Option.isSome, Bool.false_eq_true, if_false, if_true]; omega) ⟨by simp, hC⟩)
          | some G =>
            simp only [Option.isSome, Bool.false_eq_true, if_false, if_true] at hk
            simp only [putc, putp, Act.put, decide_eq_true_eq, decide_true, decide_false, Nat.le_refl, Nat.reduceLeDiff, List.setIfInBounds_toArray, List.set_cons_zero, List.set_cons_succ]
            refine wpAnyH_listed #[true, true, true, true, true, true, true, false, true, false, false, false] (by kernel_rfl) ?_
            refine wpAnyH_ready (rs := [7]) (by kernel_rfl) (by simp) ?_
            refine AllReadyH.cons (o := ⟨some 7, Op.alloc 24, 0, _, _, none⟩) rfl (fun K hK => ?_) (AllReadyH.nil)
            · go_simp
              have hC := (hH.push [.int .i64 0, .int .i64 0] 24).swap
              change Has w _ (w2.alloc (.cells #[.int .i64 0, .int .i64 0] 24)) at hC
              generalize w2.alloc (.cells #[.int .i64 0, .int .i64 0] 24) = W at *
              generalize w2.heap.size = F at *
              have hC' : Has w ([(E, [.int .i64 0, .int .i64 0]), (F, [.int .i64 0, .int .i64 0]), (G, [.int .i64 0, .int .i64 0])] ++ [(B, [.int .i64 s0, .int .i64 s1, .int .i64 s2, .int .i64 s3, .int .i64 s4, .int .i64 s5]), (A, [.int .i64 p0, .int .i64 p1, .int .i64 p2, .int .i64 p3, .int .i64 p4, .int .i64 p5])]) W := hC
              refine hK.out _ _ (ms1.out _ (hC.tail.tail.tail)) (fun _ => ?_)
              exact wpAnyH_cast rfl (by kernel_rfl) (by kernel_rfl) (ih ⟨some E, some F, some G, 0⟩ _ (by simp only [Option.isSome, Bool.false_eq_true, if_false, if_true]; omega) ⟨by simp, hC⟩)
        | some F =>
          cases pc with
          | none =>
            simp only [Option.isSome, Bool.false_eq_true, if_false, if_true] at hk
            simp only [putc, putp, Act.put, decide_eq_true_eq, decide_true, decide_false, Nat.le_refl, Nat.reduceLeDiff, List.setIfInBounds_toArray, List.set_cons_zero, List.set_cons_succ]
            refine wpAnyH_listed #[true, true, true, true, true, true, true, true, false, false, false, false] (by kernel_rfl) ?_
            refine wpAnyH_ready (rs := [8]) (by kernel_rfl) (by simp) ?_
            refine AllReadyH.cons (o := ⟨some 8, Op.alloc 24, 0, _, _, none⟩) rfl (fun K hK => ?_) (AllReadyH.nil)
            · go_simp
              have hC := (hH.push [.int .i64 0, .int .i64 0] 24).third.third
              change Has w _ (w2.alloc (.cells #[.int .i64 0, .int .i64 0] 24)) at hC
              generalize w2.alloc (.cells #[.int .i64 0, .int .i64 0] 24) = W at *
              generalize w2.heap.size = G at *
              have hC' : Has w ([(E, [.int .i64 0, .int .i64 0]), (F, [.int .i64 0, .int .i64 0]), (G, [.int .i64 0, .int .i64 0])] ++ [(B, [.int .i64 s0, .int .i64 s1, .int .i64 s2, .int .i64 s3, .int .i64 s4, .int .i64 s5]), (A, [.int .i64 p0, .int .i64 p1, .int .i64 p2, .int .i64 p3, .int .i64 p4, .int .i64 p5])]) W := hC
              refine hK.out _ _ (ms1.out _ (hC.tail.tail.tail)) (fun _ => ?_)
              exact wpAnyH_cast rfl (by kernel_rfl) (by kernel_rfl) (ih ⟨some E, some F, some G, 0⟩ _ (by simp only [Option.isSome, Bool.false_eq_true, if_false, if_true]; omega) ⟨by simp, hC⟩)
          | some G =>
            exact absurd hk (by simp)
  rintro ⟨pa, pb, pc, c⟩ w2 hk ⟨hc, hH⟩
  obtain ⟨E, F, G, rfl, rfl, rfl, rfl⟩ : ∃ E F G, pa = some E ∧ pb = some F ∧ pc = some G ∧ c = 0 := by
    cases pa <;> cases pb <;> cases pc <;> simp only [Option.isSome, Bool.false_eq_true, if_false, if_true] at hk <;> simp only at hc <;> first | exact ⟨_, _, _, rfl, rfl, rfl, by omega⟩ | omega
  simp only [putc, putp, Act.put, decide_eq_true_eq, decide_true, decide_false, Nat.le_refl, Nat.reduceLeDiff, List.setIfInBounds_toArray, List.set_cons_zero, List.set_cons_succ]
  have XA := hH
  change Has w [(E, [.int .i64 0, .int .i64 0]), (F, [.int .i64 0, .int .i64 0]), (G, [.int .i64 0, .int .i64 0]), (B, [.int .i64 s0, .int .i64 s1, .int .i64 s2, .int .i64 s3, .int .i64 s4, .int .i64 s5]), (A, [.int .i64 p0, .int .i64 p1, .int .i64 p2, .int .i64 p3, .int .i64 p4, .int .i64 p5])] w2 at XA
  clear hH hk hc
  refine wpAnyH_listed #[true, true, true, true, true, true, true, true, true, false, false, false] (by kernel_rfl) ?_
  refine wpAnyH_ready (rs := [9]) (by kernel_rfl) (by simp) ?_
  refine AllReadyH.cons (o := ⟨none, Op.store 24 (Operand.tmp 6) (Operand.tmp 17), 0, _, _, none⟩) rfl (fun K hK => ?_) AllReadyH.nil
  have k0 := XA.fact (.head _) (i := 0) rfl
  have k1 := XA.fact (.head _) (i := 1) rfl
  have f0 := XA.free (.head _) (i := 0) rfl
  have f1 := XA.free (.head _) (i := 1) rfl
  go_simp
  have XA0 : Has w [(E, [.int .i64 p0, .int .i64 p1]), (F, [.int .i64 0, .int .i64 0]), (G, [.int .i64 0, .int .i64 0]), (B, [.int .i64 s0, .int .i64 s1, .int .i64 s2, .int .i64 s3, .int .i64 s4, .int .i64 s5]), (A, [.int .i64 p0, .int .i64 p1, .int .i64 p2, .int .i64 p3, .int .i64 p4, .int .i64 p5])] (World.setCell (World.setCell w2 ⟨E, 0, none⟩ (.int .i64 p0)) ⟨E, 1, none⟩ (.int .i64 p1)) := (XA.set2 (.int .i64 p0) (.int .i64 p1))
  generalize (World.setCell (World.setCell w2 ⟨E, 0, none⟩ (.int .i64 p0)) ⟨E, 1, none⟩ (.int .i64 p1)) = wA0 at *
  clear k0 f0 k1 f1 XA
  clear hHeld
  refine hK.out _ _ (ms1.out _ XA0.tail.tail.tail) (fun hHeld => ?_)
  clear hK K
  try simp only [List.setIfInBounds_toArray, List.set_cons_zero, List.set_cons_succ]
  refine wpAnyH_listed #[true, true, true, true, true, true, true, true, true, true, false, false] (by kernel_rfl) ?_
  refine wpAnyH_ready (rs := [10]) (by kernel_rfl) (by simp) ?_
  refine AllReadyH.cons (o := ⟨none, Op.store 24 (Operand.tmp 7) (Operand.tmp 19), 0, _, _, none⟩) rfl (fun K hK => ?_) AllReadyH.nil
  have k0 := XA0.tail.fact (.head _) (i := 0) rfl
  have k1 := XA0.tail.fact (.head _) (i := 1) rfl
  have f0 := XA0.tail.free (.head _) (i := 0) rfl
  have f1 := XA0.tail.free (.head _) (i := 1) rfl
  go_simp
  have XA1 : Has w [(E, [.int .i64 p0, .int .i64 p1]), (F, [.int .i64 p2, .int .i64 p3]), (G, [.int .i64 0, .int .i64 0]), (B, [.int .i64 s0, .int .i64 s1, .int .i64 s2, .int .i64 s3, .int .i64 s4, .int .i64 s5]), (A, [.int .i64 p0, .int .i64 p1, .int .i64 p2, .int .i64 p3, .int .i64 p4, .int .i64 p5])] (World.setCell (World.setCell wA0 ⟨F, 0, none⟩ (.int .i64 p2)) ⟨F, 1, none⟩ (.int .i64 p3)) := (XA0.swap.set2 (.int .i64 p2) (.int .i64 p3)).swap
  generalize (World.setCell (World.setCell wA0 ⟨F, 0, none⟩ (.int .i64 p2)) ⟨F, 1, none⟩ (.int .i64 p3)) = wA1 at *
  clear k0 f0 k1 f1 XA0
  clear hHeld
  refine hK.out _ _ (ms1.out _ XA1.tail.tail.tail) (fun hHeld => ?_)
  clear hK K
  try simp only [List.setIfInBounds_toArray, List.set_cons_zero, List.set_cons_succ]
  refine wpAnyH_listed #[true, true, true, true, true, true, true, true, true, true, true, false] (by kernel_rfl) ?_
  refine wpAnyH_ready (rs := [11]) (by kernel_rfl) (by simp) ?_
  refine AllReadyH.cons (o := ⟨none, Op.store 24 (Operand.tmp 8) (Operand.tmp 21), 0, _, _, none⟩) rfl (fun K hK => ?_) AllReadyH.nil
  have k0 := XA1.tail.tail.fact (.head _) (i := 0) rfl
  have k1 := XA1.tail.tail.fact (.head _) (i := 1) rfl
  have f0 := XA1.tail.tail.free (.head _) (i := 0) rfl
  have f1 := XA1.tail.tail.free (.head _) (i := 1) rfl
  go_simp
  have C1 : Has w [(E, [.int .i64 p0, .int .i64 p1]), (F, [.int .i64 p2, .int .i64 p3]), (G, [.int .i64 p4, .int .i64 p5]), (B, [.int .i64 s0, .int .i64 s1, .int .i64 s2, .int .i64 s3, .int .i64 s4, .int .i64 s5]), (A, [.int .i64 p0, .int .i64 p1, .int .i64 p2, .int .i64 p3, .int .i64 p4, .int .i64 p5])] (World.setCell (World.setCell wA1 ⟨G, 0, none⟩ (.int .i64 p4)) ⟨G, 1, none⟩ (.int .i64 p5)) := (XA1.third.set2 (.int .i64 p4) (.int .i64 p5)).third.third
  generalize (World.setCell (World.setCell wA1 ⟨G, 0, none⟩ (.int .i64 p4)) ⟨G, 1, none⟩ (.int .i64 p5)) = w2 at *
  clear k0 f0 k1 f1 XA1
  clear hHeld
  refine hK.out _ _ (ms1.out _ C1.tail.tail.tail) (fun hHeld => ?_)
  clear hK K
  try simp only [List.setIfInBounds_toArray, List.set_cons_zero, List.set_cons_succ]
  refine wpAnyH_listed #[true, true, true, true, true, true, true, true, true, true, true, true] (by kernel_rfl) ?_
  refine wpAnyH_done (by kernel_rfl) ?_ _
  try clear hHeld
  clear X0 ms1 C0
  go_wp2_with fail
  have HS21 := Lib.hid (show ∀ w', Has w [(E, [.int .i64 p0, .int .i64 p1]), (F, [.int .i64 p2, .int .i64 p3]), (G, [.int .i64 p4, .int .i64 p5]), (B, [.int .i64 s0, .int .i64 s1, .int .i64 s2, .int .i64 s3, .int .i64 s4, .int .i64 s5]), (A, [.int .i64 p0, .int .i64 p1, .int .i64 p2, .int .i64 p3, .int .i64 p4, .int .i64 p5])] w' → (w'.cell? ⟨E, 0, none⟩ = some (.int .i64 p0) ∧ w'.cell? ⟨E, 1, none⟩ = some (.int .i64 p1) ∧ w'.cell? ⟨F, 0, none⟩ = some (.int .i64 p2) ∧ w'.cell? ⟨F, 1, none⟩ = some (.int .i64 p3) ∧ w'.cell? ⟨G, 0, none⟩ = some (.int .i64 p4) ∧ w'.cell? ⟨G, 1, none⟩ = some (.int .i64 p5) ∧ w'.cell? ⟨B, 0, none⟩ = some (.int .i64 s0) ∧ w'.cell? ⟨B, 1, none⟩ = some (.int .i64 s1) ∧ w'.cell? ⟨B, 2, none⟩ = some (.int .i64 s2) ∧ w'.cell? ⟨B, 3, none⟩ = some (.int .i64 s3) ∧ w'.cell? ⟨B, 4, none⟩ = some (.int .i64 s4) ∧ w'.cell? ⟨B, 5, none⟩ = some (.int .i64 s5) ∧ w'.cell? ⟨A, 0, none⟩ = some (.int .i64 p0) ∧ w'.cell? ⟨A, 1, none⟩ = some (.int .i64 p1) ∧ w'.cell? ⟨A, 2, none⟩ = some (.int .i64 p2) ∧ w'.cell? ⟨A, 3, none⟩ = some (.int .i64 p3) ∧ w'.cell? ⟨A, 4, none⟩ = some (.int .i64 p4) ∧ w'.cell? ⟨A, 5, none⟩ = some (.int .i64 p5)) ∧ Has w [(E, [.int .i64 p0, .int .i64 p1]), (F, [.int .i64 p2, .int .i64 p3]), (G, [.int .i64 p4, .int .i64 p5]), (B, [.int .i64 s0, .int .i64 s1, .int .i64 s2, .int .i64 s3, .int .i64 s4, .int .i64 s5]), (A, [.int .i64 p0, .int .i64 p1, .int .i64 p2, .int .i64 p3, .int .i64 p4, .int .i64 p5])] w' from fun w' h => ⟨⟨h.fact (.head _) (i := 0) rfl, h.fact (.head _) (i := 1) rfl, h.tail.fact (.head _) (i := 0) rfl, h.tail.fact (.head _) (i := 1) rfl, h.tail.tail.fact (.head _) (i := 0) rfl, h.tail.tail.fact (.head _) (i := 1) rfl, h.tail.tail.tail.fact (.head _) (i := 0) rfl, h.tail.tail.tail.fact (.head _) (i := 1) rfl, h.tail.tail.tail.fact (.head _) (i := 2) rfl, h.tail.tail.tail.fact (.head _) (i := 3) rfl, h.tail.tail.tail.fact (.head _) (i := 4) rfl, h.tail.tail.tail.fact (.head _) (i := 5) rfl, h.tail.tail.tail.tail.fact (.head _) (i := 0) rfl, h.tail.tail.tail.tail.fact (.head _) (i := 1) rfl, h.tail.tail.tail.tail.fact (.head _) (i := 2) rfl, h.tail.tail.tail.tail.fact (.head _) (i := 3) rfl, h.tail.tail.tail.tail.fact (.head _) (i := 4) rfl, h.tail.tail.tail.tail.fact (.head _) (i := 5) rfl⟩, h⟩)
  have C21d := C1.drew
  refine wp_region_held_drew (S := (fun w' => (w'.cell? ⟨E, 0, none⟩ = some (.int .i64 p0) ∧ w'.cell? ⟨E, 1, none⟩ = some (.int .i64 p1) ∧ w'.cell? ⟨F, 0, none⟩ = some (.int .i64 p2) ∧ w'.cell? ⟨F, 1, none⟩ = some (.int .i64 p3) ∧ w'.cell? ⟨G, 0, none⟩ = some (.int .i64 p4) ∧ w'.cell? ⟨G, 1, none⟩ = some (.int .i64 p5) ∧ w'.cell? ⟨B, 0, none⟩ = some (.int .i64 s0) ∧ w'.cell? ⟨B, 1, none⟩ = some (.int .i64 s1) ∧ w'.cell? ⟨B, 2, none⟩ = some (.int .i64 s2) ∧ w'.cell? ⟨B, 3, none⟩ = some (.int .i64 s3) ∧ w'.cell? ⟨B, 4, none⟩ = some (.int .i64 s4) ∧ w'.cell? ⟨B, 5, none⟩ = some (.int .i64 s5) ∧ w'.cell? ⟨A, 0, none⟩ = some (.int .i64 p0) ∧ w'.cell? ⟨A, 1, none⟩ = some (.int .i64 p1) ∧ w'.cell? ⟨A, 2, none⟩ = some (.int .i64 p2) ∧ w'.cell? ⟨A, 3, none⟩ = some (.int .i64 p3) ∧ w'.cell? ⟨A, 4, none⟩ = some (.int .i64 p4) ∧ w'.cell? ⟨A, 5, none⟩ = some (.int .i64 p5)) ∧ Has w [(E, [.int .i64 p0, .int .i64 p1]), (F, [.int .i64 p2, .int .i64 p3]), (G, [.int .i64 p4, .int .i64 p5]), (B, [.int .i64 s0, .int .i64 s1, .int .i64 s2, .int .i64 s3, .int .i64 s4, .int .i64 s5]), (A, [.int .i64 p0, .int .i64 p1, .int .i64 p2, .int .i64 p3, .int .i64 p4, .int .i64 p5])] w')) (by kernel_rfl) (HS21.out _ C21d) (fun hHeld => ?_)
  clear C1
  generalize w2.drew = w21d at *
  refine wpAnyT_begin [0, 1, 4, 10] (by kernel_rfl) (by kernel_rfl) ?_
  refine wpAnyT_take (oi := ⟨some 22, Op.load 24 (Operand.tmp 8), 24, _, _, none⟩) (v := .agg #[.int .i64 p4, .int .i64 p5]) rfl (fun _ _ _ h => h) (by rfl) (by assumption) (fun wS hSw => ?_) ?_
  · (try dsimp only at hSw); go_simp
  simp only [Act.put, List.setIfInBounds_toArray, List.set_cons_zero, List.set_cons_succ]
  refine wpAnyT_take (oi := ⟨some 23, Op.fieldAddr 24 (Operand.tmp 8) 0, 0, _, _, none⟩) (v := .pointer (some ⟨G, 0, none⟩)) rfl (fun _ _ _ h => h) (by rfl) (by assumption) (fun wS hSw => ?_) ?_
  · (try dsimp only at hSw); go_simp
  simp only [Act.put, List.setIfInBounds_toArray, List.set_cons_zero, List.set_cons_succ]
  refine wpAnyT_take (oi := ⟨some 26, Op.fieldAddr 24 (Operand.tmp 8) 1, 0, _, _, none⟩) (v := .pointer (some ⟨G, 1, none⟩)) rfl (fun _ _ _ h => h) (by rfl) (by assumption) (fun wS hSw => ?_) ?_
  · (try dsimp only at hSw); go_simp
  simp only [Act.put, List.setIfInBounds_toArray, List.set_cons_zero, List.set_cons_succ]
  refine wpAnyT_take (oi := ⟨some 32, Op.move (Operand.const (Value.int IntKind.i64 0)), 3, _, _, none⟩) (v := .int .i64 0) rfl (fun _ _ _ h => h) (by rfl) (by assumption) (fun wS hSw => ?_) ?_
  · (try dsimp only at hSw); go_simp
  simp only [Act.put, List.setIfInBounds_toArray, List.set_cons_zero, List.set_cons_succ]
  refine wpAnyT_end ?_
  refine wpAnyH_listed #[true, true, false, false, true, false, false, false, false, false, true] (by kernel_rfl) ?_
  refine wpAnyT_begin [2, 5] (by kernel_rfl) (by kernel_rfl) ?_
  refine wpAnyT_take (oi := ⟨some 24, Op.load 3 (Operand.tmp 23), 3, _, _, none⟩) (v := .int .i64 p4) rfl (fun _ _ _ h => h) (by rfl) (by assumption) (fun wS hSw => ?_) ?_
  · (try dsimp only at hSw); go_simp
  simp only [Act.put, List.setIfInBounds_toArray, List.set_cons_zero, List.set_cons_succ]
  refine wpAnyT_take (oi := ⟨some 27, Op.load 3 (Operand.tmp 26), 3, _, _, none⟩) (v := .int .i64 p5) rfl (fun _ _ _ h => h) (by rfl) (by assumption) (fun wS hSw => ?_) ?_
  · (try dsimp only at hSw); go_simp
  simp only [Act.put, List.setIfInBounds_toArray, List.set_cons_zero, List.set_cons_succ]
  refine wpAnyT_end ?_
  refine wpAnyH_listed #[true, true, true, false, true, true, false, false, false, false, true] (by kernel_rfl) ?_
  refine wpAnyT_begin [3, 6] (by kernel_rfl) (by kernel_rfl) ?_
  refine wpAnyT_take (oi := ⟨some 25, Op.binOp BinOp.rem 3 (Operand.tmp 24) (Operand.const (Value.int IntKind.i64 9)) 3, 3, _, _, none⟩) (v := .int .i64 (p4.tmod 9)) rfl (fun _ _ _ h => h) (by rfl) (by assumption) (fun wS hSw => ?_) ?_
  · (try dsimp only at hSw); go_simp
  simp only [Act.put, List.setIfInBounds_toArray, List.set_cons_zero, List.set_cons_succ]
  refine wpAnyT_take (oi := ⟨some 28, Op.binOp BinOp.rem 3 (Operand.tmp 27) (Operand.const (Value.int IntKind.i64 9)) 3, 3, _, _, none⟩) (v := .int .i64 (p5.tmod 9)) rfl (fun _ _ _ h => h) (by rfl) (by assumption) (fun wS hSw => ?_) ?_
  · (try dsimp only at hSw); go_simp
  simp only [Act.put, List.setIfInBounds_toArray, List.set_cons_zero, List.set_cons_succ]
  refine wpAnyT_end ?_
  refine wpAnyH_listed #[true, true, true, true, true, true, true, false, false, false, true] (by kernel_rfl) ?_
  refine wpAnyH_ready (rs := [7]) (by kernel_rfl) (by simp) ?_
  refine AllReadyH.cons (o := ⟨some 29, Op.call { callee := Callee.value (Operand.func 13), args := #[Operand.tmp 25, Operand.tmp 28], argTypes := #[3, 3] }, 24, _, _, none⟩) rfl (fun K hK => ?_) AllReadyH.nil
  go_simp
  go_at_call 13
  refine (calls_two C21d (at_any (p4.tmod 9) (p5.tmod 9) _)).mono ?_
  rintro e w22 ⟨rfl, C22, g22⟩
  go_wp2_with fail
  clear hHeld
  refine hK.out _ _ (HS21.out _ (C22)) (fun hHeld => ?_)
  clear hK K
  try simp only [List.setIfInBounds_toArray, List.set_cons_zero, List.set_cons_succ]
  refine wpAnyH_listed #[true, true, true, true, true, true, true, true, false, false, true] (by kernel_rfl) ?_
  clear C21d g22
  refine wpAnyH_ready (rs := [8]) (by kernel_rfl) (by simp) ?_
  refine AllReadyH.cons (o := ⟨some 30, Op.buildSlice 25 2 #[(0, Operand.tmp 22), (1, Operand.tmp 29)], 25, _, _, none⟩) rfl (fun K hK => ?_) AllReadyH.nil
  have C23 := C22.push [.int .i64 p4, .int .i64 p5, .int .i64 (p4.tmod 9), .int .i64 (p5.tmod 9)] 24
  have g23 : Grows w22 (w22.alloc (.cells #[.int .i64 p4, .int .i64 p5, .int .i64 (p4.tmod 9), .int .i64 (p5.tmod 9)] 24)) := (Below.refl _ w22).alloc (Nat.le_refl _) _
  go_simp
  change Has w _ (w22.alloc (.cells #[.int .i64 p4, .int .i64 p5, .int .i64 (p4.tmod 9), .int .i64 (p5.tmod 9)] 24)) at C23
  generalize w22.alloc (.cells #[.int .i64 p4, .int .i64 p5, .int .i64 (p4.tmod 9), .int .i64 (p5.tmod 9)] 24) = w23 at *
  generalize w22.heap.size = T23 at *
  clear hHeld
  refine hK.out _ _ (HS21.out _ (C23.tail)) (fun hHeld => ?_)
  clear hK K
  try simp only [List.setIfInBounds_toArray, List.set_cons_zero, List.set_cons_succ]
  refine wpAnyH_listed #[true, true, true, true, true, true, true, true, true, false, true] (by kernel_rfl) ?_
  clear C22 g23
  refine wpAnyT_begin [9] (by kernel_rfl) (by kernel_rfl) ?_
  refine wpAnyT_take (oi := ⟨some 31, Op.call { callee := Callee.builtin Builtin.len, args := #[Operand.tmp 30], argTypes := #[25] }, 3, _, _, none⟩) (v := .int .i64 2) rfl (fun _ _ _ h => h) (by rfl) (by assumption) (fun wS hSw => ?_) ?_
  · (try dsimp only at hSw); go_simp
  simp only [Act.put, List.setIfInBounds_toArray, List.set_cons_zero, List.set_cons_succ]
  refine wpAnyT_end ?_
  refine wpAnyH_listed #[true, true, true, true, true, true, true, true, true, true, true] (by kernel_rfl) ?_
  refine wpAnyH_done (by kernel_rfl) ?_ _
  clear hHeld
  clear HS21
  generalize hq0 : p4.tmod 9 = q0 at *
  generalize hq1 : p5.tmod 9 = q1 at *
  have bq0 : (-9223372036854775808 ≤ q0 ∧ q0 ≤ 9223372036854775807) := by rw [← hq0]; exact tmod_i64 p4 9 (by omega)
  have bq1 : (-9223372036854775808 ≤ q1 ∧ q1 ≤ 9223372036854775807) := by rw [← hq1]; exact tmod_i64 p5 9 (by omega)
  clear hq0 hq1
  go_wp2_with fail
  go_loopw [32] (fun i wr => ∃ k : Nat, k ≤ 2 ∧ i = .int .i64 k ∧ Has w [(T23, [.int .i64 p4, .int .i64 p5, .int .i64 q0, .int .i64 q1]), (E, [.int .i64 p0, .int .i64 p1]), (F, [.int .i64 p2, .int .i64 p3]), (G, [.int .i64 p4, .int .i64 p5]), (B, [.int .i64 s0, .int .i64 s1, .int .i64 s2, .int .i64 s3, .int .i64 s4, .int .i64 s5]), (A, [.int .i64 p0, .int .i64 p1, .int .i64 p2, .int .i64 p3, .int .i64 p4, .int .i64 p5])] wr) (fun i _ => 2 - (RowKit.intOf i).toNat)
  case atStart => exact ⟨0, by omega, rfl, C23⟩
  case round =>
    clear C23
    obtain ⟨k, hk, rfl, C0⟩ := hrel
    by_cases hlt : k < 2
    · have ks : IntKind.i64.wrap ((k : Int) + 1) = ((k + 1 : Nat) : Int) := by rw [IntWalk.i64_in _ (by omega)]; rfl
      have b2 : (k : Int) < 2 := by omega
      have b3 : (0 : Int) ≤ k := by omega
      obtain ⟨x, y, hx, hy, bx, by'⟩ : ∃ x y : Int, wr.cell? ⟨T23, k * 2, none⟩ = some (.int .i64 x) ∧ wr.cell? ⟨T23, k * 2 + 1, none⟩ = some (.int .i64 y) ∧ (-9223372036854775808 ≤ x ∧ x ≤ 9223372036854775807) ∧ (-9223372036854775808 ≤ y ∧ y ≤ 9223372036854775807) := by
        have h0 := C0.fact (.head _) (i := 0) rfl
        have h1 := C0.fact (.head _) (i := 1) rfl
        have h2 := C0.fact (.head _) (i := 2) rfl
        have h3 := C0.fact (.head _) (i := 3) rfl
        rcases (show k = 0 ∨ k = 1 by omega) with rfl | rfl
        · exact ⟨p4, p5, h0, h1, hp4, hp5⟩
        · exact ⟨q0, q1, h2, h3, bq0, bq1⟩
      obtain ⟨z, hz⟩ : ∃ z, rayOf p0 p1 p2 p3 x y = z := ⟨_, rfl⟩
      obtain ⟨z2, hz2⟩ : ∃ z, rayS s0 s1 s2 s3 s4 s5 x y = z := ⟨_, rfl⟩
      have HZ := Lib.hid hz
      have HY := Lib.hid hz2
      clear hz hz2
      have C2 := C0.push [.int .i64 x, .int .i64 y] 24
      go_upto_region 6 with fail
      change Has w _ (wr.alloc (.cells #[.int .i64 x, .int .i64 y] 24)) at C2
      clear hx hy C0
      generalize wr.alloc (.cells #[.int .i64 x, .int .i64 y] 24) = w5 at *
      generalize wr.heap.size = V at *
      have HS24 := Lib.hid (show ∀ w', Has w [(V, [.int .i64 x, .int .i64 y]), (T23, [.int .i64 p4, .int .i64 p5, .int .i64 q0, .int .i64 q1]), (E, [.int .i64 p0, .int .i64 p1]), (F, [.int .i64 p2, .int .i64 p3]), (G, [.int .i64 p4, .int .i64 p5]), (B, [.int .i64 s0, .int .i64 s1, .int .i64 s2, .int .i64 s3, .int .i64 s4, .int .i64 s5]), (A, [.int .i64 p0, .int .i64 p1, .int .i64 p2, .int .i64 p3, .int .i64 p4, .int .i64 p5])] w' → (w'.cell? ⟨V, 0, none⟩ = some (.int .i64 x) ∧ w'.cell? ⟨V, 1, none⟩ = some (.int .i64 y) ∧ w'.cell? ⟨T23, 0, none⟩ = some (.int .i64 p4) ∧ w'.cell? ⟨T23, 1, none⟩ = some (.int .i64 p5) ∧ w'.cell? ⟨T23, 2, none⟩ = some (.int .i64 q0) ∧ w'.cell? ⟨T23, 3, none⟩ = some (.int .i64 q1) ∧ w'.cell? ⟨E, 0, none⟩ = some (.int .i64 p0) ∧ w'.cell? ⟨E, 1, none⟩ = some (.int .i64 p1) ∧ w'.cell? ⟨F, 0, none⟩ = some (.int .i64 p2) ∧ w'.cell? ⟨F, 1, none⟩ = some (.int .i64 p3) ∧ w'.cell? ⟨G, 0, none⟩ = some (.int .i64 p4) ∧ w'.cell? ⟨G, 1, none⟩ = some (.int .i64 p5) ∧ w'.cell? ⟨B, 0, none⟩ = some (.int .i64 s0) ∧ w'.cell? ⟨B, 1, none⟩ = some (.int .i64 s1) ∧ w'.cell? ⟨B, 2, none⟩ = some (.int .i64 s2) ∧ w'.cell? ⟨B, 3, none⟩ = some (.int .i64 s3) ∧ w'.cell? ⟨B, 4, none⟩ = some (.int .i64 s4) ∧ w'.cell? ⟨B, 5, none⟩ = some (.int .i64 s5) ∧ w'.cell? ⟨A, 0, none⟩ = some (.int .i64 p0) ∧ w'.cell? ⟨A, 1, none⟩ = some (.int .i64 p1) ∧ w'.cell? ⟨A, 2, none⟩ = some (.int .i64 p2) ∧ w'.cell? ⟨A, 3, none⟩ = some (.int .i64 p3) ∧ w'.cell? ⟨A, 4, none⟩ = some (.int .i64 p4) ∧ w'.cell? ⟨A, 5, none⟩ = some (.int .i64 p5)) ∧ Has w [(V, [.int .i64 x, .int .i64 y]), (T23, [.int .i64 p4, .int .i64 p5, .int .i64 q0, .int .i64 q1]), (E, [.int .i64 p0, .int .i64 p1]), (F, [.int .i64 p2, .int .i64 p3]), (G, [.int .i64 p4, .int .i64 p5]), (B, [.int .i64 s0, .int .i64 s1, .int .i64 s2, .int .i64 s3, .int .i64 s4, .int .i64 s5]), (A, [.int .i64 p0, .int .i64 p1, .int .i64 p2, .int .i64 p3, .int .i64 p4, .int .i64 p5])] w' from fun w' h => ⟨⟨h.fact (.head _) (i := 0) rfl, h.fact (.head _) (i := 1) rfl, h.tail.fact (.head _) (i := 0) rfl, h.tail.fact (.head _) (i := 1) rfl, h.tail.fact (.head _) (i := 2) rfl, h.tail.fact (.head _) (i := 3) rfl, h.tail.tail.fact (.head _) (i := 0) rfl, h.tail.tail.fact (.head _) (i := 1) rfl, h.tail.tail.tail.fact (.head _) (i := 0) rfl, h.tail.tail.tail.fact (.head _) (i := 1) rfl, h.tail.tail.tail.tail.fact (.head _) (i := 0) rfl, h.tail.tail.tail.tail.fact (.head _) (i := 1) rfl, h.tail.tail.tail.tail.tail.fact (.head _) (i := 0) rfl, h.tail.tail.tail.tail.tail.fact (.head _) (i := 1) rfl, h.tail.tail.tail.tail.tail.fact (.head _) (i := 2) rfl, h.tail.tail.tail.tail.tail.fact (.head _) (i := 3) rfl, h.tail.tail.tail.tail.tail.fact (.head _) (i := 4) rfl, h.tail.tail.tail.tail.tail.fact (.head _) (i := 5) rfl, h.tail.tail.tail.tail.tail.tail.fact (.head _) (i := 0) rfl, h.tail.tail.tail.tail.tail.tail.fact (.head _) (i := 1) rfl, h.tail.tail.tail.tail.tail.tail.fact (.head _) (i := 2) rfl, h.tail.tail.tail.tail.tail.tail.fact (.head _) (i := 3) rfl, h.tail.tail.tail.tail.tail.tail.fact (.head _) (i := 4) rfl, h.tail.tail.tail.tail.tail.tail.fact (.head _) (i := 5) rfl⟩, h⟩)
      have C24d := C2.drew
      refine wp_region_held_drew (S := (fun w' => (w'.cell? ⟨V, 0, none⟩ = some (.int .i64 x) ∧ w'.cell? ⟨V, 1, none⟩ = some (.int .i64 y) ∧ w'.cell? ⟨T23, 0, none⟩ = some (.int .i64 p4) ∧ w'.cell? ⟨T23, 1, none⟩ = some (.int .i64 p5) ∧ w'.cell? ⟨T23, 2, none⟩ = some (.int .i64 q0) ∧ w'.cell? ⟨T23, 3, none⟩ = some (.int .i64 q1) ∧ w'.cell? ⟨E, 0, none⟩ = some (.int .i64 p0) ∧ w'.cell? ⟨E, 1, none⟩ = some (.int .i64 p1) ∧ w'.cell? ⟨F, 0, none⟩ = some (.int .i64 p2) ∧ w'.cell? ⟨F, 1, none⟩ = some (.int .i64 p3) ∧ w'.cell? ⟨G, 0, none⟩ = some (.int .i64 p4) ∧ w'.cell? ⟨G, 1, none⟩ = some (.int .i64 p5) ∧ w'.cell? ⟨B, 0, none⟩ = some (.int .i64 s0) ∧ w'.cell? ⟨B, 1, none⟩ = some (.int .i64 s1) ∧ w'.cell? ⟨B, 2, none⟩ = some (.int .i64 s2) ∧ w'.cell? ⟨B, 3, none⟩ = some (.int .i64 s3) ∧ w'.cell? ⟨B, 4, none⟩ = some (.int .i64 s4) ∧ w'.cell? ⟨B, 5, none⟩ = some (.int .i64 s5) ∧ w'.cell? ⟨A, 0, none⟩ = some (.int .i64 p0) ∧ w'.cell? ⟨A, 1, none⟩ = some (.int .i64 p1) ∧ w'.cell? ⟨A, 2, none⟩ = some (.int .i64 p2) ∧ w'.cell? ⟨A, 3, none⟩ = some (.int .i64 p3) ∧ w'.cell? ⟨A, 4, none⟩ = some (.int .i64 p4) ∧ w'.cell? ⟨A, 5, none⟩ = some (.int .i64 p5)) ∧ Has w [(V, [.int .i64 x, .int .i64 y]), (T23, [.int .i64 p4, .int .i64 p5, .int .i64 q0, .int .i64 q1]), (E, [.int .i64 p0, .int .i64 p1]), (F, [.int .i64 p2, .int .i64 p3]), (G, [.int .i64 p4, .int .i64 p5]), (B, [.int .i64 s0, .int .i64 s1, .int .i64 s2, .int .i64 s3, .int .i64 s4, .int .i64 s5]), (A, [.int .i64 p0, .int .i64 p1, .int .i64 p2, .int .i64 p3, .int .i64 p4, .int .i64 p5])] w')) (by kernel_rfl) (HS24.out _ C24d) (fun hHeld => ?_)
      clear C2
      generalize w5.drew = w24d at *
      refine wpAnyT_begin [0, 1, 2, 4, 5, 6] (by kernel_rfl) (by kernel_rfl) ?_
      refine wpAnyT_take (oi := ⟨some 36, Op.load 24 (Operand.tmp 6), 24, _, _, none⟩) (v := .agg #[.int .i64 p0, .int .i64 p1]) rfl (fun _ _ _ h => h) (by rfl) (by assumption) (fun wS hSw => ?_) ?_
      · (try dsimp only at hSw); go_simp
      simp only [Act.put, List.setIfInBounds_toArray, List.set_cons_zero, List.set_cons_succ]
      refine wpAnyT_take (oi := ⟨some 37, Op.load 24 (Operand.tmp 7), 24, _, _, none⟩) (v := .agg #[.int .i64 p2, .int .i64 p3]) rfl (fun _ _ _ h => h) (by rfl) (by assumption) (fun wS hSw => ?_) ?_
      · (try dsimp only at hSw); go_simp
      simp only [Act.put, List.setIfInBounds_toArray, List.set_cons_zero, List.set_cons_succ]
      refine wpAnyT_take (oi := ⟨some 38, Op.load 24 (Operand.tmp 10), 24, _, _, none⟩) (v := .agg #[.int .i64 x, .int .i64 y]) rfl (fun _ _ _ h => h) (by rfl) (by assumption) (fun wS hSw => ?_) ?_
      · (try dsimp only at hSw); go_simp
      simp only [Act.put, List.setIfInBounds_toArray, List.set_cons_zero, List.set_cons_succ]
      refine wpAnyT_take (oi := ⟨some 40, Op.load 24 (Operand.tmp 6), 24, _, _, none⟩) (v := .agg #[.int .i64 p0, .int .i64 p1]) rfl (fun _ _ _ h => h) (by rfl) (by assumption) (fun wS hSw => ?_) ?_
      · (try dsimp only at hSw); go_simp
      simp only [Act.put, List.setIfInBounds_toArray, List.set_cons_zero, List.set_cons_succ]
      refine wpAnyT_take (oi := ⟨some 41, Op.load 24 (Operand.tmp 7), 24, _, _, none⟩) (v := .agg #[.int .i64 p2, .int .i64 p3]) rfl (fun _ _ _ h => h) (by rfl) (by assumption) (fun wS hSw => ?_) ?_
      · (try dsimp only at hSw); go_simp
      simp only [Act.put, List.setIfInBounds_toArray, List.set_cons_zero, List.set_cons_succ]
      refine wpAnyT_take (oi := ⟨some 42, Op.load 24 (Operand.tmp 10), 24, _, _, none⟩) (v := .agg #[.int .i64 x, .int .i64 y]) rfl (fun _ _ _ h => h) (by rfl) (by assumption) (fun wS hSw => ?_) ?_
      · (try dsimp only at hSw); go_simp
      simp only [Act.put, List.setIfInBounds_toArray, List.set_cons_zero, List.set_cons_succ]
      refine wpAnyT_end ?_
      refine wpAnyH_listed #[true, true, true, false, true, true, true, false, false, false, false, false, false, false, false, false, false, false, false, false, false, false, false, false] (by kernel_rfl) ?_
      refine wpAnyH_ready (rs := [3]) (by kernel_rfl) (by simp) ?_
      refine AllReadyH.cons (o := ⟨some 39, Op.call { callee := Callee.value (Operand.func 20), args := #[Operand.tmp 36, Operand.tmp 37, Operand.tmp 38], argTypes := #[24, 24, 24] }, 3, _, _, none⟩) rfl (fun K hK => ?_) AllReadyH.nil
      go_simp
      go_at_call 20
      refine (calls_two C24d (ray_is p0 p1 p2 p3 x y z HZ.out _)).mono ?_
      rintro e w25 ⟨rfl, C25, g25⟩
      go_wp2_with fail
      clear hHeld
      refine hK.out _ _ (HS24.out _ (C25)) (fun hHeld => ?_)
      clear hK K
      try simp only [List.setIfInBounds_toArray, List.set_cons_zero, List.set_cons_succ]
      refine wpAnyH_listed #[true, true, true, true, true, true, true, false, false, false, false, false, false, false, false, false, false, false, false, false, false, false, false, false] (by kernel_rfl) ?_
      clear C24d g25
      refine wpAnyH_ready (rs := [7]) (by kernel_rfl) (by simp) ?_
      refine AllReadyH.cons (o := ⟨some 43, Op.call { callee := Callee.value (Operand.func 21), args := #[Operand.tmp 40, Operand.tmp 41, Operand.tmp 42], argTypes := #[24, 24, 24] }, 3, _, _, none⟩) rfl (fun K hK => ?_) AllReadyH.nil
      go_simp
      go_at_call 21
      refine (calls_two C25 (rray_is p0 p1 p2 p3 x y z HZ.out _)).mono ?_
      rintro e w26 ⟨rfl, C26, g26⟩
      go_wp2_with fail
      clear hHeld
      refine hK.out _ _ (HS24.out _ (C26)) (fun hHeld => ?_)
      clear hK K
      try simp only [List.setIfInBounds_toArray, List.set_cons_zero, List.set_cons_succ]
      refine wpAnyH_listed #[true, true, true, true, true, true, true, true, false, false, false, false, false, false, false, false, false, false, false, false, false, false, false, false] (by kernel_rfl) ?_
      clear C25 g26
      refine wpAnyT_begin [8] (by kernel_rfl) (by kernel_rfl) ?_
      refine wpAnyT_take (oi := ⟨some 44, Op.binOp BinOp.neq 3 (Operand.tmp 39) (Operand.tmp 43) 3, 4, _, _, none⟩) (v := .bool false) rfl (fun _ _ _ h => h) (by rfl) (by assumption) (fun wS hSw => ?_) ?_
      · (try dsimp only at hSw); go_simp
      simp only [Act.put, List.setIfInBounds_toArray, List.set_cons_zero, List.set_cons_succ]
      refine wpAnyT_end ?_
      refine wpAnyH_listed #[true, true, true, true, true, true, true, true, true, false, false, false, false, false, false, false, false, false, false, false, false, false, false, false] (by kernel_rfl) ?_
      refine wpAnyT_begin [9] (by kernel_rfl) (by kernel_rfl) ?_
      refine wpAnyT_take (oi := ⟨some 45, Op.move (Operand.tmp 44), 4, _, _, none⟩) (v := .bool false) rfl (fun _ _ _ h => h) (by rfl) (by assumption) (fun wS hSw => ?_) ?_
      · (try dsimp only at hSw); go_simp
      simp only [Act.put, List.setIfInBounds_toArray, List.set_cons_zero, List.set_cons_succ]
      refine wpAnyT_end ?_
      refine wpAnyH_listed #[true, true, true, true, true, true, true, true, true, true, false, false, false, false, false, false, false, false, false, false, false, false, false, false] (by kernel_rfl) ?_
      refine wpAnyT_begin [10, 12, 14, 16, 18, 20] (by kernel_rfl) (by kernel_rfl) ?_
      refine wpAnyT_take (oi := ⟨some 46, Op.indexAddr 40 (Operand.tmp 3) (Operand.const (Value.int IntKind.i64 0)), 0, _, _, some (9, false)⟩) (v := .pointer (some ⟨B, 0, none⟩)) rfl (fun _ _ _ h => h) (by rfl) (by assumption) (fun wS hSw => ?_) ?_
      · (try dsimp only at hSw); go_simp
      simp only [Act.put, List.setIfInBounds_toArray, List.set_cons_zero, List.set_cons_succ]
      refine wpAnyT_take (oi := ⟨some 48, Op.indexAddr 40 (Operand.tmp 3) (Operand.const (Value.int IntKind.i64 1)), 0, _, _, some (9, false)⟩) (v := .pointer (some ⟨B, 3, none⟩)) rfl (fun _ _ _ h => h) (by rfl) (by assumption) (fun wS hSw => ?_) ?_
      · (try dsimp only at hSw); go_simp
      simp only [Act.put, List.setIfInBounds_toArray, List.set_cons_zero, List.set_cons_succ]
      refine wpAnyT_take (oi := ⟨some 50, Op.load 24 (Operand.tmp 10), 24, _, _, some (9, false)⟩) (v := .agg #[.int .i64 x, .int .i64 y]) rfl (fun _ _ _ h => h) (by rfl) (by assumption) (fun wS hSw => ?_) ?_
      · (try dsimp only at hSw); go_simp
      simp only [Act.put, List.setIfInBounds_toArray, List.set_cons_zero, List.set_cons_succ]
      refine wpAnyT_take (oi := ⟨some 52, Op.indexAddr 40 (Operand.tmp 3) (Operand.const (Value.int IntKind.i64 0)), 0, _, _, some (9, false)⟩) (v := .pointer (some ⟨B, 0, none⟩)) rfl (fun _ _ _ h => h) (by rfl) (by assumption) (fun wS hSw => ?_) ?_
      · (try dsimp only at hSw); go_simp
      simp only [Act.put, List.setIfInBounds_toArray, List.set_cons_zero, List.set_cons_succ]
      refine wpAnyT_take (oi := ⟨some 54, Op.indexAddr 40 (Operand.tmp 3) (Operand.const (Value.int IntKind.i64 1)), 0, _, _, some (9, false)⟩) (v := .pointer (some ⟨B, 3, none⟩)) rfl (fun _ _ _ h => h) (by rfl) (by assumption) (fun wS hSw => ?_) ?_
      · (try dsimp only at hSw); go_simp
      simp only [Act.put, List.setIfInBounds_toArray, List.set_cons_zero, List.set_cons_succ]
      refine wpAnyT_take (oi := ⟨some 56, Op.load 24 (Operand.tmp 10), 24, _, _, some (9, false)⟩) (v := .agg #[.int .i64 x, .int .i64 y]) rfl (fun _ _ _ h => h) (by rfl) (by assumption) (fun wS hSw => ?_) ?_
      · (try dsimp only at hSw); go_simp
      simp only [Act.put, List.setIfInBounds_toArray, List.set_cons_zero, List.set_cons_succ]
      refine wpAnyT_end ?_
      refine wpAnyH_listed #[true, true, true, true, true, true, true, true, true, true, true, false, true, false, true, false, true, false, true, false, true, false, false, false] (by kernel_rfl) ?_
      refine wpAnyT_begin [11, 13, 17, 19] (by kernel_rfl) (by kernel_rfl) ?_
      refine wpAnyT_take (oi := ⟨some 47, Op.load 39 (Operand.tmp 46), 39, _, _, some (9, false)⟩) (v := .agg #[.int .i64 s0, .int .i64 s1, .int .i64 s2]) rfl (fun _ _ _ h => h) (by rfl) (by assumption) (fun wS hSw => ?_) ?_
      · (try dsimp only at hSw); go_simp
      simp only [Act.put, List.setIfInBounds_toArray, List.set_cons_zero, List.set_cons_succ]
      refine wpAnyT_take (oi := ⟨some 49, Op.load 39 (Operand.tmp 48), 39, _, _, some (9, false)⟩) (v := .agg #[.int .i64 s3, .int .i64 s4, .int .i64 s5]) rfl (fun _ _ _ h => h) (by rfl) (by assumption) (fun wS hSw => ?_) ?_
      · (try dsimp only at hSw); go_simp
      simp only [Act.put, List.setIfInBounds_toArray, List.set_cons_zero, List.set_cons_succ]
      refine wpAnyT_take (oi := ⟨some 53, Op.load 39 (Operand.tmp 52), 39, _, _, some (9, false)⟩) (v := .agg #[.int .i64 s0, .int .i64 s1, .int .i64 s2]) rfl (fun _ _ _ h => h) (by rfl) (by assumption) (fun wS hSw => ?_) ?_
      · (try dsimp only at hSw); go_simp
      simp only [Act.put, List.setIfInBounds_toArray, List.set_cons_zero, List.set_cons_succ]
      refine wpAnyT_take (oi := ⟨some 55, Op.load 39 (Operand.tmp 54), 39, _, _, some (9, false)⟩) (v := .agg #[.int .i64 s3, .int .i64 s4, .int .i64 s5]) rfl (fun _ _ _ h => h) (by rfl) (by assumption) (fun wS hSw => ?_) ?_
      · (try dsimp only at hSw); go_simp
      simp only [Act.put, List.setIfInBounds_toArray, List.set_cons_zero, List.set_cons_succ]
      refine wpAnyT_end ?_
      refine wpAnyH_listed #[true, true, true, true, true, true, true, true, true, true, true, true, true, true, true, false, true, true, true, true, true, false, false, false] (by kernel_rfl) ?_
      refine wpAnyH_ready (rs := [15]) (by kernel_rfl) (by simp) ?_
      refine AllReadyH.cons (o := ⟨some 51, Op.call { callee := Callee.value (Operand.func 22), args := #[Operand.tmp 47, Operand.tmp 49, Operand.tmp 50], argTypes := #[39, 39, 24] }, 3, _, _, some (9, false)⟩) rfl (fun K hK => ?_) AllReadyH.nil
      go_simp
      go_at_call 22
      refine (calls_two C26 (rayspot_is s0 s1 s2 s3 s4 s5 x y z2 HY.out _ hs1 hs2 hs4 hs5 by')).mono ?_
      rintro e w27 ⟨rfl, C27, g27⟩
      go_wp2_with fail
      clear hHeld
      refine hK.out _ _ (HS24.out _ (C27)) (fun hHeld => ?_)
      clear hK K
      try simp only [List.setIfInBounds_toArray, List.set_cons_zero, List.set_cons_succ]
      refine wpAnyH_listed #[true, true, true, true, true, true, true, true, true, true, true, true, true, true, true, true, true, true, true, true, true, false, false, false] (by kernel_rfl) ?_
      clear C26 g27
      refine wpAnyH_ready (rs := [21]) (by kernel_rfl) (by simp) ?_
      refine AllReadyH.cons (o := ⟨some 57, Op.call { callee := Callee.value (Operand.func 23), args := #[Operand.tmp 53, Operand.tmp 55, Operand.tmp 56], argTypes := #[39, 39, 24] }, 3, _, _, some (9, false)⟩) rfl (fun K hK => ?_) AllReadyH.nil
      go_simp
      go_at_call 23
      refine (calls_two C27 (rrays_is s0 s1 s2 s3 s4 s5 x y z2 HY.out _ hs1 hs2 hs4 hs5 by')).mono ?_
      rintro e w28 ⟨rfl, C28, g28⟩
      go_wp2_with fail
      clear hHeld
      refine hK.out _ _ (HS24.out _ (C28)) (fun hHeld => ?_)
      clear hK K
      try simp only [List.setIfInBounds_toArray, List.set_cons_zero, List.set_cons_succ]
      refine wpAnyH_listed #[true, true, true, true, true, true, true, true, true, true, true, true, true, true, true, true, true, true, true, true, true, true, false, false] (by kernel_rfl) ?_
      clear C27 g28
      refine wpAnyT_begin [22] (by kernel_rfl) (by kernel_rfl) ?_
      refine wpAnyT_take (oi := ⟨some 58, Op.binOp BinOp.neq 3 (Operand.tmp 51) (Operand.tmp 57) 3, 4, _, _, some (9, false)⟩) (v := .bool false) rfl (fun _ _ _ h => h) (by rfl) (by assumption) (fun wS hSw => ?_) ?_
      · (try dsimp only at hSw); go_simp
      simp only [Act.put, List.setIfInBounds_toArray, List.set_cons_zero, List.set_cons_succ]
      refine wpAnyT_end ?_
      refine wpAnyH_listed #[true, true, true, true, true, true, true, true, true, true, true, true, true, true, true, true, true, true, true, true, true, true, true, false] (by kernel_rfl) ?_
      refine wpAnyT_begin [23] (by kernel_rfl) (by kernel_rfl) ?_
      refine wpAnyT_take (oi := ⟨some 59, Op.pick (Operand.tmp 45) (Operand.const (Value.bool true)) (Operand.tmp 58), 4, _, _, none⟩) (v := .bool false) rfl (fun _ _ _ h => h) (by rfl) (by assumption) (fun wS hSw => ?_) ?_
      · (try dsimp only at hSw); go_simp
      simp only [Act.put, List.setIfInBounds_toArray, List.set_cons_zero, List.set_cons_succ]
      refine wpAnyT_end ?_
      refine wpAnyH_listed #[true, true, true, true, true, true, true, true, true, true, true, true, true, true, true, true, true, true, true, true, true, true, true, true] (by kernel_rfl) ?_
      refine wpAnyH_done (by kernel_rfl) ?_ _
      clear hHeld
      clear HS24
      go_upto_region 8 with fail
      clear HZ HY
      have X0 := C28.drew
      clear C28
      have ms1 := Lib.hid (show ∀ w', Has w [(V, [.int .i64 x, .int .i64 y]), (T23, [.int .i64 p4, .int .i64 p5, .int .i64 q0, .int .i64 q1]), (E, [.int .i64 p0, .int .i64 p1]), (F, [.int .i64 p2, .int .i64 p3]), (G, [.int .i64 p4, .int .i64 p5]), (B, [.int .i64 s0, .int .i64 s1, .int .i64 s2, .int .i64 s3, .int .i64 s4, .int .i64 s5]), (A, [.int .i64 p0, .int .i64 p1, .int .i64 p2, .int .i64 p3, .int .i64 p4, .int .i64 p5])] w' → (w'.cell? ⟨E, 0, none⟩ = some (.int .i64 p0) ∧ w'.cell? ⟨E, 1, none⟩ = some (.int .i64 p1) ∧ w'.cell? ⟨F, 0, none⟩ = some (.int .i64 p2) ∧ w'.cell? ⟨F, 1, none⟩ = some (.int .i64 p3)) ∧ Has w [(V, [.int .i64 x, .int .i64 y]), (T23, [.int .i64 p4, .int .i64 p5, .int .i64 q0, .int .i64 q1]), (E, [.int .i64 p0, .int .i64 p1]), (F, [.int .i64 p2, .int .i64 p3]), (G, [.int .i64 p4, .int .i64 p5]), (B, [.int .i64 s0, .int .i64 s1, .int .i64 s2, .int .i64 s3, .int .i64 s4, .int .i64 s5]), (A, [.int .i64 p0, .int .i64 p1, .int .i64 p2, .int .i64 p3, .int .i64 p4, .int .i64 p5])] w' from fun w' h => ⟨⟨h.tail.tail.fact (.head _) (i := 0) rfl, h.tail.tail.fact (.head _) (i := 1) rfl, h.tail.tail.tail.fact (.head _) (i := 0) rfl, h.tail.tail.tail.fact (.head _) (i := 1) rfl⟩, h⟩)
      refine wp_region_held_drew (S := (fun w' => (w'.cell? ⟨E, 0, none⟩ = some (.int .i64 p0) ∧ w'.cell? ⟨E, 1, none⟩ = some (.int .i64 p1) ∧ w'.cell? ⟨F, 0, none⟩ = some (.int .i64 p2) ∧ w'.cell? ⟨F, 1, none⟩ = some (.int .i64 p3)) ∧ Has w [(V, [.int .i64 x, .int .i64 y]), (T23, [.int .i64 p4, .int .i64 p5, .int .i64 q0, .int .i64 q1]), (E, [.int .i64 p0, .int .i64 p1]), (F, [.int .i64 p2, .int .i64 p3]), (G, [.int .i64 p4, .int .i64 p5]), (B, [.int .i64 s0, .int .i64 s1, .int .i64 s2, .int .i64 s3, .int .i64 s4, .int .i64 s5]), (A, [.int .i64 p0, .int .i64 p1, .int .i64 p2, .int .i64 p3, .int .i64 p4, .int .i64 p5])] w')) (by kernel_rfl) (ms1.out _ X0) (fun hHeld => ?_)
      refine wpAnyT_begin [0, 1, 2, 3, 4, 5] (by kernel_rfl) (by kernel_rfl) ?_
      refine wpAnyT_take (oi := ⟨some 60, Op.fieldAddr 24 (Operand.tmp 6) 0, 0, _, _, none⟩) (v := .pointer (some ⟨E, 0, none⟩)) rfl (fun _ _ _ h => h) (by rfl) (by assumption) (fun wS hSw => ?_) ?_
      · (try dsimp only at hSw); go_simp
      simp only [Act.put, List.setIfInBounds_toArray, List.set_cons_zero, List.set_cons_succ]
      refine wpAnyT_take (oi := ⟨some 61, Op.load 3 (Operand.tmp 60), 3, _, _, none⟩) (v := .int .i64 p0) rfl (fun _ _ _ h => h) (by rfl) (by assumption) (fun wS hSw => ?_) ?_
      · (try dsimp only at hSw); go_simp
      simp only [Act.put, List.setIfInBounds_toArray, List.set_cons_zero, List.set_cons_succ]
      refine wpAnyT_take (oi := ⟨some 62, Op.binOp BinOp.rem 3 (Operand.tmp 61) (Operand.const (Value.int IntKind.i64 9)) 3, 3, _, _, none⟩) (v := .int .i64 (p0.tmod 9)) rfl (fun _ _ _ h => h) (by rfl) (by assumption) (fun wS hSw => ?_) ?_
      · (try dsimp only at hSw); go_simp
      simp only [Act.put, List.setIfInBounds_toArray, List.set_cons_zero, List.set_cons_succ]
      refine wpAnyT_take (oi := ⟨some 63, Op.fieldAddr 24 (Operand.tmp 6) 1, 0, _, _, none⟩) (v := .pointer (some ⟨E, 1, none⟩)) rfl (fun _ _ _ h => h) (by rfl) (by assumption) (fun wS hSw => ?_) ?_
      · (try dsimp only at hSw); go_simp
      simp only [Act.put, List.setIfInBounds_toArray, List.set_cons_zero, List.set_cons_succ]
      refine wpAnyT_take (oi := ⟨some 64, Op.load 3 (Operand.tmp 63), 3, _, _, none⟩) (v := .int .i64 p1) rfl (fun _ _ _ h => h) (by rfl) (by assumption) (fun wS hSw => ?_) ?_
      · (try dsimp only at hSw); go_simp
      simp only [Act.put, List.setIfInBounds_toArray, List.set_cons_zero, List.set_cons_succ]
      refine wpAnyT_take (oi := ⟨some 65, Op.binOp BinOp.rem 3 (Operand.tmp 64) (Operand.const (Value.int IntKind.i64 9)) 3, 3, _, _, none⟩) (v := .int .i64 (p1.tmod 9)) rfl (fun _ _ _ h => h) (by rfl) (by assumption) (fun wS hSw => ?_) ?_
      · (try dsimp only at hSw); go_simp
      simp only [Act.put, List.setIfInBounds_toArray, List.set_cons_zero, List.set_cons_succ]
      refine wpAnyT_end ?_
      refine wpAnyH_listed #[true, true, true, true, true, true, false, false, false, false, false, false, false, false, false, false, false, false] (by kernel_rfl) ?_
      refine wpAnyT_begin [7, 8, 9, 10, 11, 12] (by kernel_rfl) (by kernel_rfl) ?_
      refine wpAnyT_take (oi := ⟨some 67, Op.fieldAddr 24 (Operand.tmp 7) 0, 0, _, _, none⟩) (v := .pointer (some ⟨F, 0, none⟩)) rfl (fun _ _ _ h => h) (by rfl) (by assumption) (fun wS hSw => ?_) ?_
      · (try dsimp only at hSw); go_simp
      simp only [Act.put, List.setIfInBounds_toArray, List.set_cons_zero, List.set_cons_succ]
      refine wpAnyT_take (oi := ⟨some 68, Op.load 3 (Operand.tmp 67), 3, _, _, none⟩) (v := .int .i64 p2) rfl (fun _ _ _ h => h) (by rfl) (by assumption) (fun wS hSw => ?_) ?_
      · (try dsimp only at hSw); go_simp
      simp only [Act.put, List.setIfInBounds_toArray, List.set_cons_zero, List.set_cons_succ]
      refine wpAnyT_take (oi := ⟨some 69, Op.binOp BinOp.rem 3 (Operand.tmp 68) (Operand.const (Value.int IntKind.i64 9)) 3, 3, _, _, none⟩) (v := .int .i64 (p2.tmod 9)) rfl (fun _ _ _ h => h) (by rfl) (by assumption) (fun wS hSw => ?_) ?_
      · (try dsimp only at hSw); go_simp
      simp only [Act.put, List.setIfInBounds_toArray, List.set_cons_zero, List.set_cons_succ]
      refine wpAnyT_take (oi := ⟨some 70, Op.fieldAddr 24 (Operand.tmp 7) 1, 0, _, _, none⟩) (v := .pointer (some ⟨F, 1, none⟩)) rfl (fun _ _ _ h => h) (by rfl) (by assumption) (fun wS hSw => ?_) ?_
      · (try dsimp only at hSw); go_simp
      simp only [Act.put, List.setIfInBounds_toArray, List.set_cons_zero, List.set_cons_succ]
      refine wpAnyT_take (oi := ⟨some 71, Op.load 3 (Operand.tmp 70), 3, _, _, none⟩) (v := .int .i64 p3) rfl (fun _ _ _ h => h) (by rfl) (by assumption) (fun wS hSw => ?_) ?_
      · (try dsimp only at hSw); go_simp
      simp only [Act.put, List.setIfInBounds_toArray, List.set_cons_zero, List.set_cons_succ]
      refine wpAnyT_take (oi := ⟨some 72, Op.binOp BinOp.rem 3 (Operand.tmp 71) (Operand.const (Value.int IntKind.i64 9)) 3, 3, _, _, none⟩) (v := .int .i64 (p3.tmod 9)) rfl (fun _ _ _ h => h) (by rfl) (by assumption) (fun wS hSw => ?_) ?_
      · (try dsimp only at hSw); go_simp
      simp only [Act.put, List.setIfInBounds_toArray, List.set_cons_zero, List.set_cons_succ]
      refine wpAnyT_end ?_
      refine wpAnyH_listed #[true, true, true, true, true, true, false, true, true, true, true, true, true, false, false, false, false, false] (by kernel_rfl) ?_
      refine any_ind (X := Sta) (n := fun sx => (2 - sx.n) + (if sx.a.isSome then 0 else 1) + (if sx.b.isSome then 0 else 1)) (l := fun sx => #[true, true, true, true, true, true, decide (1 ≤ sx.n), true, true, true, true, true, true, decide (2 ≤ sx.n), sx.a.isSome, sx.b.isSome, false, false]) (u := fun sx t => (putc 66 (.agg #[.int .i64 (p0.tmod 9), .int .i64 (p1.tmod 9)]) (decide (1 ≤ sx.n)) (putc 73 (.agg #[.int .i64 (p2.tmod 9), .int .i64 (p3.tmod 9)]) (decide (2 ≤ sx.n)) (putp 11 sx.a (putp 12 sx.b t))))) (I := fun sx w' => sx.n ≤ 2 ∧ Has w (bl [.int .i64 0, .int .i64 0] sx.a (bl [.int .i64 0, .int .i64 0] sx.b [(V, [.int .i64 x, .int .i64 y]), (T23, [.int .i64 p4, .int .i64 p5, .int .i64 q0, .int .i64 q1]), (E, [.int .i64 p0, .int .i64 p1]), (F, [.int .i64 p2, .int .i64 p3]), (G, [.int .i64 p4, .int .i64 p5]), (B, [.int .i64 s0, .int .i64 s1, .int .i64 s2, .int .i64 s3, .int .i64 s4, .int .i64 s5]), (A, [.int .i64 p0, .int .i64 p1, .int .i64 p2, .int .i64 p3, .int .i64 p4, .int .i64 p5])])) w') (m := 2) ⟨none, none, none, 0⟩ (by kernel_rfl) (by kernel_rfl) (by kernel_rfl) ⟨Nat.zero_le _, X0⟩ ?_ ?_
      · rintro k ih ⟨pa, pb, pc, c⟩ w2 hk ⟨hc, hH⟩
        clear hHeld
        obtain rfl | rfl | rfl : c = 0 ∨ c = 1 ∨ c = 2 := by simp only at hc; omega
        · cases pa with
          | none =>
            cases pb with
            | none =>
              simp only [Option.isSome, Bool.false_eq_true, if_false, if_true] at hk
              simp only [putc, putp, Act.put, decide_eq_true_eq, decide_true, decide_false, Nat.le_refl, Nat.reduceLeDiff, List.setIfInBounds_toArray, List.set_cons_zero, List.set_cons_succ]
              refine wpAnyH_listed #[true, true, true, true, true, true, false, true, true, true, true, true, true, false, false, false, false, false] (by kernel_rfl) ?_
              refine wpAnyH_ready (rs := [6, 14, 15]) (by kernel_rfl) (by simp) ?_
              refine AllReadyH.cons (o := ⟨some 66, Op.call { callee := Callee.value (Operand.func 13), args := #[Operand.tmp 62, Operand.tmp 65], argTypes := #[3, 3] }, 24, _, _, none⟩) rfl (fun K hK => ?_) (?_)
              · go_simp
                go_at_call 13
                refine (Has.call hH (at_any (p0.tmod 9) (p1.tmod 9) _)).mono ?_
                rintro e W ⟨rfl, hC⟩
                go_wp2_with fail
                refine hK.out _ _ (ms1.out _ hC) (fun _ => ?_)
                exact wpAnyH_cast rfl (by kernel_rfl) (by kernel_rfl) (ih ⟨none, none, pc, 1⟩ _ (by simp only [Option.isSome, Bool.false_eq_true, if_false, if_true]; omega) ⟨by simp, hC⟩)
              refine AllReadyH.cons (o := ⟨some 11, Op.alloc 24, 0, _, _, none⟩) rfl (fun K hK => ?_) (?_)
              · go_simp
                have hC := (hH.push [.int .i64 0, .int .i64 0] 24)
                change Has w _ (w2.alloc (.cells #[.int .i64 0, .int .i64 0] 24)) at hC
                generalize w2.alloc (.cells #[.int .i64 0, .int .i64 0] 24) = W at *
                generalize w2.heap.size = K1 at *
                have hC' : Has w ([(K1, [.int .i64 0, .int .i64 0])] ++ [(V, [.int .i64 x, .int .i64 y]), (T23, [.int .i64 p4, .int .i64 p5, .int .i64 q0, .int .i64 q1]), (E, [.int .i64 p0, .int .i64 p1]), (F, [.int .i64 p2, .int .i64 p3]), (G, [.int .i64 p4, .int .i64 p5]), (B, [.int .i64 s0, .int .i64 s1, .int .i64 s2, .int .i64 s3, .int .i64 s4, .int .i64 s5]), (A, [.int .i64 p0, .int .i64 p1, .int .i64 p2, .int .i64 p3, .int .i64 p4, .int .i64 p5])]) W := hC
                refine hK.out _ _ (ms1.out _ (hC.tail)) (fun _ => ?_)
                exact wpAnyH_cast rfl (by kernel_rfl) (by kernel_rfl) (ih ⟨some K1, none, pc, 0⟩ _ (by simp only [Option.isSome, Bool.false_eq_true, if_false, if_true]; omega) ⟨by simp, hC⟩)
              refine AllReadyH.cons (o := ⟨some 12, Op.alloc 24, 0, _, _, none⟩) rfl (fun K hK => ?_) (AllReadyH.nil)
              · go_simp
                have hC := (hH.push [.int .i64 0, .int .i64 0] 24)
                change Has w _ (w2.alloc (.cells #[.int .i64 0, .int .i64 0] 24)) at hC
                generalize w2.alloc (.cells #[.int .i64 0, .int .i64 0] 24) = W at *
                generalize w2.heap.size = K2 at *
                have hC' : Has w ([(K2, [.int .i64 0, .int .i64 0])] ++ [(V, [.int .i64 x, .int .i64 y]), (T23, [.int .i64 p4, .int .i64 p5, .int .i64 q0, .int .i64 q1]), (E, [.int .i64 p0, .int .i64 p1]), (F, [.int .i64 p2, .int .i64 p3]), (G, [.int .i64 p4, .int .i64 p5]), (B, [.int .i64 s0, .int .i64 s1, .int .i64 s2, .int .i64 s3, .int .i64 s4, .int .i64 s5]), (A, [.int .i64 p0, .int .i64 p1, .int .i64 p2, .int .i64 p3, .int .i64 p4, .int .i64 p5])]) W := hC
                refine hK.out _ _ (ms1.out _ (hC.tail)) (fun _ => ?_)
                exact wpAnyH_cast rfl (by kernel_rfl) (by kernel_rfl) (ih ⟨none, some K2, pc, 0⟩ _ (by simp only [Option.isSome, Bool.false_eq_true, if_false, if_true]; omega) ⟨by simp, hC⟩)
            | some K2 =>
              simp only [Option.isSome, Bool.false_eq_true, if_false, if_true] at hk
              simp only [putc, putp, Act.put, decide_eq_true_eq, decide_true, decide_false, Nat.le_refl, Nat.reduceLeDiff, List.setIfInBounds_toArray, List.set_cons_zero, List.set_cons_succ]
              refine wpAnyH_listed #[true, true, true, true, true, true, false, true, true, true, true, true, true, false, false, true, false, false] (by kernel_rfl) ?_
              refine wpAnyH_ready (rs := [6, 14]) (by kernel_rfl) (by simp) ?_
              refine AllReadyH.cons (o := ⟨some 66, Op.call { callee := Callee.value (Operand.func 13), args := #[Operand.tmp 62, Operand.tmp 65], argTypes := #[3, 3] }, 24, _, _, none⟩) rfl (fun K hK => ?_) (?_)
              · go_simp
                go_at_call 13
                refine (Has.call hH (at_any (p0.tmod 9) (p1.tmod 9) _)).mono ?_
                rintro e W ⟨rfl, hC⟩
                go_wp2_with fail
                refine hK.out _ _ (ms1.out _ hC.tail) (fun _ => ?_)
                exact wpAnyH_cast rfl (by kernel_rfl) (by kernel_rfl) (ih ⟨none, some K2, pc, 1⟩ _ (by simp only [Option.isSome, Bool.false_eq_true, if_false, if_true]; omega) ⟨by simp, hC⟩)
              refine AllReadyH.cons (o := ⟨some 11, Op.alloc 24, 0, _, _, none⟩) rfl (fun K hK => ?_) (AllReadyH.nil)
              · go_simp
                have hC := (hH.push [.int .i64 0, .int .i64 0] 24)
                change Has w _ (w2.alloc (.cells #[.int .i64 0, .int .i64 0] 24)) at hC
                generalize w2.alloc (.cells #[.int .i64 0, .int .i64 0] 24) = W at *
                generalize w2.heap.size = K1 at *
                have hC' : Has w ([(K1, [.int .i64 0, .int .i64 0]), (K2, [.int .i64 0, .int .i64 0])] ++ [(V, [.int .i64 x, .int .i64 y]), (T23, [.int .i64 p4, .int .i64 p5, .int .i64 q0, .int .i64 q1]), (E, [.int .i64 p0, .int .i64 p1]), (F, [.int .i64 p2, .int .i64 p3]), (G, [.int .i64 p4, .int .i64 p5]), (B, [.int .i64 s0, .int .i64 s1, .int .i64 s2, .int .i64 s3, .int .i64 s4, .int .i64 s5]), (A, [.int .i64 p0, .int .i64 p1, .int .i64 p2, .int .i64 p3, .int .i64 p4, .int .i64 p5])]) W := hC
                refine hK.out _ _ (ms1.out _ (hC.tail.tail)) (fun _ => ?_)
                exact wpAnyH_cast rfl (by kernel_rfl) (by kernel_rfl) (ih ⟨some K1, some K2, pc, 0⟩ _ (by simp only [Option.isSome, Bool.false_eq_true, if_false, if_true]; omega) ⟨by simp, hC⟩)
          | some K1 =>
            cases pb with
            | none =>
              simp only [Option.isSome, Bool.false_eq_true, if_false, if_true] at hk
              simp only [putc, putp, Act.put, decide_eq_true_eq, decide_true, decide_false, Nat.le_refl, Nat.reduceLeDiff, List.setIfInBounds_toArray, List.set_cons_zero, List.set_cons_succ]
              refine wpAnyH_listed #[true, true, true, true, true, true, false, true, true, true, true, true, true, false, true, false, false, false] (by kernel_rfl) ?_
              refine wpAnyH_ready (rs := [6, 15]) (by kernel_rfl) (by simp) ?_
              refine AllReadyH.cons (o := ⟨some 66, Op.call { callee := Callee.value (Operand.func 13), args := #[Operand.tmp 62, Operand.tmp 65], argTypes := #[3, 3] }, 24, _, _, none⟩) rfl (fun K hK => ?_) (?_)
              · go_simp
                go_at_call 13
                refine (Has.call hH (at_any (p0.tmod 9) (p1.tmod 9) _)).mono ?_
                rintro e W ⟨rfl, hC⟩
                go_wp2_with fail
                refine hK.out _ _ (ms1.out _ hC.tail) (fun _ => ?_)
                exact wpAnyH_cast rfl (by kernel_rfl) (by kernel_rfl) (ih ⟨some K1, none, pc, 1⟩ _ (by simp only [Option.isSome, Bool.false_eq_true, if_false, if_true]; omega) ⟨by simp, hC⟩)
              refine AllReadyH.cons (o := ⟨some 12, Op.alloc 24, 0, _, _, none⟩) rfl (fun K hK => ?_) (AllReadyH.nil)
              · go_simp
                have hC := (hH.push [.int .i64 0, .int .i64 0] 24).swap
                change Has w _ (w2.alloc (.cells #[.int .i64 0, .int .i64 0] 24)) at hC
                generalize w2.alloc (.cells #[.int .i64 0, .int .i64 0] 24) = W at *
                generalize w2.heap.size = K2 at *
                have hC' : Has w ([(K1, [.int .i64 0, .int .i64 0]), (K2, [.int .i64 0, .int .i64 0])] ++ [(V, [.int .i64 x, .int .i64 y]), (T23, [.int .i64 p4, .int .i64 p5, .int .i64 q0, .int .i64 q1]), (E, [.int .i64 p0, .int .i64 p1]), (F, [.int .i64 p2, .int .i64 p3]), (G, [.int .i64 p4, .int .i64 p5]), (B, [.int .i64 s0, .int .i64 s1, .int .i64 s2, .int .i64 s3, .int .i64 s4, .int .i64 s5]), (A, [.int .i64 p0, .int .i64 p1, .int .i64 p2, .int .i64 p3, .int .i64 p4, .int .i64 p5])]) W := hC
                refine hK.out _ _ (ms1.out _ (hC.tail.tail)) (fun _ => ?_)
                exact wpAnyH_cast rfl (by kernel_rfl) (by kernel_rfl) (ih ⟨some K1, some K2, pc, 0⟩ _ (by simp only [Option.isSome, Bool.false_eq_true, if_false, if_true]; omega) ⟨by simp, hC⟩)
            | some K2 =>
              simp only [Option.isSome, Bool.false_eq_true, if_false, if_true] at hk
              simp only [putc, putp, Act.put, decide_eq_true_eq, decide_true, decide_false, Nat.le_refl, Nat.reduceLeDiff, List.setIfInBounds_toArray, List.set_cons_zero, List.set_cons_succ]
              refine wpAnyH_listed #[true, true, true, true, true, true, false, true, true, true, true, true, true, false, true, true, false, false] (by kernel_rfl) ?_
              refine wpAnyH_ready (rs := [6]) (by kernel_rfl) (by simp) ?_
              refine AllReadyH.cons (o := ⟨some 66, Op.call { callee := Callee.value (Operand.func 13), args := #[Operand.tmp 62, Operand.tmp 65], argTypes := #[3, 3] }, 24, _, _, none⟩) rfl (fun K hK => ?_) (AllReadyH.nil)
              · go_simp
                go_at_call 13
                refine (Has.call hH (at_any (p0.tmod 9) (p1.tmod 9) _)).mono ?_
                rintro e W ⟨rfl, hC⟩
                go_wp2_with fail
                refine hK.out _ _ (ms1.out _ hC.tail.tail) (fun _ => ?_)
                exact wpAnyH_cast rfl (by kernel_rfl) (by kernel_rfl) (ih ⟨some K1, some K2, pc, 1⟩ _ (by simp only [Option.isSome, Bool.false_eq_true, if_false, if_true]; omega) ⟨by simp, hC⟩)
        · cases pa with
          | none =>
            cases pb with
            | none =>
              simp only [Option.isSome, Bool.false_eq_true, if_false, if_true] at hk
              simp only [putc, putp, Act.put, decide_eq_true_eq, decide_true, decide_false, Nat.le_refl, Nat.reduceLeDiff, List.setIfInBounds_toArray, List.set_cons_zero, List.set_cons_succ]
              refine wpAnyH_listed #[true, true, true, true, true, true, true, true, true, true, true, true, true, false, false, false, false, false] (by kernel_rfl) ?_
              refine wpAnyH_ready (rs := [13, 14, 15]) (by kernel_rfl) (by simp) ?_
              refine AllReadyH.cons (o := ⟨some 73, Op.call { callee := Callee.value (Operand.func 13), args := #[Operand.tmp 69, Operand.tmp 72], argTypes := #[3, 3] }, 24, _, _, none⟩) rfl (fun K hK => ?_) (?_)
              · go_simp
                go_at_call 13
                refine (Has.call hH (at_any (p2.tmod 9) (p3.tmod 9) _)).mono ?_
                rintro e W ⟨rfl, hC⟩
                go_wp2_with fail
                refine hK.out _ _ (ms1.out _ hC) (fun _ => ?_)
                exact wpAnyH_cast rfl (by kernel_rfl) (by kernel_rfl) (ih ⟨none, none, pc, 2⟩ _ (by simp only [Option.isSome, Bool.false_eq_true, if_false, if_true]; omega) ⟨by simp, hC⟩)
              refine AllReadyH.cons (o := ⟨some 11, Op.alloc 24, 0, _, _, none⟩) rfl (fun K hK => ?_) (?_)
              · go_simp
                have hC := (hH.push [.int .i64 0, .int .i64 0] 24)
                change Has w _ (w2.alloc (.cells #[.int .i64 0, .int .i64 0] 24)) at hC
                generalize w2.alloc (.cells #[.int .i64 0, .int .i64 0] 24) = W at *
                generalize w2.heap.size = K1 at *
                have hC' : Has w ([(K1, [.int .i64 0, .int .i64 0])] ++ [(V, [.int .i64 x, .int .i64 y]), (T23, [.int .i64 p4, .int .i64 p5, .int .i64 q0, .int .i64 q1]), (E, [.int .i64 p0, .int .i64 p1]), (F, [.int .i64 p2, .int .i64 p3]), (G, [.int .i64 p4, .int .i64 p5]), (B, [.int .i64 s0, .int .i64 s1, .int .i64 s2, .int .i64 s3, .int .i64 s4, .int .i64 s5]), (A, [.int .i64 p0, .int .i64 p1, .int .i64 p2, .int .i64 p3, .int .i64 p4, .int .i64 p5])]) W := hC
                refine hK.out _ _ (ms1.out _ (hC.tail)) (fun _ => ?_)
                exact wpAnyH_cast rfl (by kernel_rfl) (by kernel_rfl) (ih ⟨some K1, none, pc, 1⟩ _ (by simp only [Option.isSome, Bool.false_eq_true, if_false, if_true]; omega) ⟨by simp, hC⟩)
              refine AllReadyH.cons (o := ⟨some 12, Op.alloc 24, 0, _, _, none⟩) rfl (fun K hK => ?_) (AllReadyH.nil)
              · go_simp
                have hC := (hH.push [.int .i64 0, .int .i64 0] 24)
                change Has w _ (w2.alloc (.cells #[.int .i64 0, .int .i64 0] 24)) at hC
                generalize w2.alloc (.cells #[.int .i64 0, .int .i64 0] 24) = W at *
                generalize w2.heap.size = K2 at *
                have hC' : Has w ([(K2, [.int .i64 0, .int .i64 0])] ++ [(V, [.int .i64 x, .int .i64 y]), (T23, [.int .i64 p4, .int .i64 p5, .int .i64 q0, .int .i64 q1]), (E, [.int .i64 p0, .int .i64 p1]), (F, [.int .i64 p2, .int .i64 p3]), (G, [.int .i64 p4, .int .i64 p5]), (B, [.int .i64 s0, .int .i64 s1, .int .i64 s2, .int .i64 s3, .int .i64 s4, .int .i64 s5]), (A, [.int .i64 p0, .int .i64 p1, .int .i64 p2, .int .i64 p3, .int .i64 p4, .int .i64 p5])]) W := hC
                refine hK.out _ _ (ms1.out _ (hC.tail)) (fun _ => ?_)
                exact wpAnyH_cast rfl (by kernel_rfl) (by kernel_rfl) (ih ⟨none, some K2, pc, 1⟩ _ (by simp only [Option.isSome, Bool.false_eq_true, if_false, if_true]; omega) ⟨by simp, hC⟩)
            | some K2 =>
              simp only [Option.isSome, Bool.false_eq_true, if_false, if_true] at hk
              simp only [putc, putp, Act.put, decide_eq_true_eq, decide_true, decide_false, Nat.le_refl, Nat.reduceLeDiff, List.setIfInBounds_toArray, List.set_cons_zero, List.set_cons_succ]
              refine wpAnyH_listed #[true, true, true, true, true, true, true, true, true, true, true, true, true, false, false, true, false, false] (by kernel_rfl) ?_
              refine wpAnyH_ready (rs := [13, 14]) (by kernel_rfl) (by simp) ?_
              refine AllReadyH.cons (o := ⟨some 73, Op.call { callee := Callee.value (Operand.func 13), args := #[Operand.tmp 69, Operand.tmp 72], argTypes := #[3, 3] }, 24, _, _, none⟩) rfl (fun K hK => ?_) (?_)
              · go_simp
                go_at_call 13
                refine (Has.call hH (at_any (p2.tmod 9) (p3.tmod 9) _)).mono ?_
                rintro e W ⟨rfl, hC⟩
                go_wp2_with fail
                refine hK.out _ _ (ms1.out _ hC.tail) (fun _ => ?_)
                exact wpAnyH_cast rfl (by kernel_rfl) (by kernel_rfl) (ih ⟨none, some K2, pc, 2⟩ _ (by simp only [Option.isSome, Bool.false_eq_true, if_false, if_true]; omega) ⟨by simp, hC⟩)
              refine AllReadyH.cons (o := ⟨some 11, Op.alloc 24, 0, _, _, none⟩) rfl (fun K hK => ?_) (AllReadyH.nil)
              · go_simp
                have hC := (hH.push [.int .i64 0, .int .i64 0] 24)
                change Has w _ (w2.alloc (.cells #[.int .i64 0, .int .i64 0] 24)) at hC
                generalize w2.alloc (.cells #[.int .i64 0, .int .i64 0] 24) = W at *
                generalize w2.heap.size = K1 at *
                have hC' : Has w ([(K1, [.int .i64 0, .int .i64 0]), (K2, [.int .i64 0, .int .i64 0])] ++ [(V, [.int .i64 x, .int .i64 y]), (T23, [.int .i64 p4, .int .i64 p5, .int .i64 q0, .int .i64 q1]), (E, [.int .i64 p0, .int .i64 p1]), (F, [.int .i64 p2, .int .i64 p3]), (G, [.int .i64 p4, .int .i64 p5]), (B, [.int .i64 s0, .int .i64 s1, .int .i64 s2, .int .i64 s3, .int .i64 s4, .int .i64 s5]), (A, [.int .i64 p0, .int .i64 p1, .int .i64 p2, .int .i64 p3, .int .i64 p4, .int .i64 p5])]) W := hC
                refine hK.out _ _ (ms1.out _ (hC.tail.tail)) (fun _ => ?_)
                exact wpAnyH_cast rfl (by kernel_rfl) (by kernel_rfl) (ih ⟨some K1, some K2, pc, 1⟩ _ (by simp only [Option.isSome, Bool.false_eq_true, if_false, if_true]; omega) ⟨by simp, hC⟩)
          | some K1 =>
            cases pb with
            | none =>
              simp only [Option.isSome, Bool.false_eq_true, if_false, if_true] at hk
              simp only [putc, putp, Act.put, decide_eq_true_eq, decide_true, decide_false, Nat.le_refl, Nat.reduceLeDiff, List.setIfInBounds_toArray, List.set_cons_zero, List.set_cons_succ]
              refine wpAnyH_listed #[true, true, true, true, true, true, true, true, true, true, true, true, true, false, true, false, false, false] (by kernel_rfl) ?_
              refine wpAnyH_ready (rs := [13, 15]) (by kernel_rfl) (by simp) ?_
              refine AllReadyH.cons (o := ⟨some 73, Op.call { callee := Callee.value (Operand.func 13), args := #[Operand.tmp 69, Operand.tmp 72], argTypes := #[3, 3] }, 24, _, _, none⟩) rfl (fun K hK => ?_) (?_)
              · go_simp
                go_at_call 13
                refine (Has.call hH (at_any (p2.tmod 9) (p3.tmod 9) _)).mono ?_
                rintro e W ⟨rfl, hC⟩
                go_wp2_with fail
                refine hK.out _ _ (ms1.out _ hC.tail) (fun _ => ?_)
                exact wpAnyH_cast rfl (by kernel_rfl) (by kernel_rfl) (ih ⟨some K1, none, pc, 2⟩ _ (by simp only [Option.isSome, Bool.false_eq_true, if_false, if_true]; omega) ⟨by simp, hC⟩)
              refine AllReadyH.cons (o := ⟨some 12, Op.alloc 24, 0, _, _, none⟩) rfl (fun K hK => ?_) (AllReadyH.nil)
              · go_simp
                have hC := (hH.push [.int .i64 0, .int .i64 0] 24).swap
                change Has w _ (w2.alloc (.cells #[.int .i64 0, .int .i64 0] 24)) at hC
                generalize w2.alloc (.cells #[.int .i64 0, .int .i64 0] 24) = W at *
                generalize w2.heap.size = K2 at *
                have hC' : Has w ([(K1, [.int .i64 0, .int .i64 0]), (K2, [.int .i64 0, .int .i64 0])] ++ [(V, [.int .i64 x, .int .i64 y]), (T23, [.int .i64 p4, .int .i64 p5, .int .i64 q0, .int .i64 q1]), (E, [.int .i64 p0, .int .i64 p1]), (F, [.int .i64 p2, .int .i64 p3]), (G, [.int .i64 p4, .int .i64 p5]), (B, [.int .i64 s0, .int .i64 s1, .int .i64 s2, .int .i64 s3, .int .i64 s4, .int .i64 s5]), (A, [.int .i64 p0, .int .i64 p1, .int .i64 p2, .int .i64 p3, .int .i64 p4, .int .i64 p5])]) W := hC
                refine hK.out _ _ (ms1.out _ (hC.tail.tail)) (fun _ => ?_)
                exact wpAnyH_cast rfl (by kernel_rfl) (by kernel_rfl) (ih ⟨some K1, some K2, pc, 1⟩ _ (by simp only [Option.isSome, Bool.false_eq_true, if_false, if_true]; omega) ⟨by simp, hC⟩)
            | some K2 =>
              simp only [Option.isSome, Bool.false_eq_true, if_false, if_true] at hk
              simp only [putc, putp, Act.put, decide_eq_true_eq, decide_true, decide_false, Nat.le_refl, Nat.reduceLeDiff, List.setIfInBounds_toArray, List.set_cons_zero, List.set_cons_succ]
              refine wpAnyH_listed #[true, true, true, true, true, true, true, true, true, true, true, true, true, false, true, true, false, false] (by kernel_rfl) ?_
              refine wpAnyH_ready (rs := [13]) (by kernel_rfl) (by simp) ?_
              refine AllReadyH.cons (o := ⟨some 73, Op.call { callee := Callee.value (Operand.func 13), args := #[Operand.tmp 69, Operand.tmp 72], argTypes := #[3, 3] }, 24, _, _, none⟩) rfl (fun K hK => ?_) (AllReadyH.nil)
              · go_simp
                go_at_call 13
                refine (Has.call hH (at_any (p2.tmod 9) (p3.tmod 9) _)).mono ?_
                rintro e W ⟨rfl, hC⟩
                go_wp2_with fail
                refine hK.out _ _ (ms1.out _ hC.tail.tail) (fun _ => ?_)
                exact wpAnyH_cast rfl (by kernel_rfl) (by kernel_rfl) (ih ⟨some K1, some K2, pc, 2⟩ _ (by simp only [Option.isSome, Bool.false_eq_true, if_false, if_true]; omega) ⟨by simp, hC⟩)
        · cases pa with
          | none =>
            cases pb with
            | none =>
              simp only [Option.isSome, Bool.false_eq_true, if_false, if_true] at hk
              simp only [putc, putp, Act.put, decide_eq_true_eq, decide_true, decide_false, Nat.le_refl, Nat.reduceLeDiff, List.setIfInBounds_toArray, List.set_cons_zero, List.set_cons_succ]
              refine wpAnyH_listed #[true, true, true, true, true, true, true, true, true, true, true, true, true, true, false, false, false, false] (by kernel_rfl) ?_
              refine wpAnyH_ready (rs := [14, 15]) (by kernel_rfl) (by simp) ?_
              refine AllReadyH.cons (o := ⟨some 11, Op.alloc 24, 0, _, _, none⟩) rfl (fun K hK => ?_) (?_)
              · go_simp
                have hC := (hH.push [.int .i64 0, .int .i64 0] 24)
                change Has w _ (w2.alloc (.cells #[.int .i64 0, .int .i64 0] 24)) at hC
                generalize w2.alloc (.cells #[.int .i64 0, .int .i64 0] 24) = W at *
                generalize w2.heap.size = K1 at *
                have hC' : Has w ([(K1, [.int .i64 0, .int .i64 0])] ++ [(V, [.int .i64 x, .int .i64 y]), (T23, [.int .i64 p4, .int .i64 p5, .int .i64 q0, .int .i64 q1]), (E, [.int .i64 p0, .int .i64 p1]), (F, [.int .i64 p2, .int .i64 p3]), (G, [.int .i64 p4, .int .i64 p5]), (B, [.int .i64 s0, .int .i64 s1, .int .i64 s2, .int .i64 s3, .int .i64 s4, .int .i64 s5]), (A, [.int .i64 p0, .int .i64 p1, .int .i64 p2, .int .i64 p3, .int .i64 p4, .int .i64 p5])]) W := hC
                refine hK.out _ _ (ms1.out _ (hC.tail)) (fun _ => ?_)
                exact wpAnyH_cast rfl (by kernel_rfl) (by kernel_rfl) (ih ⟨some K1, none, pc, 2⟩ _ (by simp only [Option.isSome, Bool.false_eq_true, if_false, if_true]; omega) ⟨by simp, hC⟩)
              refine AllReadyH.cons (o := ⟨some 12, Op.alloc 24, 0, _, _, none⟩) rfl (fun K hK => ?_) (AllReadyH.nil)
              · go_simp
                have hC := (hH.push [.int .i64 0, .int .i64 0] 24)
                change Has w _ (w2.alloc (.cells #[.int .i64 0, .int .i64 0] 24)) at hC
                generalize w2.alloc (.cells #[.int .i64 0, .int .i64 0] 24) = W at *
                generalize w2.heap.size = K2 at *
                have hC' : Has w ([(K2, [.int .i64 0, .int .i64 0])] ++ [(V, [.int .i64 x, .int .i64 y]), (T23, [.int .i64 p4, .int .i64 p5, .int .i64 q0, .int .i64 q1]), (E, [.int .i64 p0, .int .i64 p1]), (F, [.int .i64 p2, .int .i64 p3]), (G, [.int .i64 p4, .int .i64 p5]), (B, [.int .i64 s0, .int .i64 s1, .int .i64 s2, .int .i64 s3, .int .i64 s4, .int .i64 s5]), (A, [.int .i64 p0, .int .i64 p1, .int .i64 p2, .int .i64 p3, .int .i64 p4, .int .i64 p5])]) W := hC
                refine hK.out _ _ (ms1.out _ (hC.tail)) (fun _ => ?_)
                exact wpAnyH_cast rfl (by kernel_rfl) (by kernel_rfl) (ih ⟨none, some K2, pc, 2⟩ _ (by simp only [Option.isSome, Bool.false_eq_true, if_false, if_true]; omega) ⟨by simp, hC⟩)
            | some K2 =>
              simp only [Option.isSome, Bool.false_eq_true, if_false, if_true] at hk
              simp only [putc, putp, Act.put, decide_eq_true_eq, decide_true, decide_false, Nat.le_refl, Nat.reduceLeDiff, List.setIfInBounds_toArray, List.set_cons_zero, List.set_cons_succ]
              refine wpAnyH_listed #[true, true, true, true, true, true, true, true, true, true, true, true, true, true, false, true, false, false] (by kernel_rfl) ?_
              refine wpAnyH_ready (rs := [14]) (by kernel_rfl) (by simp) ?_
              refine AllReadyH.cons (o := ⟨some 11, Op.alloc 24, 0, _, _, none⟩) rfl (fun K hK => ?_) (AllReadyH.nil)
              · go_simp
                have hC := (hH.push [.int .i64 0, .int .i64 0] 24)
                change Has w _ (w2.alloc (.cells #[.int .i64 0, .int .i64 0] 24)) at hC
                generalize w2.alloc (.cells #[.int .i64 0, .int .i64 0] 24) = W at *
                generalize w2.heap.size = K1 at *
                have hC' : Has w ([(K1, [.int .i64 0, .int .i64 0]), (K2, [.int .i64 0, .int .i64 0])] ++ [(V, [.int .i64 x, .int .i64 y]), (T23, [.int .i64 p4, .int .i64 p5, .int .i64 q0, .int .i64 q1]), (E, [.int .i64 p0, .int .i64 p1]), (F, [.int .i64 p2, .int .i64 p3]), (G, [.int .i64 p4, .int .i64 p5]), (B, [.int .i64 s0, .int .i64 s1, .int .i64 s2, .int .i64 s3, .int .i64 s4, .int .i64 s5]), (A, [.int .i64 p0, .int .i64 p1, .int .i64 p2, .int .i64 p3, .int .i64 p4, .int .i64 p5])]) W := hC
                refine hK.out _ _ (ms1.out _ (hC.tail.tail)) (fun _ => ?_)
                exact wpAnyH_cast rfl (by kernel_rfl) (by kernel_rfl) (ih ⟨some K1, some K2, pc, 2⟩ _ (by simp only [Option.isSome, Bool.false_eq_true, if_false, if_true]; omega) ⟨by simp, hC⟩)
          | some K1 =>
            cases pb with
            | none =>
              simp only [Option.isSome, Bool.false_eq_true, if_false, if_true] at hk
              simp only [putc, putp, Act.put, decide_eq_true_eq, decide_true, decide_false, Nat.le_refl, Nat.reduceLeDiff, List.setIfInBounds_toArray, List.set_cons_zero, List.set_cons_succ]
              refine wpAnyH_listed #[true, true, true, true, true, true, true, true, true, true, true, true, true, true, true, false, false, false] (by kernel_rfl) ?_
              refine wpAnyH_ready (rs := [15]) (by kernel_rfl) (by simp) ?_
              refine AllReadyH.cons (o := ⟨some 12, Op.alloc 24, 0, _, _, none⟩) rfl (fun K hK => ?_) (AllReadyH.nil)
              · go_simp
                have hC := (hH.push [.int .i64 0, .int .i64 0] 24).swap
                change Has w _ (w2.alloc (.cells #[.int .i64 0, .int .i64 0] 24)) at hC
                generalize w2.alloc (.cells #[.int .i64 0, .int .i64 0] 24) = W at *
                generalize w2.heap.size = K2 at *
                have hC' : Has w ([(K1, [.int .i64 0, .int .i64 0]), (K2, [.int .i64 0, .int .i64 0])] ++ [(V, [.int .i64 x, .int .i64 y]), (T23, [.int .i64 p4, .int .i64 p5, .int .i64 q0, .int .i64 q1]), (E, [.int .i64 p0, .int .i64 p1]), (F, [.int .i64 p2, .int .i64 p3]), (G, [.int .i64 p4, .int .i64 p5]), (B, [.int .i64 s0, .int .i64 s1, .int .i64 s2, .int .i64 s3, .int .i64 s4, .int .i64 s5]), (A, [.int .i64 p0, .int .i64 p1, .int .i64 p2, .int .i64 p3, .int .i64 p4, .int .i64 p5])]) W := hC
                refine hK.out _ _ (ms1.out _ (hC.tail.tail)) (fun _ => ?_)
                exact wpAnyH_cast rfl (by kernel_rfl) (by kernel_rfl) (ih ⟨some K1, some K2, pc, 2⟩ _ (by simp only [Option.isSome, Bool.false_eq_true, if_false, if_true]; omega) ⟨by simp, hC⟩)
            | some K2 =>
              exact absurd hk (by simp)
      rintro ⟨pa, pb, pc, c⟩ w2 hk ⟨hc, hH⟩
      obtain ⟨K1, K2, rfl, rfl, rfl⟩ : ∃ K1 K2, pa = some K1 ∧ pb = some K2 ∧ c = 2 := by
        cases pa <;> cases pb <;> simp only [Option.isSome, Bool.false_eq_true, if_false, if_true] at hk <;> simp only at hc <;> first | exact ⟨_, _, rfl, rfl, by omega⟩ | omega
      simp only [putc, putp, Act.put, decide_eq_true_eq, decide_true, decide_false, Nat.le_refl, Nat.reduceLeDiff, List.setIfInBounds_toArray, List.set_cons_zero, List.set_cons_succ]
      have XA := hH
      change Has w [(K1, [.int .i64 0, .int .i64 0]), (K2, [.int .i64 0, .int .i64 0]), (V, [.int .i64 x, .int .i64 y]), (T23, [.int .i64 p4, .int .i64 p5, .int .i64 q0, .int .i64 q1]), (E, [.int .i64 p0, .int .i64 p1]), (F, [.int .i64 p2, .int .i64 p3]), (G, [.int .i64 p4, .int .i64 p5]), (B, [.int .i64 s0, .int .i64 s1, .int .i64 s2, .int .i64 s3, .int .i64 s4, .int .i64 s5]), (A, [.int .i64 p0, .int .i64 p1, .int .i64 p2, .int .i64 p3, .int .i64 p4, .int .i64 p5])] w2 at XA
      clear hH hk hc
      refine wpAnyH_listed #[true, true, true, true, true, true, true, true, true, true, true, true, true, true, true, true, false, false] (by kernel_rfl) ?_
      refine wpAnyH_ready (rs := [16]) (by kernel_rfl) (by simp) ?_
      refine AllReadyH.cons (o := ⟨none, Op.store 24 (Operand.tmp 11) (Operand.tmp 66), 0, _, _, none⟩) rfl (fun K hK => ?_) AllReadyH.nil
      have k0 := XA.fact (.head _) (i := 0) rfl
      have k1 := XA.fact (.head _) (i := 1) rfl
      have f0 := XA.free (.head _) (i := 0) rfl
      have f1 := XA.free (.head _) (i := 1) rfl
      go_simp
      have XA0 : Has w [(K1, [.int .i64 (p0.tmod 9), .int .i64 (p1.tmod 9)]), (K2, [.int .i64 0, .int .i64 0]), (V, [.int .i64 x, .int .i64 y]), (T23, [.int .i64 p4, .int .i64 p5, .int .i64 q0, .int .i64 q1]), (E, [.int .i64 p0, .int .i64 p1]), (F, [.int .i64 p2, .int .i64 p3]), (G, [.int .i64 p4, .int .i64 p5]), (B, [.int .i64 s0, .int .i64 s1, .int .i64 s2, .int .i64 s3, .int .i64 s4, .int .i64 s5]), (A, [.int .i64 p0, .int .i64 p1, .int .i64 p2, .int .i64 p3, .int .i64 p4, .int .i64 p5])] (World.setCell (World.setCell w2 ⟨K1, 0, none⟩ (.int .i64 (p0.tmod 9))) ⟨K1, 1, none⟩ (.int .i64 (p1.tmod 9))) := (XA.set2 (.int .i64 (p0.tmod 9)) (.int .i64 (p1.tmod 9)))
      generalize (World.setCell (World.setCell w2 ⟨K1, 0, none⟩ (.int .i64 (p0.tmod 9))) ⟨K1, 1, none⟩ (.int .i64 (p1.tmod 9))) = wA0 at *
      clear k0 f0 k1 f1 XA
      clear hHeld
      refine hK.out _ _ (ms1.out _ XA0.tail.tail) (fun hHeld => ?_)
      clear hK K
      try simp only [List.setIfInBounds_toArray, List.set_cons_zero, List.set_cons_succ]
      refine wpAnyH_listed #[true, true, true, true, true, true, true, true, true, true, true, true, true, true, true, true, true, false] (by kernel_rfl) ?_
      refine wpAnyH_ready (rs := [17]) (by kernel_rfl) (by simp) ?_
      refine AllReadyH.cons (o := ⟨none, Op.store 24 (Operand.tmp 12) (Operand.tmp 73), 0, _, _, none⟩) rfl (fun K hK => ?_) AllReadyH.nil
      have k0 := XA0.tail.fact (.head _) (i := 0) rfl
      have k1 := XA0.tail.fact (.head _) (i := 1) rfl
      have f0 := XA0.tail.free (.head _) (i := 0) rfl
      have f1 := XA0.tail.free (.head _) (i := 1) rfl
      go_simp
      have C7 : Has w [(K1, [.int .i64 (p0.tmod 9), .int .i64 (p1.tmod 9)]), (K2, [.int .i64 (p2.tmod 9), .int .i64 (p3.tmod 9)]), (V, [.int .i64 x, .int .i64 y]), (T23, [.int .i64 p4, .int .i64 p5, .int .i64 q0, .int .i64 q1]), (E, [.int .i64 p0, .int .i64 p1]), (F, [.int .i64 p2, .int .i64 p3]), (G, [.int .i64 p4, .int .i64 p5]), (B, [.int .i64 s0, .int .i64 s1, .int .i64 s2, .int .i64 s3, .int .i64 s4, .int .i64 s5]), (A, [.int .i64 p0, .int .i64 p1, .int .i64 p2, .int .i64 p3, .int .i64 p4, .int .i64 p5])] (World.setCell (World.setCell wA0 ⟨K2, 0, none⟩ (.int .i64 (p2.tmod 9))) ⟨K2, 1, none⟩ (.int .i64 (p3.tmod 9))) := (XA0.swap.set2 (.int .i64 (p2.tmod 9)) (.int .i64 (p3.tmod 9))).swap
      generalize (World.setCell (World.setCell wA0 ⟨K2, 0, none⟩ (.int .i64 (p2.tmod 9))) ⟨K2, 1, none⟩ (.int .i64 (p3.tmod 9))) = w7 at *
      clear k0 f0 k1 f1 XA0
      clear hHeld
      refine hK.out _ _ (ms1.out _ C7.tail.tail) (fun hHeld => ?_)
      clear hK K
      try simp only [List.setIfInBounds_toArray, List.set_cons_zero, List.set_cons_succ]
      refine wpAnyH_listed #[true, true, true, true, true, true, true, true, true, true, true, true, true, true, true, true, true, true] (by kernel_rfl) ?_
      refine wpAnyH_done (by kernel_rfl) ?_ _
      try clear hHeld
      clear X0 ms1
      have bm0 : (-9223372036854775808 ≤ (p0.tmod 9) ∧ (p0.tmod 9) ≤ 9223372036854775807) := tmod_i64 p0 9 (by omega)
      have bm1 : (-9223372036854775808 ≤ (p1.tmod 9) ∧ (p1.tmod 9) ≤ 9223372036854775807) := tmod_i64 p1 9 (by omega)
      have bm2 : (-9223372036854775808 ≤ (p2.tmod 9) ∧ (p2.tmod 9) ≤ 9223372036854775807) := tmod_i64 p2 9 (by omega)
      have bm3 : (-9223372036854775808 ≤ (p3.tmod 9) ∧ (p3.tmod 9) ≤ 9223372036854775807) := tmod_i64 p3 9 (by omega)
      generalize p0.tmod 9 = m0 at *
      generalize p1.tmod 9 = m1 at *
      generalize p2.tmod 9 = m2 at *
      generalize p3.tmod 9 = m3 at *
      obtain ⟨e2, he2⟩ : ∃ e, s2 % 8 = e := ⟨_, rfl⟩
      obtain ⟨e5, he5⟩ : ∃ e, s5 % 8 = e := ⟨_, rfl⟩
      have we2 : bits .and .i64 s2 7 = e2 := (and7 s2).trans he2
      have we5 : bits .and .i64 s5 7 = e5 := (and7 s5).trans he5
      have be2 : 0 ≤ e2 ∧ e2 < 8 := by omega
      have be5 : 0 ≤ e5 ∧ e5 < 8 := by omega
      clear he2 he5
      obtain ⟨n0, hn0⟩ : ∃ n, 1 + e2 = n := ⟨_, rfl⟩
      obtain ⟨n1, hn1⟩ : ∃ n, 1 + e5 = n := ⟨_, rfl⟩
      have bn0 : (-9223372036854775808 ≤ n0 ∧ n0 ≤ 9223372036854775807) := by omega
      have bn1 : (-9223372036854775808 ≤ n1 ∧ n1 ≤ 9223372036854775807) := by omega
      have wn0 : IntKind.i64.wrap (1 + e2) = n0 := by rw [hn0]; exact IntWalk.i64_in _ bn0
      have wn1 : IntKind.i64.wrap (1 + e5) = n1 := by rw [hn1]; exact IntWalk.i64_in _ bn1
      clear hn0 hn1
      go_upto_region 9 with fail
      have X0 := C7.drew
      clear C7
      have ms2 := Lib.hid (show ∀ w', Has w [(K1, [.int .i64 m0, .int .i64 m1]), (K2, [.int .i64 m2, .int .i64 m3]), (V, [.int .i64 x, .int .i64 y]), (T23, [.int .i64 p4, .int .i64 p5, .int .i64 q0, .int .i64 q1]), (E, [.int .i64 p0, .int .i64 p1]), (F, [.int .i64 p2, .int .i64 p3]), (G, [.int .i64 p4, .int .i64 p5]), (B, [.int .i64 s0, .int .i64 s1, .int .i64 s2, .int .i64 s3, .int .i64 s4, .int .i64 s5]), (A, [.int .i64 p0, .int .i64 p1, .int .i64 p2, .int .i64 p3, .int .i64 p4, .int .i64 p5])] w' → (w'.cell? ⟨K1, 0, none⟩ = some (.int .i64 m0) ∧ w'.cell? ⟨K1, 1, none⟩ = some (.int .i64 m1) ∧ w'.cell? ⟨K2, 0, none⟩ = some (.int .i64 m2) ∧ w'.cell? ⟨K2, 1, none⟩ = some (.int .i64 m3) ∧ w'.cell? ⟨B, 0, none⟩ = some (.int .i64 s0) ∧ w'.cell? ⟨B, 1, none⟩ = some (.int .i64 s1) ∧ w'.cell? ⟨B, 2, none⟩ = some (.int .i64 s2) ∧ w'.cell? ⟨B, 3, none⟩ = some (.int .i64 s3) ∧ w'.cell? ⟨B, 4, none⟩ = some (.int .i64 s4) ∧ w'.cell? ⟨B, 5, none⟩ = some (.int .i64 s5)) ∧ Has w [(K1, [.int .i64 m0, .int .i64 m1]), (K2, [.int .i64 m2, .int .i64 m3]), (V, [.int .i64 x, .int .i64 y]), (T23, [.int .i64 p4, .int .i64 p5, .int .i64 q0, .int .i64 q1]), (E, [.int .i64 p0, .int .i64 p1]), (F, [.int .i64 p2, .int .i64 p3]), (G, [.int .i64 p4, .int .i64 p5]), (B, [.int .i64 s0, .int .i64 s1, .int .i64 s2, .int .i64 s3, .int .i64 s4, .int .i64 s5]), (A, [.int .i64 p0, .int .i64 p1, .int .i64 p2, .int .i64 p3, .int .i64 p4, .int .i64 p5])] w' from fun w' h => ⟨⟨h.fact (.head _) (i := 0) rfl, h.fact (.head _) (i := 1) rfl, h.tail.fact (.head _) (i := 0) rfl, h.tail.fact (.head _) (i := 1) rfl, h.tail.tail.tail.tail.tail.tail.tail.fact (.head _) (i := 0) rfl, h.tail.tail.tail.tail.tail.tail.tail.fact (.head _) (i := 1) rfl, h.tail.tail.tail.tail.tail.tail.tail.fact (.head _) (i := 2) rfl, h.tail.tail.tail.tail.tail.tail.tail.fact (.head _) (i := 3) rfl, h.tail.tail.tail.tail.tail.tail.tail.fact (.head _) (i := 4) rfl, h.tail.tail.tail.tail.tail.tail.tail.fact (.head _) (i := 5) rfl⟩, h⟩)
      refine wp_region_held_drew (S := (fun w' => (w'.cell? ⟨K1, 0, none⟩ = some (.int .i64 m0) ∧ w'.cell? ⟨K1, 1, none⟩ = some (.int .i64 m1) ∧ w'.cell? ⟨K2, 0, none⟩ = some (.int .i64 m2) ∧ w'.cell? ⟨K2, 1, none⟩ = some (.int .i64 m3) ∧ w'.cell? ⟨B, 0, none⟩ = some (.int .i64 s0) ∧ w'.cell? ⟨B, 1, none⟩ = some (.int .i64 s1) ∧ w'.cell? ⟨B, 2, none⟩ = some (.int .i64 s2) ∧ w'.cell? ⟨B, 3, none⟩ = some (.int .i64 s3) ∧ w'.cell? ⟨B, 4, none⟩ = some (.int .i64 s4) ∧ w'.cell? ⟨B, 5, none⟩ = some (.int .i64 s5)) ∧ Has w [(K1, [.int .i64 m0, .int .i64 m1]), (K2, [.int .i64 m2, .int .i64 m3]), (V, [.int .i64 x, .int .i64 y]), (T23, [.int .i64 p4, .int .i64 p5, .int .i64 q0, .int .i64 q1]), (E, [.int .i64 p0, .int .i64 p1]), (F, [.int .i64 p2, .int .i64 p3]), (G, [.int .i64 p4, .int .i64 p5]), (B, [.int .i64 s0, .int .i64 s1, .int .i64 s2, .int .i64 s3, .int .i64 s4, .int .i64 s5]), (A, [.int .i64 p0, .int .i64 p1, .int .i64 p2, .int .i64 p3, .int .i64 p4, .int .i64 p5])] w')) (by kernel_rfl) (ms2.out _ X0) (fun hHeld => ?_)
      refine wpAnyT_begin [0, 1, 2, 3, 4, 5] (by kernel_rfl) (by kernel_rfl) ?_
      refine wpAnyT_take (oi := ⟨some 74, Op.fieldAddr 24 (Operand.tmp 11) 0, 0, _, _, none⟩) (v := .pointer (some ⟨K1, 0, none⟩)) rfl (fun _ _ _ h => h) (by rfl) (by assumption) (fun wS hSw => ?_) ?_
      · (try dsimp only at hSw); go_simp
      simp only [Act.put, List.setIfInBounds_toArray, List.set_cons_zero, List.set_cons_succ]
      refine wpAnyT_take (oi := ⟨some 75, Op.load 3 (Operand.tmp 74), 3, _, _, none⟩) (v := .int .i64 m0) rfl (fun _ _ _ h => h) (by rfl) (by assumption) (fun wS hSw => ?_) ?_
      · (try dsimp only at hSw); go_simp
      simp only [Act.put, List.setIfInBounds_toArray, List.set_cons_zero, List.set_cons_succ]
      refine wpAnyT_take (oi := ⟨some 76, Op.fieldAddr 24 (Operand.tmp 11) 1, 0, _, _, none⟩) (v := .pointer (some ⟨K1, 1, none⟩)) rfl (fun _ _ _ h => h) (by rfl) (by assumption) (fun wS hSw => ?_) ?_
      · (try dsimp only at hSw); go_simp
      simp only [Act.put, List.setIfInBounds_toArray, List.set_cons_zero, List.set_cons_succ]
      refine wpAnyT_take (oi := ⟨some 77, Op.load 3 (Operand.tmp 76), 3, _, _, none⟩) (v := .int .i64 m1) rfl (fun _ _ _ h => h) (by rfl) (by assumption) (fun wS hSw => ?_) ?_
      · (try dsimp only at hSw); go_simp
      simp only [Act.put, List.setIfInBounds_toArray, List.set_cons_zero, List.set_cons_succ]
      refine wpAnyT_take (oi := ⟨some 78, Op.indexAddr 40 (Operand.tmp 3) (Operand.const (Value.int IntKind.i64 0)), 0, _, _, none⟩) (v := .pointer (some ⟨B, 0, none⟩)) rfl (fun _ _ _ h => h) (by rfl) (by assumption) (fun wS hSw => ?_) ?_
      · (try dsimp only at hSw); go_simp
      simp only [Act.put, List.setIfInBounds_toArray, List.set_cons_zero, List.set_cons_succ]
      refine wpAnyT_take (oi := ⟨some 79, Op.fieldAddr 39 (Operand.tmp 78) 2, 0, _, _, none⟩) (v := .pointer (some ⟨B, 2, none⟩)) rfl (fun _ _ _ h => h) (by rfl) (by assumption) (fun wS hSw => ?_) ?_
      · (try dsimp only at hSw); go_simp
      simp only [Act.put, List.setIfInBounds_toArray, List.set_cons_zero, List.set_cons_succ]
      refine wpAnyT_end ?_
      refine wpAnyH_listed #[true, true, true, true, true, true, false, false, false, false, false, false, false, false, false, false, false, false, false, false, false, false, false, false] (by kernel_rfl) ?_
      refine wpAnyT_begin [6, 7, 8, 9, 10, 11] (by kernel_rfl) (by kernel_rfl) ?_
      refine wpAnyT_take (oi := ⟨some 80, Op.load 3 (Operand.tmp 79), 3, _, _, none⟩) (v := .int .i64 s2) rfl (fun _ _ _ h => h) (by rfl) (by assumption) (fun wS hSw => ?_) ?_
      · (try dsimp only at hSw); go_simp
      simp only [Act.put, List.setIfInBounds_toArray, List.set_cons_zero, List.set_cons_succ]
      refine wpAnyT_take (oi := ⟨some 81, Op.binOp BinOp.and 3 (Operand.tmp 80) (Operand.const (Value.int IntKind.i64 7)) 3, 3, _, _, none⟩) (v := .int .i64 e2) rfl (fun _ _ _ h => h) (by rfl) (by assumption) (fun wS hSw => ?_) ?_
      · (try dsimp only at hSw); go_simp
      simp only [Act.put, List.setIfInBounds_toArray, List.set_cons_zero, List.set_cons_succ]
      refine wpAnyT_take (oi := ⟨some 82, Op.binOp BinOp.add 3 (Operand.const (Value.int IntKind.i64 1)) (Operand.tmp 81) 3, 3, _, _, none⟩) (v := .int .i64 n0) rfl (fun _ _ _ h => h) (by rfl) (by assumption) (fun wS hSw => ?_) ?_
      · (try dsimp only at hSw); go_simp
      simp only [Act.put, List.setIfInBounds_toArray, List.set_cons_zero, List.set_cons_succ]
      refine wpAnyT_take (oi := ⟨some 83, Op.build 39 #[(0, Operand.tmp 75), (1, Operand.tmp 77), (2, Operand.tmp 82)], 39, _, _, none⟩) (v := .agg #[.int .i64 m0, .int .i64 m1, .int .i64 n0]) rfl (fun _ _ _ h => h) (by rfl) (by assumption) (fun wS hSw => ?_) ?_
      · (try dsimp only at hSw); go_simp
      simp only [Act.put, List.setIfInBounds_toArray, List.set_cons_zero, List.set_cons_succ]
      refine wpAnyT_take (oi := ⟨some 84, Op.fieldAddr 24 (Operand.tmp 12) 0, 0, _, _, none⟩) (v := .pointer (some ⟨K2, 0, none⟩)) rfl (fun _ _ _ h => h) (by rfl) (by assumption) (fun wS hSw => ?_) ?_
      · (try dsimp only at hSw); go_simp
      simp only [Act.put, List.setIfInBounds_toArray, List.set_cons_zero, List.set_cons_succ]
      refine wpAnyT_take (oi := ⟨some 85, Op.load 3 (Operand.tmp 84), 3, _, _, none⟩) (v := .int .i64 m2) rfl (fun _ _ _ h => h) (by rfl) (by assumption) (fun wS hSw => ?_) ?_
      · (try dsimp only at hSw); go_simp
      simp only [Act.put, List.setIfInBounds_toArray, List.set_cons_zero, List.set_cons_succ]
      refine wpAnyT_end ?_
      refine wpAnyH_listed #[true, true, true, true, true, true, true, true, true, true, true, true, false, false, false, false, false, false, false, false, false, false, false, false] (by kernel_rfl) ?_
      refine wpAnyT_begin [12, 13, 14, 15, 16, 17] (by kernel_rfl) (by kernel_rfl) ?_
      refine wpAnyT_take (oi := ⟨some 86, Op.fieldAddr 24 (Operand.tmp 12) 1, 0, _, _, none⟩) (v := .pointer (some ⟨K2, 1, none⟩)) rfl (fun _ _ _ h => h) (by rfl) (by assumption) (fun wS hSw => ?_) ?_
      · (try dsimp only at hSw); go_simp
      simp only [Act.put, List.setIfInBounds_toArray, List.set_cons_zero, List.set_cons_succ]
      refine wpAnyT_take (oi := ⟨some 87, Op.load 3 (Operand.tmp 86), 3, _, _, none⟩) (v := .int .i64 m3) rfl (fun _ _ _ h => h) (by rfl) (by assumption) (fun wS hSw => ?_) ?_
      · (try dsimp only at hSw); go_simp
      simp only [Act.put, List.setIfInBounds_toArray, List.set_cons_zero, List.set_cons_succ]
      refine wpAnyT_take (oi := ⟨some 88, Op.indexAddr 40 (Operand.tmp 3) (Operand.const (Value.int IntKind.i64 1)), 0, _, _, none⟩) (v := .pointer (some ⟨B, 3, none⟩)) rfl (fun _ _ _ h => h) (by rfl) (by assumption) (fun wS hSw => ?_) ?_
      · (try dsimp only at hSw); go_simp
      simp only [Act.put, List.setIfInBounds_toArray, List.set_cons_zero, List.set_cons_succ]
      refine wpAnyT_take (oi := ⟨some 89, Op.fieldAddr 39 (Operand.tmp 88) 2, 0, _, _, none⟩) (v := .pointer (some ⟨B, 5, none⟩)) rfl (fun _ _ _ h => h) (by rfl) (by assumption) (fun wS hSw => ?_) ?_
      · (try dsimp only at hSw); go_simp
      simp only [Act.put, List.setIfInBounds_toArray, List.set_cons_zero, List.set_cons_succ]
      refine wpAnyT_take (oi := ⟨some 90, Op.load 3 (Operand.tmp 89), 3, _, _, none⟩) (v := .int .i64 s5) rfl (fun _ _ _ h => h) (by rfl) (by assumption) (fun wS hSw => ?_) ?_
      · (try dsimp only at hSw); go_simp
      simp only [Act.put, List.setIfInBounds_toArray, List.set_cons_zero, List.set_cons_succ]
      refine wpAnyT_take (oi := ⟨some 91, Op.binOp BinOp.and 3 (Operand.tmp 90) (Operand.const (Value.int IntKind.i64 7)) 3, 3, _, _, none⟩) (v := .int .i64 e5) rfl (fun _ _ _ h => h) (by rfl) (by assumption) (fun wS hSw => ?_) ?_
      · (try dsimp only at hSw); go_simp
      simp only [Act.put, List.setIfInBounds_toArray, List.set_cons_zero, List.set_cons_succ]
      refine wpAnyT_end ?_
      refine wpAnyH_listed #[true, true, true, true, true, true, true, true, true, true, true, true, true, true, true, true, true, true, false, false, false, false, false, false] (by kernel_rfl) ?_
      refine wpAnyT_begin [18, 19] (by kernel_rfl) (by kernel_rfl) ?_
      refine wpAnyT_take (oi := ⟨some 92, Op.binOp BinOp.add 3 (Operand.const (Value.int IntKind.i64 1)) (Operand.tmp 91) 3, 3, _, _, none⟩) (v := .int .i64 n1) rfl (fun _ _ _ h => h) (by rfl) (by assumption) (fun wS hSw => ?_) ?_
      · (try dsimp only at hSw); go_simp
      simp only [Act.put, List.setIfInBounds_toArray, List.set_cons_zero, List.set_cons_succ]
      refine wpAnyT_take (oi := ⟨some 93, Op.build 39 #[(0, Operand.tmp 85), (1, Operand.tmp 87), (2, Operand.tmp 92)], 39, _, _, none⟩) (v := .agg #[.int .i64 m2, .int .i64 m3, .int .i64 n1]) rfl (fun _ _ _ h => h) (by rfl) (by assumption) (fun wS hSw => ?_) ?_
      · (try dsimp only at hSw); go_simp
      simp only [Act.put, List.setIfInBounds_toArray, List.set_cons_zero, List.set_cons_succ]
      refine wpAnyT_end ?_
      refine wpAnyH_listed #[true, true, true, true, true, true, true, true, true, true, true, true, true, true, true, true, true, true, true, true, false, false, false, false] (by kernel_rfl) ?_
      refine any_ind (X := Sta) (n := fun sx => (0 - sx.n) + (if sx.a.isSome then 0 else 1) + (if sx.b.isSome then 0 else 1)) (l := fun sx => #[true, true, true, true, true, true, true, true, true, true, true, true, true, true, true, true, true, true, true, true, sx.a.isSome, sx.b.isSome, false, false]) (u := fun sx t => (putp 13 sx.a (putp 14 sx.b t))) (I := fun sx w' => sx.n ≤ 0 ∧ Has w (bl [.int .i64 0, .int .i64 0, .int .i64 0] sx.a (bl [.int .i64 0, .int .i64 0, .int .i64 0] sx.b [(K1, [.int .i64 m0, .int .i64 m1]), (K2, [.int .i64 m2, .int .i64 m3]), (V, [.int .i64 x, .int .i64 y]), (T23, [.int .i64 p4, .int .i64 p5, .int .i64 q0, .int .i64 q1]), (E, [.int .i64 p0, .int .i64 p1]), (F, [.int .i64 p2, .int .i64 p3]), (G, [.int .i64 p4, .int .i64 p5]), (B, [.int .i64 s0, .int .i64 s1, .int .i64 s2, .int .i64 s3, .int .i64 s4, .int .i64 s5]), (A, [.int .i64 p0, .int .i64 p1, .int .i64 p2, .int .i64 p3, .int .i64 p4, .int .i64 p5])])) w') (m := 2) ⟨none, none, none, 0⟩ (by kernel_rfl) (by kernel_rfl) (by kernel_rfl) ⟨Nat.zero_le _, X0⟩ ?_ ?_
      · rintro k ih ⟨pa, pb, pc, c⟩ w2 hk ⟨hc, hH⟩
        clear hHeld
        obtain rfl : c = 0 := by simp only at hc; omega
        · cases pa with
          | none =>
            cases pb with
            | none =>
              simp only [Option.isSome, Bool.false_eq_true, if_false, if_true] at hk
              simp only [putc, putp, Act.put, decide_eq_true_eq, decide_true, decide_false, Nat.le_refl, Nat.reduceLeDiff, List.setIfInBounds_toArray, List.set_cons_zero, List.set_cons_succ]
              refine wpAnyH_listed #[true, true, true, true, true, true, true, true, true, true, true, true, true, true, true, true, true, true, true, true, false, false, false, false] (by kernel_rfl) ?_
              refine wpAnyH_ready (rs := [20, 21]) (by kernel_rfl) (by simp) ?_
              refine AllReadyH.cons (o := ⟨some 13, Op.alloc 39, 0, _, _, none⟩) rfl (fun K hK => ?_) (?_)
              · go_simp
                have hC := (hH.push [.int .i64 0, .int .i64 0, .int .i64 0] 39)
                change Has w _ (w2.alloc (.cells #[.int .i64 0, .int .i64 0, .int .i64 0] 39)) at hC
                generalize w2.alloc (.cells #[.int .i64 0, .int .i64 0, .int .i64 0] 39) = W at *
                generalize w2.heap.size = L1 at *
                have hC' : Has w ([(L1, [.int .i64 0, .int .i64 0, .int .i64 0])] ++ [(K1, [.int .i64 m0, .int .i64 m1]), (K2, [.int .i64 m2, .int .i64 m3]), (V, [.int .i64 x, .int .i64 y]), (T23, [.int .i64 p4, .int .i64 p5, .int .i64 q0, .int .i64 q1]), (E, [.int .i64 p0, .int .i64 p1]), (F, [.int .i64 p2, .int .i64 p3]), (G, [.int .i64 p4, .int .i64 p5]), (B, [.int .i64 s0, .int .i64 s1, .int .i64 s2, .int .i64 s3, .int .i64 s4, .int .i64 s5]), (A, [.int .i64 p0, .int .i64 p1, .int .i64 p2, .int .i64 p3, .int .i64 p4, .int .i64 p5])]) W := hC
                refine hK.out _ _ (ms2.out _ (hC.tail)) (fun _ => ?_)
                exact wpAnyH_cast rfl (by kernel_rfl) (by kernel_rfl) (ih ⟨some L1, none, pc, 0⟩ _ (by simp only [Option.isSome, Bool.false_eq_true, if_false, if_true]; omega) ⟨by simp, hC⟩)
              refine AllReadyH.cons (o := ⟨some 14, Op.alloc 39, 0, _, _, none⟩) rfl (fun K hK => ?_) (AllReadyH.nil)
              · go_simp
                have hC := (hH.push [.int .i64 0, .int .i64 0, .int .i64 0] 39)
                change Has w _ (w2.alloc (.cells #[.int .i64 0, .int .i64 0, .int .i64 0] 39)) at hC
                generalize w2.alloc (.cells #[.int .i64 0, .int .i64 0, .int .i64 0] 39) = W at *
                generalize w2.heap.size = L2 at *
                have hC' : Has w ([(L2, [.int .i64 0, .int .i64 0, .int .i64 0])] ++ [(K1, [.int .i64 m0, .int .i64 m1]), (K2, [.int .i64 m2, .int .i64 m3]), (V, [.int .i64 x, .int .i64 y]), (T23, [.int .i64 p4, .int .i64 p5, .int .i64 q0, .int .i64 q1]), (E, [.int .i64 p0, .int .i64 p1]), (F, [.int .i64 p2, .int .i64 p3]), (G, [.int .i64 p4, .int .i64 p5]), (B, [.int .i64 s0, .int .i64 s1, .int .i64 s2, .int .i64 s3, .int .i64 s4, .int .i64 s5]), (A, [.int .i64 p0, .int .i64 p1, .int .i64 p2, .int .i64 p3, .int .i64 p4, .int .i64 p5])]) W := hC
                refine hK.out _ _ (ms2.out _ (hC.tail)) (fun _ => ?_)
                exact wpAnyH_cast rfl (by kernel_rfl) (by kernel_rfl) (ih ⟨none, some L2, pc, 0⟩ _ (by simp only [Option.isSome, Bool.false_eq_true, if_false, if_true]; omega) ⟨by simp, hC⟩)
            | some L2 =>
              simp only [Option.isSome, Bool.false_eq_true, if_false, if_true] at hk
              simp only [putc, putp, Act.put, decide_eq_true_eq, decide_true, decide_false, Nat.le_refl, Nat.reduceLeDiff, List.setIfInBounds_toArray, List.set_cons_zero, List.set_cons_succ]
              refine wpAnyH_listed #[true, true, true, true, true, true, true, true, true, true, true, true, true, true, true, true, true, true, true, true, false, true, false, false] (by kernel_rfl) ?_
              refine wpAnyH_ready (rs := [20]) (by kernel_rfl) (by simp) ?_
              refine AllReadyH.cons (o := ⟨some 13, Op.alloc 39, 0, _, _, none⟩) rfl (fun K hK => ?_) (AllReadyH.nil)
              · go_simp
                have hC := (hH.push [.int .i64 0, .int .i64 0, .int .i64 0] 39)
                change Has w _ (w2.alloc (.cells #[.int .i64 0, .int .i64 0, .int .i64 0] 39)) at hC
                generalize w2.alloc (.cells #[.int .i64 0, .int .i64 0, .int .i64 0] 39) = W at *
                generalize w2.heap.size = L1 at *
                have hC' : Has w ([(L1, [.int .i64 0, .int .i64 0, .int .i64 0]), (L2, [.int .i64 0, .int .i64 0, .int .i64 0])] ++ [(K1, [.int .i64 m0, .int .i64 m1]), (K2, [.int .i64 m2, .int .i64 m3]), (V, [.int .i64 x, .int .i64 y]), (T23, [.int .i64 p4, .int .i64 p5, .int .i64 q0, .int .i64 q1]), (E, [.int .i64 p0, .int .i64 p1]), (F, [.int .i64 p2, .int .i64 p3]), (G, [.int .i64 p4, .int .i64 p5]), (B, [.int .i64 s0, .int .i64 s1, .int .i64 s2, .int .i64 s3, .int .i64 s4, .int .i64 s5]), (A, [.int .i64 p0, .int .i64 p1, .int .i64 p2, .int .i64 p3, .int .i64 p4, .int .i64 p5])]) W := hC
                refine hK.out _ _ (ms2.out _ (hC.tail.tail)) (fun _ => ?_)
                exact wpAnyH_cast rfl (by kernel_rfl) (by kernel_rfl) (ih ⟨some L1, some L2, pc, 0⟩ _ (by simp only [Option.isSome, Bool.false_eq_true, if_false, if_true]; omega) ⟨by simp, hC⟩)
          | some L1 =>
            cases pb with
            | none =>
              simp only [Option.isSome, Bool.false_eq_true, if_false, if_true] at hk
              simp only [putc, putp, Act.put, decide_eq_true_eq, decide_true, decide_false, Nat.le_refl, Nat.reduceLeDiff, List.setIfInBounds_toArray, List.set_cons_zero, List.set_cons_succ]
              refine wpAnyH_listed #[true, true, true, true, true, true, true, true, true, true, true, true, true, true, true, true, true, true, true, true, true, false, false, false] (by kernel_rfl) ?_
              refine wpAnyH_ready (rs := [21]) (by kernel_rfl) (by simp) ?_
              refine AllReadyH.cons (o := ⟨some 14, Op.alloc 39, 0, _, _, none⟩) rfl (fun K hK => ?_) (AllReadyH.nil)
              · go_simp
                have hC := (hH.push [.int .i64 0, .int .i64 0, .int .i64 0] 39).swap
                change Has w _ (w2.alloc (.cells #[.int .i64 0, .int .i64 0, .int .i64 0] 39)) at hC
                generalize w2.alloc (.cells #[.int .i64 0, .int .i64 0, .int .i64 0] 39) = W at *
                generalize w2.heap.size = L2 at *
                have hC' : Has w ([(L1, [.int .i64 0, .int .i64 0, .int .i64 0]), (L2, [.int .i64 0, .int .i64 0, .int .i64 0])] ++ [(K1, [.int .i64 m0, .int .i64 m1]), (K2, [.int .i64 m2, .int .i64 m3]), (V, [.int .i64 x, .int .i64 y]), (T23, [.int .i64 p4, .int .i64 p5, .int .i64 q0, .int .i64 q1]), (E, [.int .i64 p0, .int .i64 p1]), (F, [.int .i64 p2, .int .i64 p3]), (G, [.int .i64 p4, .int .i64 p5]), (B, [.int .i64 s0, .int .i64 s1, .int .i64 s2, .int .i64 s3, .int .i64 s4, .int .i64 s5]), (A, [.int .i64 p0, .int .i64 p1, .int .i64 p2, .int .i64 p3, .int .i64 p4, .int .i64 p5])]) W := hC
                refine hK.out _ _ (ms2.out _ (hC.tail.tail)) (fun _ => ?_)
                exact wpAnyH_cast rfl (by kernel_rfl) (by kernel_rfl) (ih ⟨some L1, some L2, pc, 0⟩ _ (by simp only [Option.isSome, Bool.false_eq_true, if_false, if_true]; omega) ⟨by simp, hC⟩)
            | some L2 =>
              exact absurd hk (by simp)
      rintro ⟨pa, pb, pc, c⟩ w2 hk ⟨hc, hH⟩
      obtain ⟨L1, L2, rfl, rfl, rfl⟩ : ∃ L1 L2, pa = some L1 ∧ pb = some L2 ∧ c = 0 := by
        cases pa <;> cases pb <;> simp only [Option.isSome, Bool.false_eq_true, if_false, if_true] at hk <;> simp only at hc <;> first | exact ⟨_, _, rfl, rfl, by omega⟩ | omega
      simp only [putc, putp, Act.put, decide_eq_true_eq, decide_true, decide_false, Nat.le_refl, Nat.reduceLeDiff, List.setIfInBounds_toArray, List.set_cons_zero, List.set_cons_succ]
      have XA := hH
      change Has w [(L1, [.int .i64 0, .int .i64 0, .int .i64 0]), (L2, [.int .i64 0, .int .i64 0, .int .i64 0]), (K1, [.int .i64 m0, .int .i64 m1]), (K2, [.int .i64 m2, .int .i64 m3]), (V, [.int .i64 x, .int .i64 y]), (T23, [.int .i64 p4, .int .i64 p5, .int .i64 q0, .int .i64 q1]), (E, [.int .i64 p0, .int .i64 p1]), (F, [.int .i64 p2, .int .i64 p3]), (G, [.int .i64 p4, .int .i64 p5]), (B, [.int .i64 s0, .int .i64 s1, .int .i64 s2, .int .i64 s3, .int .i64 s4, .int .i64 s5]), (A, [.int .i64 p0, .int .i64 p1, .int .i64 p2, .int .i64 p3, .int .i64 p4, .int .i64 p5])] w2 at XA
      clear hH hk hc
      refine wpAnyH_listed #[true, true, true, true, true, true, true, true, true, true, true, true, true, true, true, true, true, true, true, true, true, true, false, false] (by kernel_rfl) ?_
      refine wpAnyH_ready (rs := [22]) (by kernel_rfl) (by simp) ?_
      refine AllReadyH.cons (o := ⟨none, Op.store 39 (Operand.tmp 13) (Operand.tmp 83), 0, _, _, none⟩) rfl (fun K hK => ?_) AllReadyH.nil
      have k0 := XA.fact (.head _) (i := 0) rfl
      have k1 := XA.fact (.head _) (i := 1) rfl
      have k2 := XA.fact (.head _) (i := 2) rfl
      have f0 := XA.free (.head _) (i := 0) rfl
      have f1 := XA.free (.head _) (i := 1) rfl
      have f2 := XA.free (.head _) (i := 2) rfl
      go_simp
      have XA0 : Has w [(L1, [.int .i64 m0, .int .i64 m1, .int .i64 n0]), (L2, [.int .i64 0, .int .i64 0, .int .i64 0]), (K1, [.int .i64 m0, .int .i64 m1]), (K2, [.int .i64 m2, .int .i64 m3]), (V, [.int .i64 x, .int .i64 y]), (T23, [.int .i64 p4, .int .i64 p5, .int .i64 q0, .int .i64 q1]), (E, [.int .i64 p0, .int .i64 p1]), (F, [.int .i64 p2, .int .i64 p3]), (G, [.int .i64 p4, .int .i64 p5]), (B, [.int .i64 s0, .int .i64 s1, .int .i64 s2, .int .i64 s3, .int .i64 s4, .int .i64 s5]), (A, [.int .i64 p0, .int .i64 p1, .int .i64 p2, .int .i64 p3, .int .i64 p4, .int .i64 p5])] (World.setCell (World.setCell (World.setCell w2 ⟨L1, 0, none⟩ (.int .i64 m0)) ⟨L1, 1, none⟩ (.int .i64 m1)) ⟨L1, 2, none⟩ (.int .i64 n0)) := (XA.set3 (.int .i64 m0) (.int .i64 m1) (.int .i64 n0))
      generalize (World.setCell (World.setCell (World.setCell w2 ⟨L1, 0, none⟩ (.int .i64 m0)) ⟨L1, 1, none⟩ (.int .i64 m1)) ⟨L1, 2, none⟩ (.int .i64 n0)) = wA0 at *
      clear k0 f0 k1 f1 k2 f2 XA
      clear hHeld
      refine hK.out _ _ (ms2.out _ XA0.tail.tail) (fun hHeld => ?_)
      clear hK K
      try simp only [List.setIfInBounds_toArray, List.set_cons_zero, List.set_cons_succ]
      refine wpAnyH_listed #[true, true, true, true, true, true, true, true, true, true, true, true, true, true, true, true, true, true, true, true, true, true, true, false] (by kernel_rfl) ?_
      refine wpAnyH_ready (rs := [23]) (by kernel_rfl) (by simp) ?_
      refine AllReadyH.cons (o := ⟨none, Op.store 39 (Operand.tmp 14) (Operand.tmp 93), 0, _, _, none⟩) rfl (fun K hK => ?_) AllReadyH.nil
      have k0 := XA0.tail.fact (.head _) (i := 0) rfl
      have k1 := XA0.tail.fact (.head _) (i := 1) rfl
      have k2 := XA0.tail.fact (.head _) (i := 2) rfl
      have f0 := XA0.tail.free (.head _) (i := 0) rfl
      have f1 := XA0.tail.free (.head _) (i := 1) rfl
      have f2 := XA0.tail.free (.head _) (i := 2) rfl
      go_simp
      have C9 : Has w [(L1, [.int .i64 m0, .int .i64 m1, .int .i64 n0]), (L2, [.int .i64 m2, .int .i64 m3, .int .i64 n1]), (K1, [.int .i64 m0, .int .i64 m1]), (K2, [.int .i64 m2, .int .i64 m3]), (V, [.int .i64 x, .int .i64 y]), (T23, [.int .i64 p4, .int .i64 p5, .int .i64 q0, .int .i64 q1]), (E, [.int .i64 p0, .int .i64 p1]), (F, [.int .i64 p2, .int .i64 p3]), (G, [.int .i64 p4, .int .i64 p5]), (B, [.int .i64 s0, .int .i64 s1, .int .i64 s2, .int .i64 s3, .int .i64 s4, .int .i64 s5]), (A, [.int .i64 p0, .int .i64 p1, .int .i64 p2, .int .i64 p3, .int .i64 p4, .int .i64 p5])] (World.setCell (World.setCell (World.setCell wA0 ⟨L2, 0, none⟩ (.int .i64 m2)) ⟨L2, 1, none⟩ (.int .i64 m3)) ⟨L2, 2, none⟩ (.int .i64 n1)) := (XA0.swap.set3 (.int .i64 m2) (.int .i64 m3) (.int .i64 n1)).swap
      generalize (World.setCell (World.setCell (World.setCell wA0 ⟨L2, 0, none⟩ (.int .i64 m2)) ⟨L2, 1, none⟩ (.int .i64 m3)) ⟨L2, 2, none⟩ (.int .i64 n1)) = w9 at *
      clear k0 f0 k1 f1 k2 f2 XA0
      clear hHeld
      refine hK.out _ _ (ms2.out _ C9.tail.tail) (fun hHeld => ?_)
      clear hK K
      try simp only [List.setIfInBounds_toArray, List.set_cons_zero, List.set_cons_succ]
      refine wpAnyH_listed #[true, true, true, true, true, true, true, true, true, true, true, true, true, true, true, true, true, true, true, true, true, true, true, true] (by kernel_rfl) ?_
      refine wpAnyH_done (by kernel_rfl) ?_ _
      try clear hHeld
      clear X0 ms2
      obtain ⟨z3, hz3⟩ : ∃ z, rayOf m0 m1 m2 m3 x y = z := ⟨_, rfl⟩
      obtain ⟨z4, hz4⟩ : ∃ z, rayS m0 m1 n0 m2 m3 n1 x y = z := ⟨_, rfl⟩
      have HZ := Lib.hid hz3
      have HY := Lib.hid hz4
      clear hz3 hz4
      go_upto_region 10 with fail
      have HS61 := Lib.hid (show ∀ w', Has w [(L1, [.int .i64 m0, .int .i64 m1, .int .i64 n0]), (L2, [.int .i64 m2, .int .i64 m3, .int .i64 n1]), (K1, [.int .i64 m0, .int .i64 m1]), (K2, [.int .i64 m2, .int .i64 m3]), (V, [.int .i64 x, .int .i64 y]), (T23, [.int .i64 p4, .int .i64 p5, .int .i64 q0, .int .i64 q1]), (E, [.int .i64 p0, .int .i64 p1]), (F, [.int .i64 p2, .int .i64 p3]), (G, [.int .i64 p4, .int .i64 p5]), (B, [.int .i64 s0, .int .i64 s1, .int .i64 s2, .int .i64 s3, .int .i64 s4, .int .i64 s5]), (A, [.int .i64 p0, .int .i64 p1, .int .i64 p2, .int .i64 p3, .int .i64 p4, .int .i64 p5])] w' → (w'.cell? ⟨L1, 0, none⟩ = some (.int .i64 m0) ∧ w'.cell? ⟨L1, 1, none⟩ = some (.int .i64 m1) ∧ w'.cell? ⟨L1, 2, none⟩ = some (.int .i64 n0) ∧ w'.cell? ⟨L2, 0, none⟩ = some (.int .i64 m2) ∧ w'.cell? ⟨L2, 1, none⟩ = some (.int .i64 m3) ∧ w'.cell? ⟨L2, 2, none⟩ = some (.int .i64 n1) ∧ w'.cell? ⟨K1, 0, none⟩ = some (.int .i64 m0) ∧ w'.cell? ⟨K1, 1, none⟩ = some (.int .i64 m1) ∧ w'.cell? ⟨K2, 0, none⟩ = some (.int .i64 m2) ∧ w'.cell? ⟨K2, 1, none⟩ = some (.int .i64 m3) ∧ w'.cell? ⟨V, 0, none⟩ = some (.int .i64 x) ∧ w'.cell? ⟨V, 1, none⟩ = some (.int .i64 y) ∧ w'.cell? ⟨T23, 0, none⟩ = some (.int .i64 p4) ∧ w'.cell? ⟨T23, 1, none⟩ = some (.int .i64 p5) ∧ w'.cell? ⟨T23, 2, none⟩ = some (.int .i64 q0) ∧ w'.cell? ⟨T23, 3, none⟩ = some (.int .i64 q1) ∧ w'.cell? ⟨E, 0, none⟩ = some (.int .i64 p0) ∧ w'.cell? ⟨E, 1, none⟩ = some (.int .i64 p1) ∧ w'.cell? ⟨F, 0, none⟩ = some (.int .i64 p2) ∧ w'.cell? ⟨F, 1, none⟩ = some (.int .i64 p3) ∧ w'.cell? ⟨G, 0, none⟩ = some (.int .i64 p4) ∧ w'.cell? ⟨G, 1, none⟩ = some (.int .i64 p5) ∧ w'.cell? ⟨B, 0, none⟩ = some (.int .i64 s0) ∧ w'.cell? ⟨B, 1, none⟩ = some (.int .i64 s1) ∧ w'.cell? ⟨B, 2, none⟩ = some (.int .i64 s2) ∧ w'.cell? ⟨B, 3, none⟩ = some (.int .i64 s3) ∧ w'.cell? ⟨B, 4, none⟩ = some (.int .i64 s4) ∧ w'.cell? ⟨B, 5, none⟩ = some (.int .i64 s5) ∧ w'.cell? ⟨A, 0, none⟩ = some (.int .i64 p0) ∧ w'.cell? ⟨A, 1, none⟩ = some (.int .i64 p1) ∧ w'.cell? ⟨A, 2, none⟩ = some (.int .i64 p2) ∧ w'.cell? ⟨A, 3, none⟩ = some (.int .i64 p3) ∧ w'.cell? ⟨A, 4, none⟩ = some (.int .i64 p4) ∧ w'.cell? ⟨A, 5, none⟩ = some (.int .i64 p5)) ∧ Has w [(L1, [.int .i64 m0, .int .i64 m1, .int .i64 n0]), (L2, [.int .i64 m2, .int .i64 m3, .int .i64 n1]), (K1, [.int .i64 m0, .int .i64 m1]), (K2, [.int .i64 m2, .int .i64 m3]), (V, [.int .i64 x, .int .i64 y]), (T23, [.int .i64 p4, .int .i64 p5, .int .i64 q0, .int .i64 q1]), (E, [.int .i64 p0, .int .i64 p1]), (F, [.int .i64 p2, .int .i64 p3]), (G, [.int .i64 p4, .int .i64 p5]), (B, [.int .i64 s0, .int .i64 s1, .int .i64 s2, .int .i64 s3, .int .i64 s4, .int .i64 s5]), (A, [.int .i64 p0, .int .i64 p1, .int .i64 p2, .int .i64 p3, .int .i64 p4, .int .i64 p5])] w' from fun w' h => ⟨⟨h.fact (.head _) (i := 0) rfl, h.fact (.head _) (i := 1) rfl, h.fact (.head _) (i := 2) rfl, h.tail.fact (.head _) (i := 0) rfl, h.tail.fact (.head _) (i := 1) rfl, h.tail.fact (.head _) (i := 2) rfl, h.tail.tail.fact (.head _) (i := 0) rfl, h.tail.tail.fact (.head _) (i := 1) rfl, h.tail.tail.tail.fact (.head _) (i := 0) rfl, h.tail.tail.tail.fact (.head _) (i := 1) rfl, h.tail.tail.tail.tail.fact (.head _) (i := 0) rfl, h.tail.tail.tail.tail.fact (.head _) (i := 1) rfl, h.tail.tail.tail.tail.tail.fact (.head _) (i := 0) rfl, h.tail.tail.tail.tail.tail.fact (.head _) (i := 1) rfl, h.tail.tail.tail.tail.tail.fact (.head _) (i := 2) rfl, h.tail.tail.tail.tail.tail.fact (.head _) (i := 3) rfl, h.tail.tail.tail.tail.tail.tail.fact (.head _) (i := 0) rfl, h.tail.tail.tail.tail.tail.tail.fact (.head _) (i := 1) rfl, h.tail.tail.tail.tail.tail.tail.tail.fact (.head _) (i := 0) rfl, h.tail.tail.tail.tail.tail.tail.tail.fact (.head _) (i := 1) rfl, h.tail.tail.tail.tail.tail.tail.tail.tail.fact (.head _) (i := 0) rfl, h.tail.tail.tail.tail.tail.tail.tail.tail.fact (.head _) (i := 1) rfl, h.tail.tail.tail.tail.tail.tail.tail.tail.tail.fact (.head _) (i := 0) rfl, h.tail.tail.tail.tail.tail.tail.tail.tail.tail.fact (.head _) (i := 1) rfl, h.tail.tail.tail.tail.tail.tail.tail.tail.tail.fact (.head _) (i := 2) rfl, h.tail.tail.tail.tail.tail.tail.tail.tail.tail.fact (.head _) (i := 3) rfl, h.tail.tail.tail.tail.tail.tail.tail.tail.tail.fact (.head _) (i := 4) rfl, h.tail.tail.tail.tail.tail.tail.tail.tail.tail.fact (.head _) (i := 5) rfl, h.tail.tail.tail.tail.tail.tail.tail.tail.tail.tail.fact (.head _) (i := 0) rfl, h.tail.tail.tail.tail.tail.tail.tail.tail.tail.tail.fact (.head _) (i := 1) rfl, h.tail.tail.tail.tail.tail.tail.tail.tail.tail.tail.fact (.head _) (i := 2) rfl, h.tail.tail.tail.tail.tail.tail.tail.tail.tail.tail.fact (.head _) (i := 3) rfl, h.tail.tail.tail.tail.tail.tail.tail.tail.tail.tail.fact (.head _) (i := 4) rfl, h.tail.tail.tail.tail.tail.tail.tail.tail.tail.tail.fact (.head _) (i := 5) rfl⟩, h⟩)
      have C61d := C9.drew
      refine wp_region_held_drew (S := (fun w' => (w'.cell? ⟨L1, 0, none⟩ = some (.int .i64 m0) ∧ w'.cell? ⟨L1, 1, none⟩ = some (.int .i64 m1) ∧ w'.cell? ⟨L1, 2, none⟩ = some (.int .i64 n0) ∧ w'.cell? ⟨L2, 0, none⟩ = some (.int .i64 m2) ∧ w'.cell? ⟨L2, 1, none⟩ = some (.int .i64 m3) ∧ w'.cell? ⟨L2, 2, none⟩ = some (.int .i64 n1) ∧ w'.cell? ⟨K1, 0, none⟩ = some (.int .i64 m0) ∧ w'.cell? ⟨K1, 1, none⟩ = some (.int .i64 m1) ∧ w'.cell? ⟨K2, 0, none⟩ = some (.int .i64 m2) ∧ w'.cell? ⟨K2, 1, none⟩ = some (.int .i64 m3) ∧ w'.cell? ⟨V, 0, none⟩ = some (.int .i64 x) ∧ w'.cell? ⟨V, 1, none⟩ = some (.int .i64 y) ∧ w'.cell? ⟨T23, 0, none⟩ = some (.int .i64 p4) ∧ w'.cell? ⟨T23, 1, none⟩ = some (.int .i64 p5) ∧ w'.cell? ⟨T23, 2, none⟩ = some (.int .i64 q0) ∧ w'.cell? ⟨T23, 3, none⟩ = some (.int .i64 q1) ∧ w'.cell? ⟨E, 0, none⟩ = some (.int .i64 p0) ∧ w'.cell? ⟨E, 1, none⟩ = some (.int .i64 p1) ∧ w'.cell? ⟨F, 0, none⟩ = some (.int .i64 p2) ∧ w'.cell? ⟨F, 1, none⟩ = some (.int .i64 p3) ∧ w'.cell? ⟨G, 0, none⟩ = some (.int .i64 p4) ∧ w'.cell? ⟨G, 1, none⟩ = some (.int .i64 p5) ∧ w'.cell? ⟨B, 0, none⟩ = some (.int .i64 s0) ∧ w'.cell? ⟨B, 1, none⟩ = some (.int .i64 s1) ∧ w'.cell? ⟨B, 2, none⟩ = some (.int .i64 s2) ∧ w'.cell? ⟨B, 3, none⟩ = some (.int .i64 s3) ∧ w'.cell? ⟨B, 4, none⟩ = some (.int .i64 s4) ∧ w'.cell? ⟨B, 5, none⟩ = some (.int .i64 s5) ∧ w'.cell? ⟨A, 0, none⟩ = some (.int .i64 p0) ∧ w'.cell? ⟨A, 1, none⟩ = some (.int .i64 p1) ∧ w'.cell? ⟨A, 2, none⟩ = some (.int .i64 p2) ∧ w'.cell? ⟨A, 3, none⟩ = some (.int .i64 p3) ∧ w'.cell? ⟨A, 4, none⟩ = some (.int .i64 p4) ∧ w'.cell? ⟨A, 5, none⟩ = some (.int .i64 p5)) ∧ Has w [(L1, [.int .i64 m0, .int .i64 m1, .int .i64 n0]), (L2, [.int .i64 m2, .int .i64 m3, .int .i64 n1]), (K1, [.int .i64 m0, .int .i64 m1]), (K2, [.int .i64 m2, .int .i64 m3]), (V, [.int .i64 x, .int .i64 y]), (T23, [.int .i64 p4, .int .i64 p5, .int .i64 q0, .int .i64 q1]), (E, [.int .i64 p0, .int .i64 p1]), (F, [.int .i64 p2, .int .i64 p3]), (G, [.int .i64 p4, .int .i64 p5]), (B, [.int .i64 s0, .int .i64 s1, .int .i64 s2, .int .i64 s3, .int .i64 s4, .int .i64 s5]), (A, [.int .i64 p0, .int .i64 p1, .int .i64 p2, .int .i64 p3, .int .i64 p4, .int .i64 p5])] w')) (by kernel_rfl) (HS61.out _ C61d) (fun hHeld => ?_)
      clear C9
      generalize w9.drew = w61d at *
      refine wpAnyT_begin [0, 1, 2, 4, 5, 6] (by kernel_rfl) (by kernel_rfl) ?_
      refine wpAnyT_take (oi := ⟨some 94, Op.load 24 (Operand.tmp 11), 24, _, _, none⟩) (v := .agg #[.int .i64 m0, .int .i64 m1]) rfl (fun _ _ _ h => h) (by rfl) (by assumption) (fun wS hSw => ?_) ?_
      · (try dsimp only at hSw); go_simp
      simp only [Act.put, List.setIfInBounds_toArray, List.set_cons_zero, List.set_cons_succ]
      refine wpAnyT_take (oi := ⟨some 95, Op.load 24 (Operand.tmp 12), 24, _, _, none⟩) (v := .agg #[.int .i64 m2, .int .i64 m3]) rfl (fun _ _ _ h => h) (by rfl) (by assumption) (fun wS hSw => ?_) ?_
      · (try dsimp only at hSw); go_simp
      simp only [Act.put, List.setIfInBounds_toArray, List.set_cons_zero, List.set_cons_succ]
      refine wpAnyT_take (oi := ⟨some 96, Op.load 24 (Operand.tmp 10), 24, _, _, none⟩) (v := .agg #[.int .i64 x, .int .i64 y]) rfl (fun _ _ _ h => h) (by rfl) (by assumption) (fun wS hSw => ?_) ?_
      · (try dsimp only at hSw); go_simp
      simp only [Act.put, List.setIfInBounds_toArray, List.set_cons_zero, List.set_cons_succ]
      refine wpAnyT_take (oi := ⟨some 98, Op.load 24 (Operand.tmp 11), 24, _, _, none⟩) (v := .agg #[.int .i64 m0, .int .i64 m1]) rfl (fun _ _ _ h => h) (by rfl) (by assumption) (fun wS hSw => ?_) ?_
      · (try dsimp only at hSw); go_simp
      simp only [Act.put, List.setIfInBounds_toArray, List.set_cons_zero, List.set_cons_succ]
      refine wpAnyT_take (oi := ⟨some 99, Op.load 24 (Operand.tmp 12), 24, _, _, none⟩) (v := .agg #[.int .i64 m2, .int .i64 m3]) rfl (fun _ _ _ h => h) (by rfl) (by assumption) (fun wS hSw => ?_) ?_
      · (try dsimp only at hSw); go_simp
      simp only [Act.put, List.setIfInBounds_toArray, List.set_cons_zero, List.set_cons_succ]
      refine wpAnyT_take (oi := ⟨some 100, Op.load 24 (Operand.tmp 10), 24, _, _, none⟩) (v := .agg #[.int .i64 x, .int .i64 y]) rfl (fun _ _ _ h => h) (by rfl) (by assumption) (fun wS hSw => ?_) ?_
      · (try dsimp only at hSw); go_simp
      simp only [Act.put, List.setIfInBounds_toArray, List.set_cons_zero, List.set_cons_succ]
      refine wpAnyT_end ?_
      refine wpAnyH_listed #[true, true, true, false, true, true, true, false, false, false, false, false, false, false, false, false, false, false, false, false] (by kernel_rfl) ?_
      refine wpAnyH_ready (rs := [3]) (by kernel_rfl) (by simp) ?_
      refine AllReadyH.cons (o := ⟨some 97, Op.call { callee := Callee.value (Operand.func 20), args := #[Operand.tmp 94, Operand.tmp 95, Operand.tmp 96], argTypes := #[24, 24, 24] }, 3, _, _, none⟩) rfl (fun K hK => ?_) AllReadyH.nil
      go_simp
      go_at_call 20
      refine (calls_two C61d (ray_is m0 m1 m2 m3 x y z3 HZ.out _)).mono ?_
      rintro e w62 ⟨rfl, C62, g62⟩
      go_wp2_with fail
      clear hHeld
      refine hK.out _ _ (HS61.out _ (C62)) (fun hHeld => ?_)
      clear hK K
      try simp only [List.setIfInBounds_toArray, List.set_cons_zero, List.set_cons_succ]
      refine wpAnyH_listed #[true, true, true, true, true, true, true, false, false, false, false, false, false, false, false, false, false, false, false, false] (by kernel_rfl) ?_
      clear C61d g62
      refine wpAnyH_ready (rs := [7]) (by kernel_rfl) (by simp) ?_
      refine AllReadyH.cons (o := ⟨some 101, Op.call { callee := Callee.value (Operand.func 21), args := #[Operand.tmp 98, Operand.tmp 99, Operand.tmp 100], argTypes := #[24, 24, 24] }, 3, _, _, none⟩) rfl (fun K hK => ?_) AllReadyH.nil
      go_simp
      go_at_call 21
      refine (calls_two C62 (rray_is m0 m1 m2 m3 x y z3 HZ.out _)).mono ?_
      rintro e w63 ⟨rfl, C63, g63⟩
      go_wp2_with fail
      clear hHeld
      refine hK.out _ _ (HS61.out _ (C63)) (fun hHeld => ?_)
      clear hK K
      try simp only [List.setIfInBounds_toArray, List.set_cons_zero, List.set_cons_succ]
      refine wpAnyH_listed #[true, true, true, true, true, true, true, true, false, false, false, false, false, false, false, false, false, false, false, false] (by kernel_rfl) ?_
      clear C62 g63
      refine wpAnyT_begin [8] (by kernel_rfl) (by kernel_rfl) ?_
      refine wpAnyT_take (oi := ⟨some 102, Op.binOp BinOp.neq 3 (Operand.tmp 97) (Operand.tmp 101) 3, 4, _, _, none⟩) (v := .bool false) rfl (fun _ _ _ h => h) (by rfl) (by assumption) (fun wS hSw => ?_) ?_
      · (try dsimp only at hSw); go_simp
      simp only [Act.put, List.setIfInBounds_toArray, List.set_cons_zero, List.set_cons_succ]
      refine wpAnyT_end ?_
      refine wpAnyH_listed #[true, true, true, true, true, true, true, true, true, false, false, false, false, false, false, false, false, false, false, false] (by kernel_rfl) ?_
      refine wpAnyT_begin [9] (by kernel_rfl) (by kernel_rfl) ?_
      refine wpAnyT_take (oi := ⟨some 103, Op.move (Operand.tmp 102), 4, _, _, none⟩) (v := .bool false) rfl (fun _ _ _ h => h) (by rfl) (by assumption) (fun wS hSw => ?_) ?_
      · (try dsimp only at hSw); go_simp
      simp only [Act.put, List.setIfInBounds_toArray, List.set_cons_zero, List.set_cons_succ]
      refine wpAnyT_end ?_
      refine wpAnyH_listed #[true, true, true, true, true, true, true, true, true, true, false, false, false, false, false, false, false, false, false, false] (by kernel_rfl) ?_
      refine wpAnyT_begin [10, 11, 12, 14, 15, 16] (by kernel_rfl) (by kernel_rfl) ?_
      refine wpAnyT_take (oi := ⟨some 104, Op.load 39 (Operand.tmp 13), 39, _, _, some (9, false)⟩) (v := .agg #[.int .i64 m0, .int .i64 m1, .int .i64 n0]) rfl (fun _ _ _ h => h) (by rfl) (by assumption) (fun wS hSw => ?_) ?_
      · (try dsimp only at hSw); go_simp
      simp only [Act.put, List.setIfInBounds_toArray, List.set_cons_zero, List.set_cons_succ]
      refine wpAnyT_take (oi := ⟨some 105, Op.load 39 (Operand.tmp 14), 39, _, _, some (9, false)⟩) (v := .agg #[.int .i64 m2, .int .i64 m3, .int .i64 n1]) rfl (fun _ _ _ h => h) (by rfl) (by assumption) (fun wS hSw => ?_) ?_
      · (try dsimp only at hSw); go_simp
      simp only [Act.put, List.setIfInBounds_toArray, List.set_cons_zero, List.set_cons_succ]
      refine wpAnyT_take (oi := ⟨some 106, Op.load 24 (Operand.tmp 10), 24, _, _, some (9, false)⟩) (v := .agg #[.int .i64 x, .int .i64 y]) rfl (fun _ _ _ h => h) (by rfl) (by assumption) (fun wS hSw => ?_) ?_
      · (try dsimp only at hSw); go_simp
      simp only [Act.put, List.setIfInBounds_toArray, List.set_cons_zero, List.set_cons_succ]
      refine wpAnyT_take (oi := ⟨some 108, Op.load 39 (Operand.tmp 13), 39, _, _, some (9, false)⟩) (v := .agg #[.int .i64 m0, .int .i64 m1, .int .i64 n0]) rfl (fun _ _ _ h => h) (by rfl) (by assumption) (fun wS hSw => ?_) ?_
      · (try dsimp only at hSw); go_simp
      simp only [Act.put, List.setIfInBounds_toArray, List.set_cons_zero, List.set_cons_succ]
      refine wpAnyT_take (oi := ⟨some 109, Op.load 39 (Operand.tmp 14), 39, _, _, some (9, false)⟩) (v := .agg #[.int .i64 m2, .int .i64 m3, .int .i64 n1]) rfl (fun _ _ _ h => h) (by rfl) (by assumption) (fun wS hSw => ?_) ?_
      · (try dsimp only at hSw); go_simp
      simp only [Act.put, List.setIfInBounds_toArray, List.set_cons_zero, List.set_cons_succ]
      refine wpAnyT_take (oi := ⟨some 110, Op.load 24 (Operand.tmp 10), 24, _, _, some (9, false)⟩) (v := .agg #[.int .i64 x, .int .i64 y]) rfl (fun _ _ _ h => h) (by rfl) (by assumption) (fun wS hSw => ?_) ?_
      · (try dsimp only at hSw); go_simp
      simp only [Act.put, List.setIfInBounds_toArray, List.set_cons_zero, List.set_cons_succ]
      refine wpAnyT_end ?_
      refine wpAnyH_listed #[true, true, true, true, true, true, true, true, true, true, true, true, true, false, true, true, true, false, false, false] (by kernel_rfl) ?_
      refine wpAnyH_ready (rs := [13]) (by kernel_rfl) (by simp) ?_
      refine AllReadyH.cons (o := ⟨some 107, Op.call { callee := Callee.value (Operand.func 22), args := #[Operand.tmp 104, Operand.tmp 105, Operand.tmp 106], argTypes := #[39, 39, 24] }, 3, _, _, some (9, false)⟩) rfl (fun K hK => ?_) AllReadyH.nil
      go_simp
      go_at_call 22
      refine (calls_two C63 (rayspot_is m0 m1 n0 m2 m3 n1 x y z4 HY.out _ bm1 bn0 bm3 bn1 by')).mono ?_
      rintro e w64 ⟨rfl, C64, g64⟩
      go_wp2_with fail
      clear hHeld
      refine hK.out _ _ (HS61.out _ (C64)) (fun hHeld => ?_)
      clear hK K
      try simp only [List.setIfInBounds_toArray, List.set_cons_zero, List.set_cons_succ]
      refine wpAnyH_listed #[true, true, true, true, true, true, true, true, true, true, true, true, true, true, true, true, true, false, false, false] (by kernel_rfl) ?_
      clear C63 g64
      refine wpAnyH_ready (rs := [17]) (by kernel_rfl) (by simp) ?_
      refine AllReadyH.cons (o := ⟨some 111, Op.call { callee := Callee.value (Operand.func 23), args := #[Operand.tmp 108, Operand.tmp 109, Operand.tmp 110], argTypes := #[39, 39, 24] }, 3, _, _, some (9, false)⟩) rfl (fun K hK => ?_) AllReadyH.nil
      go_simp
      go_at_call 23
      refine (calls_two C64 (rrays_is m0 m1 n0 m2 m3 n1 x y z4 HY.out _ bm1 bn0 bm3 bn1 by')).mono ?_
      rintro e w65 ⟨rfl, C65, g65⟩
      go_wp2_with fail
      clear hHeld
      refine hK.out _ _ (HS61.out _ (C65)) (fun hHeld => ?_)
      clear hK K
      try simp only [List.setIfInBounds_toArray, List.set_cons_zero, List.set_cons_succ]
      refine wpAnyH_listed #[true, true, true, true, true, true, true, true, true, true, true, true, true, true, true, true, true, true, false, false] (by kernel_rfl) ?_
      clear C64 g65
      refine wpAnyT_begin [18] (by kernel_rfl) (by kernel_rfl) ?_
      refine wpAnyT_take (oi := ⟨some 112, Op.binOp BinOp.neq 3 (Operand.tmp 107) (Operand.tmp 111) 3, 4, _, _, some (9, false)⟩) (v := .bool false) rfl (fun _ _ _ h => h) (by rfl) (by assumption) (fun wS hSw => ?_) ?_
      · (try dsimp only at hSw); go_simp
      simp only [Act.put, List.setIfInBounds_toArray, List.set_cons_zero, List.set_cons_succ]
      refine wpAnyT_end ?_
      refine wpAnyH_listed #[true, true, true, true, true, true, true, true, true, true, true, true, true, true, true, true, true, true, true, false] (by kernel_rfl) ?_
      refine wpAnyT_begin [19] (by kernel_rfl) (by kernel_rfl) ?_
      refine wpAnyT_take (oi := ⟨some 113, Op.pick (Operand.tmp 103) (Operand.const (Value.bool true)) (Operand.tmp 112), 4, _, _, none⟩) (v := .bool false) rfl (fun _ _ _ h => h) (by rfl) (by assumption) (fun wS hSw => ?_) ?_
      · (try dsimp only at hSw); go_simp
      simp only [Act.put, List.setIfInBounds_toArray, List.set_cons_zero, List.set_cons_succ]
      refine wpAnyT_end ?_
      refine wpAnyH_listed #[true, true, true, true, true, true, true, true, true, true, true, true, true, true, true, true, true, true, true, true] (by kernel_rfl) ?_
      refine wpAnyH_done (by kernel_rfl) ?_ _
      clear hHeld
      clear HS61
      go_wp2_with fail
      go_roundw
      case rel => exact ⟨k + 1, by omega, by go_num, C65.tail.tail.tail.tail.tail⟩
      case measure => simp [RowKit.intOf]; omega
    · obtain rfl : k = 2 := by omega
      go_wp2_with fail
      go_ret
      exact ⟨rfl, C0.low⟩

end Go.Proofs.Ytmldgjhecoeldaa
