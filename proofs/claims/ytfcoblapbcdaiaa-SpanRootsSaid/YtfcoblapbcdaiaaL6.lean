/- The law on scales, bands and squares. -/
import Derived.Test.YtfcoblapbcdaiaaE10
namespace Go.Proofs.Ytfcoblapbcdaiaa
open Go.RowKit Go.Lib
attribute [local go_sem] Oper.semAt_some
theorem mul_b40 {a b : Int} (ha : -39999 ≤ a ∧ a ≤ 39999) (hb : -39999 ≤ b ∧ b ≤ 39999) : -1599920001 ≤ a * b ∧ a * b ≤ 1599920001 := by
  have e : (a * b).natAbs = a.natAbs * b.natAbs := Int.natAbs_mul a b
  have := Nat.mul_le_mul (show a.natAbs ≤ 39999 by omega) (show b.natAbs ≤ 39999 by omega)
  omega
theorem sqV_is {a b : Int} (ha : -39999 ≤ a ∧ a ≤ 39999) (hb : -39999 ≤ b ∧ b ≤ 39999) : sqV a b = a * a + b * b := by
  have h1 := mul_b40 ha ha
  have h2 := mul_b40 hb hb
  unfold sqV
  rw [IntWalk.wrap64_in (a * a) ⟨by omega, by omega⟩, IntWalk.wrap64_in (b * b) ⟨by omega, by omega⟩, IntWalk.wrap64_in _ ⟨by omega, by omega⟩]
theorem tmod_b4 (a : Int) : -39999 ≤ a.tmod 40000 ∧ a.tmod 40000 ≤ 39999 := by
  rcases Int.le_total 0 a with h | h
  · rw [Int.tmod_eq_emod_of_nonneg h]; omega
  · obtain ⟨n, rfl⟩ : ∃ n : Int, a = -n := ⟨-a, by omega⟩
    rw [Int.neg_tmod, Int.tmod_eq_emod_of_nonneg (by omega)]; omega
theorem sq_nonneg (a : Int) : 0 ≤ a * a := by
  rcases Int.le_total 0 a with h | h
  · exact Int.mul_nonneg h h
  · have := Int.mul_nonneg (show 0 ≤ -a by omega) (show 0 ≤ -a by omega); rw [Int.neg_mul_neg] at this; exact this
theorem sqV_zero {a b : Int} (ha : -39999 ≤ a ∧ a ≤ 39999) (hb : -39999 ≤ b ∧ b ≤ 39999) : 0 ≤ sqV a b ∧ (sqV a b = 0 ↔ a = 0 ∧ b = 0) := by
  rw [sqV_is ha hb]
  have h1 := sq_nonneg a
  have h2 := sq_nonneg b
  refine ⟨by omega, fun h => ?_, fun ⟨p, q⟩ => by subst p q; rfl⟩
  have e1 : a * a = 0 := by omega
  have e2 : b * b = 0 := by omega
  exact ⟨(Int.mul_eq_zero.1 e1).elim id id, (Int.mul_eq_zero.1 e2).elim id id⟩
theorem ends_at {i : Nat} (h : i < 4) : ∃ E Q : Int, ([.int .i64 32, .int .i64 128, .int .i64 512, .int .i64 1073741824] : List Value)[i]? = some (.int .i64 E) ∧ E * E = Q ∧ (0 ≤ Q ∧ Q ≤ 1152921504606846976) ∧ bandV Q = i ∧ (i < 3 → bandV (Q + 1) = (i : Int) + 1) := by
  rcases i with _ | _ | _ | _ | i
  · exact ⟨32, 1024, rfl, rfl, by omega, by decide, fun _ => by decide⟩
  · exact ⟨128, 16384, rfl, rfl, by omega, by decide, fun _ => by decide⟩
  · exact ⟨512, 262144, rfl, rfl, by omega, by decide, fun _ => by decide⟩
  · exact ⟨1073741824, 1152921504606846976, rfl, rfl, by omega, by decide, fun h => by omega⟩
  · omega
set_option linter.unusedSimpArgs false in
set_option maxRecDepth 100000 in
set_option maxHeartbeats 16000000 in
theorem roots_any (s x y : Int) (w : World) (hs : -9223372036854775808 ≤ s ∧ s ≤ 9223372036854775807) :
    Calls Try.prog 6 #[.int .i64 s, .agg #[.int .i64 x, .int .i64 y]] w fun e w' => e = .returned (.bool true) ∧ Below w.heap.size w w' := by
  have C := has1 (w := w) [.int .i64 x, .int .i64 y] 42
  change Has w _ (w.alloc (.cells #[.int .i64 x, .int .i64 y] 42)) at C
  obtain ⟨a, ha⟩ : ∃ a, x.tmod 40000 = a := ⟨_, rfl⟩
  obtain ⟨b, hb⟩ : ∃ a, y.tmod 40000 = a := ⟨_, rfl⟩
  have a1 : -39999 ≤ a ∧ a ≤ 39999 := ha ▸ tmod_b4 x
  have b1 : -39999 ≤ b ∧ b ≤ 39999 := hb ▸ tmod_b4 y
  obtain ⟨z, hz⟩ : ∃ z, scV s = z := ⟨_, rfl⟩
  obtain ⟨z0, z1⟩ := sc_bd s
  have zneg := fun h : s < 0 => sc_neg h
  have zsq := fun h : 0 ≤ s => sc_sq h
  rw [hz] at z0 z1 zneg zsq
  obtain ⟨ZZ, hZZ⟩ : ∃ q, z * z = q := ⟨_, rfl⟩
  obtain ⟨Z1, hZ1⟩ : ∃ q, (z + 1) * (z + 1) = q := ⟨_, rfl⟩
  have zb : 0 ≤ ZZ ∧ ZZ ≤ 1048576 := by
    rw [← hZZ]
    exact ⟨Int.mul_nonneg z0 z0, by have := Int.mul_le_mul z1 z1 z0 (by omega); omega⟩
  have zc : 0 ≤ Z1 ∧ Z1 ≤ 1050625 := by
    rw [← hZ1]
    exact ⟨Int.mul_nonneg (by omega) (by omega), by have := Int.mul_le_mul (show z + 1 ≤ 1025 by omega) (show z + 1 ≤ 1025 by omega) (by omega) (by omega); omega⟩
  rw [hZZ, hZ1] at zsq
  have Hz := Lib.hid hz
  have HS := Lib.hid zneg
  have HQ := Lib.hid zsq
  clear hz zneg zsq
  have w1' : wrap64 ZZ = ZZ := IntWalk.wrap64_in _ ⟨by omega, by omega⟩
  have w2' : wrap64 Z1 = Z1 := IntWalk.wrap64_in _ ⟨by omega, by omega⟩
  go_enter Try.func6, Try.ntmps6
  go_wp2_with fail
  generalize w.alloc (.cells #[.int .i64 x, .int .i64 y] 42) = w1 at *
  refine (Has.call C (sane_any _)).mono ?_
  rintro e w2 ⟨rfl, C2⟩
  go_wp2_with fail
  refine (scale_any s _ hs.2).mono ?_
  rintro e w3 ⟨rfl, rfl⟩
  rw [Hz.out]
  clear C
  have k0 := C2.fact (.head _) (i := 0) rfl
  have k1 := C2.fact (.head _) (i := 1) rfl
  have f0 := C2.free (.head _) (i := 0) rfl
  have f1 := C2.free (.head _) (i := 1) rfl
  simp only at k0 k1 f0 f1
  have y1 : ¬ z < 0 := by omega
  have y2 : ¬ z > 1024 := by omega
  have y3 : ¬ 1024 < z := by omega
  have hbz : (decide (z < 0) || decide (1024 < z)) = false := by simp; omega
  have HBZ := Lib.hid hbz
  clear hbz
  go_upto_region 3 with fail
  go_cut [50] (fun v wx => v = .bool false ∧ w2 = wx)
  case first =>
    rcases Int.lt_or_le s 0 with hneg | hnn
    · have hz0 := HS.out hneg
      subst hz0
      have n1 : ¬ 0 ≤ s := by omega
      have n2 : ¬ s ≥ 0 := by omega
      have n3 : ¬ Z1 ≤ s := by omega
      go_wp2_with fail
      go_meet
      exact ⟨by first | rfl | rw [HBZ.out] | (simp; omega), rfl⟩
    · obtain ⟨q1, q2⟩ := HQ.out hnn
      have n1 : ¬ s < 0 := by omega
      have n2 : ¬ ZZ > s := by omega
      have n3 : ¬ s < ZZ := by omega
      rcases q2 with q2 | q2
      · have n4 : ¬ z < 1024 := by omega
        clear q2
        go_wp2_with fail
        go_meet
        exact ⟨by first | rfl | rw [HBZ.out] | (simp; omega), rfl⟩
      · have n4 : ¬ Z1 ≤ s := by omega
        go_wp2_with fail
        all_goals
          go_meet
          exact ⟨by first | rfl | rw [HBZ.out] | (simp; omega), rfl⟩
  case rest =>
    obtain ⟨rfl, rfl⟩ := hcut
    have C3 := C2.set2 (.int .i64 a) (.int .i64 b)
    have C4 := C3.push [.int .i64 32, .int .i64 128, .int .i64 512, .int .i64 1073741824] 26
    change Has w _ (((w2.setCell ⟨w.heap.size, 0, none⟩ (.int .i64 a)).setCell ⟨w.heap.size, 1, none⟩ (.int .i64 b)).alloc (.cells #[.int .i64 32, .int .i64 128, .int .i64 512, .int .i64 1073741824] 26)) at C4
    simp only [World.size_setCell] at C4
    go_wp2_with fail
    generalize ((w2.setCell ⟨w.heap.size, 0, none⟩ (.int .i64 a)).setCell ⟨w.heap.size, 1, none⟩ (.int .i64 b)).alloc (.cells #[.int .i64 32, .int .i64 128, .int .i64 512, .int .i64 1073741824] 26) = w5 at *
    generalize w2.heap.size = B at *
    clear k0 k1 f0 f1 C2 C3
    go_loopw [8] (fun i wr => ∃ k : Nat, k ≤ 4 ∧ i = .int .i64 k ∧ Has w [(B, [.int .i64 32, .int .i64 128, .int .i64 512, .int .i64 1073741824]), (w.heap.size, [.int .i64 a, .int .i64 b])] wr) (fun i _ => 4 - (RowKit.intOf i).toNat)
    case atStart => exact ⟨0, by omega, rfl, C4⟩
    case round =>
      clear C4
      obtain ⟨k, hk, rfl, C⟩ := hrel
      by_cases hlt : k < 4
      · obtain ⟨E, Q, hE, hQ, hQb, hbQ, hbQ1⟩ := ends_at hlt
        have HE := Lib.hid hE
        have HBQ := Lib.hid hbQ
        have HBQ1 := Lib.hid hbQ1
        clear hE hbQ hbQ1
        have g1 : (k : Int) < 4 := by omega
        have ksum : IntKind.i64.wrap ((k : Int) + 1) = ((k + 1 : Nat) : Int) := by rw [IntWalk.i64_in _ (by omega)]; rfl
        have q1 : wrap64 Q = Q := IntWalk.wrap64_in _ ⟨by omega, by omega⟩
        have q2 : IntKind.i64.wrap Q = Q := by rw [IntKind.wrap_i64]; omega
        have q3 : IntKind.i64.wrap (Q + 1) = Q + 1 := by rw [IntKind.wrap_i64]; omega
        have q4 : wrap64 (Q + 1) = Q + 1 := IntWalk.wrap64_in _ ⟨by omega, by omega⟩
        by_cases h3 : k < 3
        · have g2 : (k : Int) < 3 := by omega
          have HB1 := Lib.hid (HBQ1.out h3)
          clear HBQ1 h3
          go_wp2_with fail
          refine wp_region_held_drew (S := fun wz => wz = wr.drew) (by kernel_rfl) rfl (fun hHeld => ?_)
          have C2 := C.drew
          generalize wr.drew = w6 at *
          have c0 := C2.fact (.head _) HE.out
          simp only at c0
          refine wpAnyT_begin [0, 3, 8] (by kernel_rfl) (by kernel_rfl) ?_
          refine wpAnyT_take (oi := ⟨some 63, Op.move (Operand.tmp 8), 3, _, _, none⟩) (v := .int .i64 (k : Int)) rfl (fun _ _ _ h => h) (by rfl) (by assumption) (fun wS hSw => ?_) ?_
          · (try dsimp only at hSw); subst hSw; go_simp <;> omega
          simp only [Act.put, List.setIfInBounds_toArray, List.set_cons_zero, List.set_cons_succ]
          refine wpAnyT_take (oi := ⟨some 66, Op.move (Operand.tmp 8), 3, _, _, none⟩) (v := .int .i64 (k : Int)) rfl (fun _ _ _ h => h) (by rfl) (by assumption) (fun wS hSw => ?_) ?_
          · (try dsimp only at hSw); subst hSw; go_simp <;> omega
          simp only [Act.put, List.setIfInBounds_toArray, List.set_cons_zero, List.set_cons_succ]
          refine wpAnyT_take (oi := ⟨some 71, Op.move (Operand.tmp 8), 3, _, _, none⟩) (v := .int .i64 (k : Int)) rfl (fun _ _ _ h => h) (by rfl) (by assumption) (fun wS hSw => ?_) ?_
          · (try dsimp only at hSw); subst hSw; go_simp <;> omega
          simp only [Act.put, List.setIfInBounds_toArray, List.set_cons_zero, List.set_cons_succ]
          refine wpAnyT_end ?_
          refine wpAnyH_listed #[true, false, false, true, false, false, false, false, true, false, false, false, false, false, false, false, false, false, false, false, false, false, false, false, false, false, false, false] (by kernel_rfl) ?_
          refine wpAnyT_begin [1, 4] (by kernel_rfl) (by kernel_rfl) ?_
          refine wpAnyT_take (oi := ⟨some 64, Op.indexAddr 26 (Operand.tmp 7) (Operand.tmp 63), 0, _, _, none⟩) (v := .pointer (some ⟨B, k, none⟩)) rfl (fun _ _ _ h => h) (by rfl) (by assumption) (fun wS hSw => ?_) ?_
          · (try dsimp only at hSw); subst hSw; go_simp <;> omega
          simp only [Act.put, List.setIfInBounds_toArray, List.set_cons_zero, List.set_cons_succ]
          refine wpAnyT_take (oi := ⟨some 67, Op.indexAddr 26 (Operand.tmp 7) (Operand.tmp 66), 0, _, _, none⟩) (v := .pointer (some ⟨B, k, none⟩)) rfl (fun _ _ _ h => h) (by rfl) (by assumption) (fun wS hSw => ?_) ?_
          · (try dsimp only at hSw); subst hSw; go_simp <;> omega
          simp only [Act.put, List.setIfInBounds_toArray, List.set_cons_zero, List.set_cons_succ]
          refine wpAnyT_end ?_
          refine wpAnyH_listed #[true, true, false, true, true, false, false, false, true, false, false, false, false, false, false, false, false, false, false, false, false, false, false, false, false, false, false, false] (by kernel_rfl) ?_
          refine wpAnyT_begin [2, 5] (by kernel_rfl) (by kernel_rfl) ?_
          refine wpAnyT_take (oi := ⟨some 65, Op.load 3 (Operand.tmp 64), 3, _, _, none⟩) (v := .int .i64 E) rfl (fun _ _ _ h => h) (by rfl) (by assumption) (fun wS hSw => ?_) ?_
          · (try dsimp only at hSw); subst hSw; go_simp <;> omega
          simp only [Act.put, List.setIfInBounds_toArray, List.set_cons_zero, List.set_cons_succ]
          refine wpAnyT_take (oi := ⟨some 68, Op.load 3 (Operand.tmp 67), 3, _, _, none⟩) (v := .int .i64 E) rfl (fun _ _ _ h => h) (by rfl) (by assumption) (fun wS hSw => ?_) ?_
          · (try dsimp only at hSw); subst hSw; go_simp <;> omega
          simp only [Act.put, List.setIfInBounds_toArray, List.set_cons_zero, List.set_cons_succ]
          refine wpAnyT_end ?_
          refine wpAnyH_listed #[true, true, true, true, true, true, false, false, true, false, false, false, false, false, false, false, false, false, false, false, false, false, false, false, false, false, false, false] (by kernel_rfl) ?_
          refine wpAnyT_begin [6] (by kernel_rfl) (by kernel_rfl) ?_
          refine wpAnyT_take (oi := ⟨some 69, Op.binOp BinOp.mul 3 (Operand.tmp 65) (Operand.tmp 68) 3, 3, _, _, none⟩) (v := .int .i64 Q) rfl (fun _ _ _ h => h) (by rfl) (by assumption) (fun wS hSw => ?_) ?_
          · (try dsimp only at hSw); subst hSw; go_simp <;> omega
          simp only [Act.put, List.setIfInBounds_toArray, List.set_cons_zero, List.set_cons_succ]
          refine wpAnyT_end ?_
          refine wpAnyH_listed #[true, true, true, true, true, true, true, false, true, false, false, false, false, false, false, false, false, false, false, false, false, false, false, false, false, false, false, false] (by kernel_rfl) ?_
          refine wpAnyH_ready (rs := [7]) (by kernel_rfl) (by simp) ?_
          refine AllReadyH.cons (o := ⟨some 70, Op.call { callee := Callee.value (Operand.func 19), args := #[Operand.tmp 69], argTypes := #[3] }, 3, _, _, none⟩) rfl (fun K hK => ?_) AllReadyH.nil
          go_simp
          go_at_call 19
          refine (show Calls Try.prog 19 #[.int .i64 Q] _ fun e w' => e = .returned (.int .i64 (k : Int)) ∧ _ = w' from HBQ.out ▸ band_any Q _).mono ?_
          rintro e wq ⟨rfl, rfl⟩
          go_wp2_with fail
          clear hHeld
          refine hK.out _ _ (rfl) (fun hHeld => ?_)
          clear hK K
          try simp only [List.setIfInBounds_toArray, List.set_cons_zero, List.set_cons_succ]
          refine wpAnyH_listed #[true, true, true, true, true, true, true, true, true, false, false, false, false, false, false, false, false, false, false, false, false, false, false, false, false, false, false, false] (by kernel_rfl) ?_
          refine wpAnyT_begin [9] (by kernel_rfl) (by kernel_rfl) ?_
          refine wpAnyT_take (oi := ⟨some 72, Op.binOp BinOp.neq 3 (Operand.tmp 70) (Operand.tmp 71) 3, 4, _, _, none⟩) (v := .bool false) rfl (fun _ _ _ h => h) (by rfl) (by assumption) (fun wS hSw => ?_) ?_
          · (try dsimp only at hSw); subst hSw; go_simp <;> omega
          simp only [Act.put, List.setIfInBounds_toArray, List.set_cons_zero, List.set_cons_succ]
          refine wpAnyT_end ?_
          refine wpAnyH_listed #[true, true, true, true, true, true, true, true, true, true, false, false, false, false, false, false, false, false, false, false, false, false, false, false, false, false, false, false] (by kernel_rfl) ?_
          refine wpAnyT_begin [10] (by kernel_rfl) (by kernel_rfl) ?_
          refine wpAnyT_take (oi := ⟨some 73, Op.move (Operand.tmp 72), 4, _, _, none⟩) (v := .bool false) rfl (fun _ _ _ h => h) (by rfl) (by assumption) (fun wS hSw => ?_) ?_
          · (try dsimp only at hSw); subst hSw; go_simp <;> omega
          simp only [Act.put, List.setIfInBounds_toArray, List.set_cons_zero, List.set_cons_succ]
          refine wpAnyT_end ?_
          refine wpAnyH_listed #[true, true, true, true, true, true, true, true, true, true, true, false, false, false, false, false, false, false, false, false, false, false, false, false, false, false, false, false] (by kernel_rfl) ?_
          refine wpAnyT_begin [11] (by kernel_rfl) (by kernel_rfl) ?_
          refine wpAnyT_take (oi := ⟨some 74, Op.move (Operand.tmp 8), 3, _, _, some (10, false)⟩) (v := .int .i64 (k : Int)) rfl (fun _ _ _ h => h) (by rfl) (by assumption) (fun wS hSw => ?_) ?_
          · (try dsimp only at hSw); subst hSw; go_simp <;> omega
          simp only [Act.put, List.setIfInBounds_toArray, List.set_cons_zero, List.set_cons_succ]
          refine wpAnyT_end ?_
          refine wpAnyH_listed #[true, true, true, true, true, true, true, true, true, true, true, true, false, false, false, false, false, false, false, false, false, false, false, false, false, false, false, false] (by kernel_rfl) ?_
          refine wpAnyT_begin [12] (by kernel_rfl) (by kernel_rfl) ?_
          refine wpAnyT_take (oi := ⟨some 75, Op.binOp BinOp.lss 3 (Operand.tmp 74) (Operand.const (Value.int IntKind.i64 3)) 3, 4, _, _, some (10, false)⟩) (v := .bool true) rfl (fun _ _ _ h => h) (by rfl) (by assumption) (fun wS hSw => ?_) ?_
          · (try dsimp only at hSw); subst hSw; go_simp <;> omega
          simp only [Act.put, List.setIfInBounds_toArray, List.set_cons_zero, List.set_cons_succ]
          refine wpAnyT_end ?_
          refine wpAnyH_listed #[true, true, true, true, true, true, true, true, true, true, true, true, true, false, false, false, false, false, false, false, false, false, false, false, false, false, false, false] (by kernel_rfl) ?_
          refine wpAnyT_begin [13] (by kernel_rfl) (by kernel_rfl) ?_
          refine wpAnyT_take (oi := ⟨some 76, Op.move (Operand.tmp 75), 4, _, _, some (10, false)⟩) (v := .bool true) rfl (fun _ _ _ h => h) (by rfl) (by assumption) (fun wS hSw => ?_) ?_
          · (try dsimp only at hSw); subst hSw; go_simp <;> omega
          simp only [Act.put, List.setIfInBounds_toArray, List.set_cons_zero, List.set_cons_succ]
          refine wpAnyT_end ?_
          refine wpAnyH_listed #[true, true, true, true, true, true, true, true, true, true, true, true, true, true, false, false, false, false, false, false, false, false, false, false, false, false, false, false] (by kernel_rfl) ?_
          refine wpAnyT_begin [14, 17, 23] (by kernel_rfl) (by kernel_rfl) ?_
          refine wpAnyT_take (oi := ⟨some 77, Op.move (Operand.tmp 8), 3, _, _, some (13, true)⟩) (v := .int .i64 (k : Int)) rfl (fun _ _ _ h => h) (by rfl) (by assumption) (fun wS hSw => ?_) ?_
          · (try dsimp only at hSw); subst hSw; go_simp <;> omega
          simp only [Act.put, List.setIfInBounds_toArray, List.set_cons_zero, List.set_cons_succ]
          refine wpAnyT_take (oi := ⟨some 80, Op.move (Operand.tmp 8), 3, _, _, some (13, true)⟩) (v := .int .i64 (k : Int)) rfl (fun _ _ _ h => h) (by rfl) (by assumption) (fun wS hSw => ?_) ?_
          · (try dsimp only at hSw); subst hSw; go_simp <;> omega
          simp only [Act.put, List.setIfInBounds_toArray, List.set_cons_zero, List.set_cons_succ]
          refine wpAnyT_take (oi := ⟨some 86, Op.move (Operand.tmp 8), 3, _, _, some (13, true)⟩) (v := .int .i64 (k : Int)) rfl (fun _ _ _ h => h) (by rfl) (by assumption) (fun wS hSw => ?_) ?_
          · (try dsimp only at hSw); subst hSw; go_simp <;> omega
          simp only [Act.put, List.setIfInBounds_toArray, List.set_cons_zero, List.set_cons_succ]
          refine wpAnyT_end ?_
          refine wpAnyH_listed #[true, true, true, true, true, true, true, true, true, true, true, true, true, true, true, false, false, true, false, false, false, false, false, true, false, false, false, false] (by kernel_rfl) ?_
          refine wpAnyT_begin [15, 18, 24] (by kernel_rfl) (by kernel_rfl) ?_
          refine wpAnyT_take (oi := ⟨some 78, Op.indexAddr 26 (Operand.tmp 7) (Operand.tmp 77), 0, _, _, some (13, true)⟩) (v := .pointer (some ⟨B, k, none⟩)) rfl (fun _ _ _ h => h) (by rfl) (by assumption) (fun wS hSw => ?_) ?_
          · (try dsimp only at hSw); subst hSw; go_simp <;> omega
          simp only [Act.put, List.setIfInBounds_toArray, List.set_cons_zero, List.set_cons_succ]
          refine wpAnyT_take (oi := ⟨some 81, Op.indexAddr 26 (Operand.tmp 7) (Operand.tmp 80), 0, _, _, some (13, true)⟩) (v := .pointer (some ⟨B, k, none⟩)) rfl (fun _ _ _ h => h) (by rfl) (by assumption) (fun wS hSw => ?_) ?_
          · (try dsimp only at hSw); subst hSw; go_simp <;> omega
          simp only [Act.put, List.setIfInBounds_toArray, List.set_cons_zero, List.set_cons_succ]
          refine wpAnyT_take (oi := ⟨some 87, Op.binOp BinOp.add 3 (Operand.tmp 86) (Operand.const (Value.int IntKind.i64 1)) 3, 3, _, _, some (13, true)⟩) (v := .int .i64 ((k : Int) + 1)) rfl (fun _ _ _ h => h) (by rfl) (by assumption) (fun wS hSw => ?_) ?_
          · (try dsimp only at hSw); subst hSw; go_simp <;> omega
          simp only [Act.put, List.setIfInBounds_toArray, List.set_cons_zero, List.set_cons_succ]
          refine wpAnyT_end ?_
          refine wpAnyH_listed #[true, true, true, true, true, true, true, true, true, true, true, true, true, true, true, true, false, true, true, false, false, false, false, true, true, false, false, false] (by kernel_rfl) ?_
          refine wpAnyT_begin [16, 19] (by kernel_rfl) (by kernel_rfl) ?_
          refine wpAnyT_take (oi := ⟨some 79, Op.load 3 (Operand.tmp 78), 3, _, _, some (13, true)⟩) (v := .int .i64 E) rfl (fun _ _ _ h => h) (by rfl) (by assumption) (fun wS hSw => ?_) ?_
          · (try dsimp only at hSw); subst hSw; go_simp <;> omega
          simp only [Act.put, List.setIfInBounds_toArray, List.set_cons_zero, List.set_cons_succ]
          refine wpAnyT_take (oi := ⟨some 82, Op.load 3 (Operand.tmp 81), 3, _, _, some (13, true)⟩) (v := .int .i64 E) rfl (fun _ _ _ h => h) (by rfl) (by assumption) (fun wS hSw => ?_) ?_
          · (try dsimp only at hSw); subst hSw; go_simp <;> omega
          simp only [Act.put, List.setIfInBounds_toArray, List.set_cons_zero, List.set_cons_succ]
          refine wpAnyT_end ?_
          refine wpAnyH_listed #[true, true, true, true, true, true, true, true, true, true, true, true, true, true, true, true, true, true, true, true, false, false, false, true, true, false, false, false] (by kernel_rfl) ?_
          refine wpAnyT_begin [20] (by kernel_rfl) (by kernel_rfl) ?_
          refine wpAnyT_take (oi := ⟨some 83, Op.binOp BinOp.mul 3 (Operand.tmp 79) (Operand.tmp 82) 3, 3, _, _, some (13, true)⟩) (v := .int .i64 Q) rfl (fun _ _ _ h => h) (by rfl) (by assumption) (fun wS hSw => ?_) ?_
          · (try dsimp only at hSw); subst hSw; go_simp <;> omega
          simp only [Act.put, List.setIfInBounds_toArray, List.set_cons_zero, List.set_cons_succ]
          refine wpAnyT_end ?_
          refine wpAnyH_listed #[true, true, true, true, true, true, true, true, true, true, true, true, true, true, true, true, true, true, true, true, true, false, false, true, true, false, false, false] (by kernel_rfl) ?_
          refine wpAnyT_begin [21] (by kernel_rfl) (by kernel_rfl) ?_
          refine wpAnyT_take (oi := ⟨some 84, Op.binOp BinOp.add 3 (Operand.tmp 83) (Operand.const (Value.int IntKind.i64 1)) 3, 3, _, _, some (13, true)⟩) (v := .int .i64 (Q + 1)) rfl (fun _ _ _ h => h) (by rfl) (by assumption) (fun wS hSw => ?_) ?_
          · (try dsimp only at hSw); subst hSw; go_simp <;> omega
          simp only [Act.put, List.setIfInBounds_toArray, List.set_cons_zero, List.set_cons_succ]
          refine wpAnyT_end ?_
          refine wpAnyH_listed #[true, true, true, true, true, true, true, true, true, true, true, true, true, true, true, true, true, true, true, true, true, true, false, true, true, false, false, false] (by kernel_rfl) ?_
          refine wpAnyH_ready (rs := [22]) (by kernel_rfl) (by simp) ?_
          refine AllReadyH.cons (o := ⟨some 85, Op.call { callee := Callee.value (Operand.func 19), args := #[Operand.tmp 84], argTypes := #[3] }, 3, _, _, some (13, true)⟩) rfl (fun K hK => ?_) AllReadyH.nil
          go_simp
          go_at_call 19
          refine (show Calls Try.prog 19 #[.int .i64 (Q + 1)] _ fun e w' => e = .returned (.int .i64 ((k : Int) + 1)) ∧ _ = w' from HB1.out ▸ band_any (Q + 1) _).mono ?_
          rintro e wq ⟨rfl, rfl⟩
          go_wp2_with fail
          clear hHeld
          refine hK.out _ _ (rfl) (fun hHeld => ?_)
          clear hK K
          try simp only [List.setIfInBounds_toArray, List.set_cons_zero, List.set_cons_succ]
          refine wpAnyH_listed #[true, true, true, true, true, true, true, true, true, true, true, true, true, true, true, true, true, true, true, true, true, true, true, true, true, false, false, false] (by kernel_rfl) ?_
          refine wpAnyT_begin [25] (by kernel_rfl) (by kernel_rfl) ?_
          refine wpAnyT_take (oi := ⟨some 88, Op.binOp BinOp.neq 3 (Operand.tmp 85) (Operand.tmp 87) 3, 4, _, _, some (13, true)⟩) (v := .bool false) rfl (fun _ _ _ h => h) (by rfl) (by assumption) (fun wS hSw => ?_) ?_
          · (try dsimp only at hSw); subst hSw; go_simp <;> omega
          simp only [Act.put, List.setIfInBounds_toArray, List.set_cons_zero, List.set_cons_succ]
          refine wpAnyT_end ?_
          refine wpAnyH_listed #[true, true, true, true, true, true, true, true, true, true, true, true, true, true, true, true, true, true, true, true, true, true, true, true, true, true, false, false] (by kernel_rfl) ?_
          refine wpAnyT_begin [26] (by kernel_rfl) (by kernel_rfl) ?_
          refine wpAnyT_take (oi := ⟨some 89, Op.pick (Operand.tmp 76) (Operand.tmp 88) (Operand.const (Value.bool false)), 4, _, _, some (10, false)⟩) (v := .bool false) rfl (fun _ _ _ h => h) (by rfl) (by assumption) (fun wS hSw => ?_) ?_
          · (try dsimp only at hSw); subst hSw; go_simp <;> omega
          simp only [Act.put, List.setIfInBounds_toArray, List.set_cons_zero, List.set_cons_succ]
          refine wpAnyT_end ?_
          refine wpAnyH_listed #[true, true, true, true, true, true, true, true, true, true, true, true, true, true, true, true, true, true, true, true, true, true, true, true, true, true, true, false] (by kernel_rfl) ?_
          refine wpAnyT_begin [27] (by kernel_rfl) (by kernel_rfl) ?_
          refine wpAnyT_take (oi := ⟨some 90, Op.pick (Operand.tmp 73) (Operand.const (Value.bool true)) (Operand.tmp 89), 4, _, _, none⟩) (v := .bool false) rfl (fun _ _ _ h => h) (by rfl) (by assumption) (fun wS hSw => ?_) ?_
          · (try dsimp only at hSw); subst hSw; go_simp <;> omega
          simp only [Act.put, List.setIfInBounds_toArray, List.set_cons_zero, List.set_cons_succ]
          refine wpAnyT_end ?_
          refine wpAnyH_listed #[true, true, true, true, true, true, true, true, true, true, true, true, true, true, true, true, true, true, true, true, true, true, true, true, true, true, true, true] (by kernel_rfl) ?_
          refine wpAnyH_done (by kernel_rfl) ?_ _
          clear hHeld
          go_wp2_with fail
          go_roundw
          case rel => exact ⟨k + 1, by omega, by go_num, C2⟩
          case measure => simp [RowKit.intOf]; omega
        · have g2 : ¬ (k : Int) < 3 := by omega
          clear HBQ1 h3
          go_wp2_with fail
          refine wp_region_held_drew (S := fun wz => wz = wr.drew) (by kernel_rfl) rfl (fun hHeld => ?_)
          have C2 := C.drew
          generalize wr.drew = w6 at *
          have c0 := C2.fact (.head _) HE.out
          simp only at c0
          refine wpAnyT_begin [0, 3, 8] (by kernel_rfl) (by kernel_rfl) ?_
          refine wpAnyT_take (oi := ⟨some 63, Op.move (Operand.tmp 8), 3, _, _, none⟩) (v := .int .i64 (k : Int)) rfl (fun _ _ _ h => h) (by rfl) (by assumption) (fun wS hSw => ?_) ?_
          · (try dsimp only at hSw); subst hSw; go_simp <;> omega
          simp only [Act.put, List.setIfInBounds_toArray, List.set_cons_zero, List.set_cons_succ]
          refine wpAnyT_take (oi := ⟨some 66, Op.move (Operand.tmp 8), 3, _, _, none⟩) (v := .int .i64 (k : Int)) rfl (fun _ _ _ h => h) (by rfl) (by assumption) (fun wS hSw => ?_) ?_
          · (try dsimp only at hSw); subst hSw; go_simp <;> omega
          simp only [Act.put, List.setIfInBounds_toArray, List.set_cons_zero, List.set_cons_succ]
          refine wpAnyT_take (oi := ⟨some 71, Op.move (Operand.tmp 8), 3, _, _, none⟩) (v := .int .i64 (k : Int)) rfl (fun _ _ _ h => h) (by rfl) (by assumption) (fun wS hSw => ?_) ?_
          · (try dsimp only at hSw); subst hSw; go_simp <;> omega
          simp only [Act.put, List.setIfInBounds_toArray, List.set_cons_zero, List.set_cons_succ]
          refine wpAnyT_end ?_
          refine wpAnyH_listed #[true, false, false, true, false, false, false, false, true, false, false, false, false, false, false, false, false, false, false, false, false, false, false, false, false, false, false, false] (by kernel_rfl) ?_
          refine wpAnyT_begin [1, 4] (by kernel_rfl) (by kernel_rfl) ?_
          refine wpAnyT_take (oi := ⟨some 64, Op.indexAddr 26 (Operand.tmp 7) (Operand.tmp 63), 0, _, _, none⟩) (v := .pointer (some ⟨B, k, none⟩)) rfl (fun _ _ _ h => h) (by rfl) (by assumption) (fun wS hSw => ?_) ?_
          · (try dsimp only at hSw); subst hSw; go_simp <;> omega
          simp only [Act.put, List.setIfInBounds_toArray, List.set_cons_zero, List.set_cons_succ]
          refine wpAnyT_take (oi := ⟨some 67, Op.indexAddr 26 (Operand.tmp 7) (Operand.tmp 66), 0, _, _, none⟩) (v := .pointer (some ⟨B, k, none⟩)) rfl (fun _ _ _ h => h) (by rfl) (by assumption) (fun wS hSw => ?_) ?_
          · (try dsimp only at hSw); subst hSw; go_simp <;> omega
          simp only [Act.put, List.setIfInBounds_toArray, List.set_cons_zero, List.set_cons_succ]
          refine wpAnyT_end ?_
          refine wpAnyH_listed #[true, true, false, true, true, false, false, false, true, false, false, false, false, false, false, false, false, false, false, false, false, false, false, false, false, false, false, false] (by kernel_rfl) ?_
          refine wpAnyT_begin [2, 5] (by kernel_rfl) (by kernel_rfl) ?_
          refine wpAnyT_take (oi := ⟨some 65, Op.load 3 (Operand.tmp 64), 3, _, _, none⟩) (v := .int .i64 E) rfl (fun _ _ _ h => h) (by rfl) (by assumption) (fun wS hSw => ?_) ?_
          · (try dsimp only at hSw); subst hSw; go_simp <;> omega
          simp only [Act.put, List.setIfInBounds_toArray, List.set_cons_zero, List.set_cons_succ]
          refine wpAnyT_take (oi := ⟨some 68, Op.load 3 (Operand.tmp 67), 3, _, _, none⟩) (v := .int .i64 E) rfl (fun _ _ _ h => h) (by rfl) (by assumption) (fun wS hSw => ?_) ?_
          · (try dsimp only at hSw); subst hSw; go_simp <;> omega
          simp only [Act.put, List.setIfInBounds_toArray, List.set_cons_zero, List.set_cons_succ]
          refine wpAnyT_end ?_
          refine wpAnyH_listed #[true, true, true, true, true, true, false, false, true, false, false, false, false, false, false, false, false, false, false, false, false, false, false, false, false, false, false, false] (by kernel_rfl) ?_
          refine wpAnyT_begin [6] (by kernel_rfl) (by kernel_rfl) ?_
          refine wpAnyT_take (oi := ⟨some 69, Op.binOp BinOp.mul 3 (Operand.tmp 65) (Operand.tmp 68) 3, 3, _, _, none⟩) (v := .int .i64 Q) rfl (fun _ _ _ h => h) (by rfl) (by assumption) (fun wS hSw => ?_) ?_
          · (try dsimp only at hSw); subst hSw; go_simp <;> omega
          simp only [Act.put, List.setIfInBounds_toArray, List.set_cons_zero, List.set_cons_succ]
          refine wpAnyT_end ?_
          refine wpAnyH_listed #[true, true, true, true, true, true, true, false, true, false, false, false, false, false, false, false, false, false, false, false, false, false, false, false, false, false, false, false] (by kernel_rfl) ?_
          refine wpAnyH_ready (rs := [7]) (by kernel_rfl) (by simp) ?_
          refine AllReadyH.cons (o := ⟨some 70, Op.call { callee := Callee.value (Operand.func 19), args := #[Operand.tmp 69], argTypes := #[3] }, 3, _, _, none⟩) rfl (fun K hK => ?_) AllReadyH.nil
          go_simp
          go_at_call 19
          refine (show Calls Try.prog 19 #[.int .i64 Q] _ fun e w' => e = .returned (.int .i64 (k : Int)) ∧ _ = w' from HBQ.out ▸ band_any Q _).mono ?_
          rintro e wq ⟨rfl, rfl⟩
          go_wp2_with fail
          clear hHeld
          refine hK.out _ _ (rfl) (fun hHeld => ?_)
          clear hK K
          try simp only [List.setIfInBounds_toArray, List.set_cons_zero, List.set_cons_succ]
          refine wpAnyH_listed #[true, true, true, true, true, true, true, true, true, false, false, false, false, false, false, false, false, false, false, false, false, false, false, false, false, false, false, false] (by kernel_rfl) ?_
          refine wpAnyT_begin [9] (by kernel_rfl) (by kernel_rfl) ?_
          refine wpAnyT_take (oi := ⟨some 72, Op.binOp BinOp.neq 3 (Operand.tmp 70) (Operand.tmp 71) 3, 4, _, _, none⟩) (v := .bool false) rfl (fun _ _ _ h => h) (by rfl) (by assumption) (fun wS hSw => ?_) ?_
          · (try dsimp only at hSw); subst hSw; go_simp <;> omega
          simp only [Act.put, List.setIfInBounds_toArray, List.set_cons_zero, List.set_cons_succ]
          refine wpAnyT_end ?_
          refine wpAnyH_listed #[true, true, true, true, true, true, true, true, true, true, false, false, false, false, false, false, false, false, false, false, false, false, false, false, false, false, false, false] (by kernel_rfl) ?_
          refine wpAnyT_begin [10] (by kernel_rfl) (by kernel_rfl) ?_
          refine wpAnyT_take (oi := ⟨some 73, Op.move (Operand.tmp 72), 4, _, _, none⟩) (v := .bool false) rfl (fun _ _ _ h => h) (by rfl) (by assumption) (fun wS hSw => ?_) ?_
          · (try dsimp only at hSw); subst hSw; go_simp <;> omega
          simp only [Act.put, List.setIfInBounds_toArray, List.set_cons_zero, List.set_cons_succ]
          refine wpAnyT_end ?_
          refine wpAnyH_listed #[true, true, true, true, true, true, true, true, true, true, true, false, false, false, false, false, false, false, false, false, false, false, false, false, false, false, false, false] (by kernel_rfl) ?_
          refine wpAnyT_begin [11] (by kernel_rfl) (by kernel_rfl) ?_
          refine wpAnyT_take (oi := ⟨some 74, Op.move (Operand.tmp 8), 3, _, _, some (10, false)⟩) (v := .int .i64 (k : Int)) rfl (fun _ _ _ h => h) (by rfl) (by assumption) (fun wS hSw => ?_) ?_
          · (try dsimp only at hSw); subst hSw; go_simp <;> omega
          simp only [Act.put, List.setIfInBounds_toArray, List.set_cons_zero, List.set_cons_succ]
          refine wpAnyT_end ?_
          refine wpAnyH_listed #[true, true, true, true, true, true, true, true, true, true, true, true, false, false, false, false, false, false, false, false, false, false, false, false, false, false, false, false] (by kernel_rfl) ?_
          refine wpAnyT_begin [12] (by kernel_rfl) (by kernel_rfl) ?_
          refine wpAnyT_take (oi := ⟨some 75, Op.binOp BinOp.lss 3 (Operand.tmp 74) (Operand.const (Value.int IntKind.i64 3)) 3, 4, _, _, some (10, false)⟩) (v := .bool false) rfl (fun _ _ _ h => h) (by rfl) (by assumption) (fun wS hSw => ?_) ?_
          · (try dsimp only at hSw); subst hSw; go_simp <;> omega
          simp only [Act.put, List.setIfInBounds_toArray, List.set_cons_zero, List.set_cons_succ]
          refine wpAnyT_end ?_
          refine wpAnyH_listed #[true, true, true, true, true, true, true, true, true, true, true, true, true, false, false, false, false, false, false, false, false, false, false, false, false, false, false, false] (by kernel_rfl) ?_
          refine wpAnyT_begin [13] (by kernel_rfl) (by kernel_rfl) ?_
          refine wpAnyT_take (oi := ⟨some 76, Op.move (Operand.tmp 75), 4, _, _, some (10, false)⟩) (v := .bool false) rfl (fun _ _ _ h => h) (by rfl) (by assumption) (fun wS hSw => ?_) ?_
          · (try dsimp only at hSw); subst hSw; go_simp <;> omega
          simp only [Act.put, List.setIfInBounds_toArray, List.set_cons_zero, List.set_cons_succ]
          refine wpAnyT_end ?_
          refine wpAnyH_listed #[true, true, true, true, true, true, true, true, true, true, true, true, true, true, false, false, false, false, false, false, false, false, false, false, false, false, false, false] (by kernel_rfl) ?_
          refine wpAnyT_begin [14, 17, 23] (by kernel_rfl) (by kernel_rfl) ?_
          refine wpAnyT_skip (oi := ⟨some 77, Op.move (Operand.tmp 8), 3, _, _, some (13, true)⟩) rfl (fun _ _ _ h => h) (by rfl) (by assumption) ?_
          simp only [Act.put, List.setIfInBounds_toArray, List.set_cons_zero, List.set_cons_succ]
          refine wpAnyT_skip (oi := ⟨some 80, Op.move (Operand.tmp 8), 3, _, _, some (13, true)⟩) rfl (fun _ _ _ h => h) (by rfl) (by assumption) ?_
          simp only [Act.put, List.setIfInBounds_toArray, List.set_cons_zero, List.set_cons_succ]
          refine wpAnyT_skip (oi := ⟨some 86, Op.move (Operand.tmp 8), 3, _, _, some (13, true)⟩) rfl (fun _ _ _ h => h) (by rfl) (by assumption) ?_
          simp only [Act.put, List.setIfInBounds_toArray, List.set_cons_zero, List.set_cons_succ]
          refine wpAnyT_end ?_
          refine wpAnyH_listed #[true, true, true, true, true, true, true, true, true, true, true, true, true, true, true, false, false, true, false, false, false, false, false, true, false, false, false, false] (by kernel_rfl) ?_
          refine wpAnyT_begin [15, 18, 24] (by kernel_rfl) (by kernel_rfl) ?_
          refine wpAnyT_skip (oi := ⟨some 78, Op.indexAddr 26 (Operand.tmp 7) (Operand.tmp 77), 0, _, _, some (13, true)⟩) rfl (fun _ _ _ h => h) (by rfl) (by assumption) ?_
          simp only [Act.put, List.setIfInBounds_toArray, List.set_cons_zero, List.set_cons_succ]
          refine wpAnyT_skip (oi := ⟨some 81, Op.indexAddr 26 (Operand.tmp 7) (Operand.tmp 80), 0, _, _, some (13, true)⟩) rfl (fun _ _ _ h => h) (by rfl) (by assumption) ?_
          simp only [Act.put, List.setIfInBounds_toArray, List.set_cons_zero, List.set_cons_succ]
          refine wpAnyT_skip (oi := ⟨some 87, Op.binOp BinOp.add 3 (Operand.tmp 86) (Operand.const (Value.int IntKind.i64 1)) 3, 3, _, _, some (13, true)⟩) rfl (fun _ _ _ h => h) (by rfl) (by assumption) ?_
          simp only [Act.put, List.setIfInBounds_toArray, List.set_cons_zero, List.set_cons_succ]
          refine wpAnyT_end ?_
          refine wpAnyH_listed #[true, true, true, true, true, true, true, true, true, true, true, true, true, true, true, true, false, true, true, false, false, false, false, true, true, false, false, false] (by kernel_rfl) ?_
          refine wpAnyT_begin [16, 19] (by kernel_rfl) (by kernel_rfl) ?_
          refine wpAnyT_skip (oi := ⟨some 79, Op.load 3 (Operand.tmp 78), 3, _, _, some (13, true)⟩) rfl (fun _ _ _ h => h) (by rfl) (by assumption) ?_
          simp only [Act.put, List.setIfInBounds_toArray, List.set_cons_zero, List.set_cons_succ]
          refine wpAnyT_skip (oi := ⟨some 82, Op.load 3 (Operand.tmp 81), 3, _, _, some (13, true)⟩) rfl (fun _ _ _ h => h) (by rfl) (by assumption) ?_
          simp only [Act.put, List.setIfInBounds_toArray, List.set_cons_zero, List.set_cons_succ]
          refine wpAnyT_end ?_
          refine wpAnyH_listed #[true, true, true, true, true, true, true, true, true, true, true, true, true, true, true, true, true, true, true, true, false, false, false, true, true, false, false, false] (by kernel_rfl) ?_
          refine wpAnyT_begin [20] (by kernel_rfl) (by kernel_rfl) ?_
          refine wpAnyT_skip (oi := ⟨some 83, Op.binOp BinOp.mul 3 (Operand.tmp 79) (Operand.tmp 82) 3, 3, _, _, some (13, true)⟩) rfl (fun _ _ _ h => h) (by rfl) (by assumption) ?_
          simp only [Act.put, List.setIfInBounds_toArray, List.set_cons_zero, List.set_cons_succ]
          refine wpAnyT_end ?_
          refine wpAnyH_listed #[true, true, true, true, true, true, true, true, true, true, true, true, true, true, true, true, true, true, true, true, true, false, false, true, true, false, false, false] (by kernel_rfl) ?_
          refine wpAnyT_begin [21] (by kernel_rfl) (by kernel_rfl) ?_
          refine wpAnyT_skip (oi := ⟨some 84, Op.binOp BinOp.add 3 (Operand.tmp 83) (Operand.const (Value.int IntKind.i64 1)) 3, 3, _, _, some (13, true)⟩) rfl (fun _ _ _ h => h) (by rfl) (by assumption) ?_
          simp only [Act.put, List.setIfInBounds_toArray, List.set_cons_zero, List.set_cons_succ]
          refine wpAnyT_end ?_
          refine wpAnyH_listed #[true, true, true, true, true, true, true, true, true, true, true, true, true, true, true, true, true, true, true, true, true, true, false, true, true, false, false, false] (by kernel_rfl) ?_
          refine wpAnyT_begin [22] (by kernel_rfl) (by kernel_rfl) ?_
          refine wpAnyT_skip (oi := ⟨some 85, Op.call { callee := Callee.value (Operand.func 19), args := #[Operand.tmp 84], argTypes := #[3] }, 3, _, _, some (13, true)⟩) rfl (fun _ _ _ h => h) (by rfl) (by assumption) ?_
          simp only [Act.put, List.setIfInBounds_toArray, List.set_cons_zero, List.set_cons_succ]
          refine wpAnyT_end ?_
          refine wpAnyH_listed #[true, true, true, true, true, true, true, true, true, true, true, true, true, true, true, true, true, true, true, true, true, true, true, true, true, false, false, false] (by kernel_rfl) ?_
          refine wpAnyT_begin [25] (by kernel_rfl) (by kernel_rfl) ?_
          refine wpAnyT_skip (oi := ⟨some 88, Op.binOp BinOp.neq 3 (Operand.tmp 85) (Operand.tmp 87) 3, 4, _, _, some (13, true)⟩) rfl (fun _ _ _ h => h) (by rfl) (by assumption) ?_
          simp only [Act.put, List.setIfInBounds_toArray, List.set_cons_zero, List.set_cons_succ]
          refine wpAnyT_end ?_
          refine wpAnyH_listed #[true, true, true, true, true, true, true, true, true, true, true, true, true, true, true, true, true, true, true, true, true, true, true, true, true, true, false, false] (by kernel_rfl) ?_
          refine wpAnyT_begin [26] (by kernel_rfl) (by kernel_rfl) ?_
          refine wpAnyT_take (oi := ⟨some 89, Op.pick (Operand.tmp 76) (Operand.tmp 88) (Operand.const (Value.bool false)), 4, _, _, some (10, false)⟩) (v := .bool false) rfl (fun _ _ _ h => h) (by rfl) (by assumption) (fun wS hSw => ?_) ?_
          · (try dsimp only at hSw); subst hSw; go_simp <;> omega
          simp only [Act.put, List.setIfInBounds_toArray, List.set_cons_zero, List.set_cons_succ]
          refine wpAnyT_end ?_
          refine wpAnyH_listed #[true, true, true, true, true, true, true, true, true, true, true, true, true, true, true, true, true, true, true, true, true, true, true, true, true, true, true, false] (by kernel_rfl) ?_
          refine wpAnyT_begin [27] (by kernel_rfl) (by kernel_rfl) ?_
          refine wpAnyT_take (oi := ⟨some 90, Op.pick (Operand.tmp 73) (Operand.const (Value.bool true)) (Operand.tmp 89), 4, _, _, none⟩) (v := .bool false) rfl (fun _ _ _ h => h) (by rfl) (by assumption) (fun wS hSw => ?_) ?_
          · (try dsimp only at hSw); subst hSw; go_simp <;> omega
          simp only [Act.put, List.setIfInBounds_toArray, List.set_cons_zero, List.set_cons_succ]
          refine wpAnyT_end ?_
          refine wpAnyH_listed #[true, true, true, true, true, true, true, true, true, true, true, true, true, true, true, true, true, true, true, true, true, true, true, true, true, true, true, true] (by kernel_rfl) ?_
          refine wpAnyH_done (by kernel_rfl) ?_ _
          clear hHeld
          go_wp2_with fail
          go_roundw
          case rel => exact ⟨k + 1, by omega, by go_num, C2⟩
          case measure => simp [RowKit.intOf]; omega
      · obtain rfl : k = 4 := by omega
        have k0 := C.tail.fact (.head _) (i := 0) rfl
        have k1 := C.tail.fact (.head _) (i := 1) rfl
        simp only at k0 k1
        go_wp2_with fail
        refine (Has.call C (square_any a b _)).mono ?_
        rintro e w6 ⟨rfl, C6⟩
        clear k0 k1 C
        have k0 := C6.tail.fact (.head _) (i := 0) rfl
        have k1 := C6.tail.fact (.head _) (i := 1) rfl
        simp only at k0 k1
        obtain ⟨m0, m1⟩ := sqV_zero a1 b1
        have e1 := Lib.hid (show sqV (-b) a = sqV a b by rw [sqV_is a1 b1, sqV_is (by omega) a1, Int.neg_mul_neg, Int.add_comm])
        have e2 := Lib.hid (show sqV b a = sqV a b by rw [sqV_is a1 b1, sqV_is b1 a1, Int.add_comm])
        obtain ⟨n, hn⟩ : ∃ n, sqV a b = n := ⟨_, rfl⟩
        rw [hn] at m0 m1 e1 e2 ⊢
        have M1 := Lib.hid m1
        clear hn m1 ha hb
        have nb : wrap64 (-b) = -b := IntWalk.wrap64_in _ ⟨by omega, by omega⟩
        go_wp2_with fail
        refine (Has.call C6 (square_any (-b) a _)).mono ?_
        rintro e w7 ⟨rfl, C7⟩
        rw [e1.out]
        clear k0 k1 C6
        have k0 := C7.tail.fact (.head _) (i := 0) rfl
        have k1 := C7.tail.fact (.head _) (i := 1) rfl
        simp only at k0 k1
        go_wp2_with fail
        refine (Has.call C7 (square_any b a _)).mono ?_
        rintro e w8 ⟨rfl, C8⟩
        rw [e2.out]
        clear k0 k1 C7
        have k0 := C8.tail.fact (.head _) (i := 0) rfl
        have k1 := C8.tail.fact (.head _) (i := 1) rfl
        simp only at k0 k1
        go_wp2_with fail
        all_goals
          go_ret
          have m1 := M1.out
          refine ⟨ret_b ?_, C8.low⟩
          simp
          omega
end Go.Proofs.Ytfcoblapbcdaiaa
