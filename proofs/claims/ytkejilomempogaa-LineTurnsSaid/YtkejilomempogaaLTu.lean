/- The law of turns, directions and orders. -/
import Derived.Test.YtkejilomempogaaXt
import Derived.Test.YtkejilomempogaaSn
namespace Go.Proofs.Ytkejilomempogaa
open Go.RowKit Go.Lib

theorem v19 (v : Value) (ps : List (Int × Int)) (w : World) (hv : RowP w v ps) (hn : ps.length ≤ 1000) : Calls Try.prog 19 #[v] w fun e w' => ∃ u, e = .returned u ∧ RowP w' u ps.reverse ∧ Below w.heap.size w w' :=
  (lreverse_any v ps w hv hn).mono fun _ _ ⟨u, h1, h2, h3⟩ => ⟨u, h1, h2.row, h3⟩
/-- What the law compares. -/
structure TurnsF (A B X Y : List (Int × Int)) (p0 p1 z0 z1 n c t : Int) (cs r : Bool) : Prop where
  a1 : chkP X (simpleP X) = c
  a2 : chkP A (simpleP A) = c
  a3 : crossP X Y = cs
  a4 : crossP A B = cs
  a5 : crossP B A = cs
  a6 : crossP A.reverse B = cs
  a7 : chkP A.reverse (simpleP A.reverse) = c
  a8 : lengthP A.reverse = t
  a9 : lengthP A = t
  b1 : lengthP X = t
  b2 : sameP A.reverse.reverse A = true
  b3 : withinP X (z0, z1) n = r
  b4 : withinP A (p0, p1) n = r
  b5 : withinP A.reverse (p0, p1) n = r
theorem turnsF {A B : List (Int × Int)} (cA : Cs A) (cB : Cs B) (hB : 0 < B.length) (q0 q1 q2 n p0 p1 z0 z1 : Int) (hp : pt B 0 = (p0, p1)) (hz : mvP q0 q1 q2 (p0, p1) = (z0, z1)) :
    ∃ c t cs r, TurnsF A B (A.map (mvP q0 q1 q2)) (B.map (mvP q0 q1 q2)) p0 p1 z0 z1 n c t cs r := by
  have hX := mvd_of cA q0 q1 q2
  have hY := mvd_of cB q0 q1 q2
  have e := within_mvd hX hY hB n
  rw [pt_map _ hB, hp, hz] at e
  exact ⟨_, _, _, _, chk_mvd hX, rfl, cross_mvd hX hY, rfl, cross_swap A B, cross_rev A B, chk_rev (cs_rt cA), length_rev (cs_rt cA), rfl, length_mvd hX, by rw [List.reverse_reverse]; exact decide_eq_true rfl, e, rfl, within_rev A _ n⟩

attribute [local go_sem] Oper.semAt_some
set_option linter.unusedSimpArgs false in
set_option linter.unusedVariables false in
set_option maxRecDepth 100000 in
set_option maxHeartbeats 16000000 in
theorem turns_any (u v : Value) (xs ys : List Int) (q0 q1 q2 : Int) (w : World) (hu : RowN w u xs) (hv : RowN w v ys) (hq0 : -9223372036854775808 ≤ q0 ∧ q0 ≤ 9223372036854775807) (hq1 : -9223372036854775808 ≤ q1 ∧ q1 ≤ 9223372036854775807) (hq2 : -9223372036854775808 ≤ q2 ∧ q2 ≤ 9223372036854775807) :
    Calls Try.prog 6 #[u, v, .agg #[.int .i64 q0, .int .i64 q1, .int .i64 q2]] w fun e w' => e = .returned (.bool true) ∧ Below w.heap.size w w' := by
  have C0 := (Has.nil (Below.refl w.heap.size w)).push [.int .i64 q0, .int .i64 q1, .int .i64 q2] 34
  have RU := hu.later ((Below.refl _ w).alloc (Nat.le_refl _) (.cells #[.int .i64 q0, .int .i64 q1, .int .i64 q2] 34))
  have RV := hv.later ((Below.refl _ w).alloc (Nat.le_refl _) (.cells #[.int .i64 q0, .int .i64 q1, .int .i64 q2] 34))
  clear hu hv
  go_enter Try.func6, Try.ntmps6
  go_wp2_with fail
  change Has w _ (w.alloc (.cells #[.int .i64 q0, .int .i64 q1, .int .i64 q2] 34)) at C0
  change RowN (w.alloc (.cells #[.int .i64 q0, .int .i64 q1, .int .i64 q2] 34)) _ _ at RU
  change RowN (w.alloc (.cells #[.int .i64 q0, .int .i64 q1, .int .i64 q2] 34)) _ _ at RV
  generalize w.alloc (.cells #[.int .i64 q0, .int .i64 q1, .int .i64 q2] 34) = w0 at *
  generalize w.heap.size = Q at *
  refine (calls_two C0 (sane_any _)).mono ?_
  rintro e w1 ⟨rfl, C1, g1⟩
  replace RU := RU.later g1
  replace RV := RV.later g1
  clear C0 g1
  go_wp2_with fail
  refine (made_any _ _ _ RU).mono ?_
  rintro e w2 ⟨uA, A, rfl, RA, nA, cA, g2⟩
  have C2 := C1.later g2
  replace RU := RU.later g2
  replace RV := RV.later g2
  clear C1 g2
  clear RU
  go_wp2_with fail
  refine (made_any _ _ _ RV).mono ?_
  rintro e w3 ⟨uB, B, rfl, RB, nB, cB, g3⟩
  have C3 := C2.later g3
  replace RV := RV.later g3
  replace RA := RA.later g3
  clear C2 g3
  clear RV
  obtain ⟨p0, p1, hp⟩ := some_pt (ps := B) (k := 0) (by omega)
  obtain ⟨z0, z1, hz⟩ : ∃ z0 z1, mvP q0 q1 q2 (p0, p1) = (z0, z1) := ⟨_, _, rfl⟩
  obtain ⟨c, t, cs, r, HF⟩ := turnsF cA cB (by omega) q0 q1 q2 (q2.tmod 500) p0 p1 z0 z1 (pt_of hp) hz
  have HN : I64 (q2.tmod 500) := by unfold I64; have h1 := Int.tmod_lt_of_pos q2 (show (0 : Int) < 500 by decide); have h2 := Int.tmod_lt_of_pos (-q2) (show (0 : Int) < 500 by decide); rw [Int.neg_tmod] at h2; omega
  have lA : A.length ≤ 6 := nA.2
  have lB : B.length ≤ 6 := nB.2
  have lB1 : 1 ≤ B.length := by omega
  clear nA nB cA cB
  have HP := Lib.hid hp
  have HZ := Lib.hid hz
  clear hp hz
  obtain ⟨X, hX⟩ : ∃ X, A.map (mvP q0 q1 q2) = X := ⟨_, rfl⟩
  obtain ⟨Y, hY⟩ : ∃ Y, B.map (mvP q0 q1 q2) = Y := ⟨_, rfl⟩
  rw [hX, hY] at HF
  have HXX := Lib.hid hX
  have HYY := Lib.hid hY
  clear hX hY
  have HFF := Lib.hid HF
  clear HF
  go_wp2_with fail
  have Ca1 := C3.drew
  replace RA := RA.later ((Below.refl _ w3).drew)
  replace RB := RB.later ((Below.refl _ w3).drew)
  have HSa1 := Lib.hid (show ∀ w', Has w [(Q, [.int .i64 q0, .int .i64 q1, .int .i64 q2])] w' → (w'.cell? ⟨Q, 0, none⟩ = some (.int .i64 q0) ∧ w'.cell? ⟨Q, 1, none⟩ = some (.int .i64 q1) ∧ w'.cell? ⟨Q, 2, none⟩ = some (.int .i64 q2)) ∧ Has w [(Q, [.int .i64 q0, .int .i64 q1, .int .i64 q2])] w' from fun w' h => by
    exact ⟨⟨h.fact (.head _) (i := 0) rfl, h.fact (.head _) (i := 1) rfl, h.fact (.head _) (i := 2) rfl⟩, h⟩)
  refine wp_region_held_drew (S := (fun w' => (w'.cell? ⟨Q, 0, none⟩ = some (.int .i64 q0) ∧ w'.cell? ⟨Q, 1, none⟩ = some (.int .i64 q1) ∧ w'.cell? ⟨Q, 2, none⟩ = some (.int .i64 q2)) ∧ Has w [(Q, [.int .i64 q0, .int .i64 q1, .int .i64 q2])] w')) (by kernel_rfl) (HSa1.out _ Ca1) (fun hHeld => ?_)
  clear C3
  generalize w3.drew = wa1 at *
  refine wpAnyT_begin [0, 1, 3, 4] (by kernel_rfl) (by kernel_rfl) ?_
  refine wpAnyT_take (oi := ⟨some 22, Op.move (Operand.tmp 8), 23, _, _, none⟩) (v := uA) rfl (fun _ _ _ h => h) (by rfl) (by assumption) (fun wS hSw => ?_) ?_
  · (try dsimp only at hSw); go_simp
  simp only [Act.put, List.setIfInBounds_toArray, List.set_cons_zero, List.set_cons_succ]
  refine wpAnyT_take (oi := ⟨some 23, Op.load 34 (Operand.tmp 5), 34, _, _, none⟩) (v := .agg #[.int .i64 q0, .int .i64 q1, .int .i64 q2]) rfl (fun _ _ _ h => h) (by rfl) (by assumption) (fun wS hSw => ?_) ?_
  · (try dsimp only at hSw); go_simp
  simp only [Act.put, List.setIfInBounds_toArray, List.set_cons_zero, List.set_cons_succ]
  refine wpAnyT_take (oi := ⟨some 25, Op.move (Operand.tmp 9), 23, _, _, none⟩) (v := uB) rfl (fun _ _ _ h => h) (by rfl) (by assumption) (fun wS hSw => ?_) ?_
  · (try dsimp only at hSw); go_simp
  simp only [Act.put, List.setIfInBounds_toArray, List.set_cons_zero, List.set_cons_succ]
  refine wpAnyT_take (oi := ⟨some 26, Op.load 34 (Operand.tmp 5), 34, _, _, none⟩) (v := .agg #[.int .i64 q0, .int .i64 q1, .int .i64 q2]) rfl (fun _ _ _ h => h) (by rfl) (by assumption) (fun wS hSw => ?_) ?_
  · (try dsimp only at hSw); go_simp
  simp only [Act.put, List.setIfInBounds_toArray, List.set_cons_zero, List.set_cons_succ]
  refine wpAnyT_end ?_
  refine wpAnyH_listed #[true, true, false, true, true, false, false, false] (by kernel_rfl) ?_
  refine wpAnyH_ready (rs := [2]) (by kernel_rfl) (by simp) ?_
  refine AllReadyH.cons (o := ⟨some 24, Op.call { callee := Callee.value (Operand.func 28), args := #[Operand.tmp 22, Operand.tmp 23], argTypes := #[23, 34] }, 23, _, _, none⟩) rfl (fun K hK => ?_) AllReadyH.nil
  go_simp
  go_at_call 28
  refine (moved_any _ A q0 q1 q2 _ RA (by omega)).mono ?_
  rintro e wa2 ⟨ua2, rfl, Ra2, ga2⟩
  have Ca2 := Ca1.later ga2
  go_wp2_with fail
  clear hHeld
  refine hK.out _ _ (HSa1.out _ Ca2) (fun hHeld => ?_)
  clear hK K
  try simp only [List.setIfInBounds_toArray, List.set_cons_zero, List.set_cons_succ]
  refine wpAnyH_listed #[true, true, true, true, true, false, false, false] (by kernel_rfl) ?_
  replace RA := RA.later ga2
  replace RB := RB.later ga2
  clear Ca1 ga2
  refine wpAnyH_ready (rs := [5]) (by kernel_rfl) (by simp) ?_
  refine AllReadyH.cons (o := ⟨some 27, Op.call { callee := Callee.value (Operand.func 28), args := #[Operand.tmp 25, Operand.tmp 26], argTypes := #[23, 34] }, 23, _, _, none⟩) rfl (fun K hK => ?_) AllReadyH.nil
  go_simp
  go_at_call 28
  refine (moved_any _ B q0 q1 q2 _ RB (by omega)).mono ?_
  rintro e wa3 ⟨ua3, rfl, Ra3, ga3⟩
  have Ca3 := Ca2.later ga3
  go_wp2_with fail
  clear hHeld
  refine hK.out _ _ (HSa1.out _ Ca3) (fun hHeld => ?_)
  clear hK K
  try simp only [List.setIfInBounds_toArray, List.set_cons_zero, List.set_cons_succ]
  refine wpAnyH_listed #[true, true, true, true, true, true, false, false] (by kernel_rfl) ?_
  replace RA := RA.later ga3
  replace RB := RB.later ga3
  replace Ra2 := Ra2.later ga3
  clear Ca2 ga3
  refine wpAnyT_begin [6] (by kernel_rfl) (by kernel_rfl) ?_
  refine wpAnyT_take (oi := ⟨some 10, Op.assign (Operand.tmp 24), 23, _, _, none⟩) (v := ua2) rfl (fun _ _ _ h => h) (by rfl) (by assumption) (fun wS hSw => ?_) ?_
  · (try dsimp only at hSw); go_simp
  simp only [Act.put, List.setIfInBounds_toArray, List.set_cons_zero, List.set_cons_succ]
  refine wpAnyT_end ?_
  refine wpAnyH_listed #[true, true, true, true, true, true, true, false] (by kernel_rfl) ?_
  refine wpAnyT_begin [7] (by kernel_rfl) (by kernel_rfl) ?_
  refine wpAnyT_take (oi := ⟨some 11, Op.assign (Operand.tmp 27), 23, _, _, none⟩) (v := ua3) rfl (fun _ _ _ h => h) (by rfl) (by assumption) (fun wS hSw => ?_) ?_
  · (try dsimp only at hSw); go_simp
  simp only [Act.put, List.setIfInBounds_toArray, List.set_cons_zero, List.set_cons_succ]
  refine wpAnyT_end ?_
  refine wpAnyH_listed #[true, true, true, true, true, true, true, true] (by kernel_rfl) ?_
  refine wpAnyH_done (by kernel_rfl) ?_ _
  clear hHeld
  clear HSa1
  have RX : RowP _ _ X := HXX.out ▸ Ra2
  have RY : RowP _ _ Y := HYY.out ▸ Ra3
  clear Ra2 Ra3
  have RB0 := RB
  obtain ⟨aB, kB, rfl, -⟩ := RB0
  obtain ⟨bB, oB, rfl, -⟩ := RB.spot (by omega)
  obtain ⟨lb, hlb⟩ : ∃ n, B.length = n := ⟨_, rfl⟩
  rw [hlb] at RB lB lB1
  rw [hlb]
  have HLB := Lib.hid hlb
  clear hlb
  have b8 : 0 < lb := by omega
  have b9 : (0 : Int) < (lb : Int) := by omega
  have b7 : ¬ lb = 0 := by omega
  go_wp2_with fail
  have D0 := Ca3.drew
  replace RA := RA.later ((Below.refl _ wa3).drew)
  replace RB := RB.later ((Below.refl _ wa3).drew)
  replace RX := RX.later ((Below.refl _ wa3).drew)
  replace RY := RY.later ((Below.refl _ wa3).drew)
  clear Ca3
  have HRB := Lib.hid RB
  have HD0 := Lib.hid D0
  have HS4 := Lib.hid (show ∀ w', Below (wa3.drew).heap.size (wa3.drew) w' → (w'.cell? ⟨bB, oB, none⟩ = some (.int .i64 p0) ∧ w'.cell? ⟨bB, oB + 1, none⟩ = some (.int .i64 p1) ∧ w'.cell? ⟨Q, 0, none⟩ = some (.int .i64 q0) ∧ w'.cell? ⟨Q, 1, none⟩ = some (.int .i64 q1) ∧ w'.cell? ⟨Q, 2, none⟩ = some (.int .i64 q2)) ∧ Below (wa3.drew).heap.size (wa3.drew) w' from fun w' h => by
    have hR := HRB.out.later h
    have hC := HD0.out.later h
    exact ⟨⟨(RowP.cells0 hR HP.out).1, (RowP.cells0 hR HP.out).2, hC.fact (.head _) (i := 0) rfl, hC.fact (.head _) (i := 1) rfl, hC.fact (.head _) (i := 2) rfl⟩, h⟩)
  refine wp_region_held_drew (S := (fun w' => (w'.cell? ⟨bB, oB, none⟩ = some (.int .i64 p0) ∧ w'.cell? ⟨bB, oB + 1, none⟩ = some (.int .i64 p1) ∧ w'.cell? ⟨Q, 0, none⟩ = some (.int .i64 q0) ∧ w'.cell? ⟨Q, 1, none⟩ = some (.int .i64 q1) ∧ w'.cell? ⟨Q, 2, none⟩ = some (.int .i64 q2)) ∧ Below (wa3.drew).heap.size (wa3.drew) w')) (by kernel_rfl) (HS4.out _ (Below.refl _ _)) (fun hHeld => ?_)
  generalize wa3.drew = d0 at *
  refine wpAnyT_begin [0, 1, 2, 3, 4, 5] (by kernel_rfl) (by kernel_rfl) ?_
  refine wpAnyT_take (oi := ⟨some 28, Op.move (Operand.tmp 9), 23, _, _, none⟩) (v := .slice (some ⟨bB, oB, none⟩) lb kB) rfl (fun _ _ _ h => h) (by rfl) (by assumption) (fun wS hSw => ?_) ?_
  · (try dsimp only at hSw); go_simp
  simp only [Act.put, List.setIfInBounds_toArray, List.set_cons_zero, List.set_cons_succ]
  refine wpAnyT_take (oi := ⟨some 29, Op.indexAddr 23 (Operand.tmp 28) (Operand.const (Value.int IntKind.i64 0)), 0, _, _, none⟩) (v := .pointer (some ⟨bB, oB, none⟩)) rfl (fun _ _ _ h => h) (by rfl) (by assumption) (fun wS hSw => ?_) ?_
  · (try dsimp only at hSw); go_simp
  simp only [Act.put, List.setIfInBounds_toArray, List.set_cons_zero, List.set_cons_succ]
  refine wpAnyT_take (oi := ⟨some 30, Op.load 36 (Operand.tmp 29), 36, _, _, none⟩) (v := .agg #[.int .i64 p0, .int .i64 p1]) rfl (fun _ _ _ h => h) (by rfl) (by assumption) (fun wS hSw => ?_) ?_
  · (try dsimp only at hSw); go_simp
  simp only [Act.put, List.setIfInBounds_toArray, List.set_cons_zero, List.set_cons_succ]
  refine wpAnyT_take (oi := ⟨some 31, Op.indexAddr 34 (Operand.tmp 5) (Operand.const (Value.int IntKind.i64 2)), 0, _, _, none⟩) (v := .pointer (some ⟨Q, 2, none⟩)) rfl (fun _ _ _ h => h) (by rfl) (by assumption) (fun wS hSw => ?_) ?_
  · (try dsimp only at hSw); go_simp
  simp only [Act.put, List.setIfInBounds_toArray, List.set_cons_zero, List.set_cons_succ]
  refine wpAnyT_take (oi := ⟨some 32, Op.load 3 (Operand.tmp 31), 3, _, _, none⟩) (v := .int .i64 q2) rfl (fun _ _ _ h => h) (by rfl) (by assumption) (fun wS hSw => ?_) ?_
  · (try dsimp only at hSw); go_simp
  simp only [Act.put, List.setIfInBounds_toArray, List.set_cons_zero, List.set_cons_succ]
  refine wpAnyT_take (oi := ⟨some 33, Op.binOp BinOp.rem 3 (Operand.tmp 32) (Operand.const (Value.int IntKind.i64 500)) 3, 3, _, _, none⟩) (v := .int .i64 (q2.tmod 500)) rfl (fun _ _ _ h => h) (by rfl) (by assumption) (fun wS hSw => ?_) ?_
  · (try dsimp only at hSw); go_simp
  simp only [Act.put, List.setIfInBounds_toArray, List.set_cons_zero, List.set_cons_succ]
  refine wpAnyT_end ?_
  refine wpAnyH_listed #[true, true, true, true, true, true, false, false, false] (by kernel_rfl) ?_
  refine wpAnyH_ready (rs := [6]) (by kernel_rfl) (by simp) ?_
  refine AllReadyH.cons (o := ⟨some 12, Op.alloc 36, 0, _, _, none⟩) rfl (fun K hK => ?_) AllReadyH.nil
  go_simp
  have D1 := D0.push [.int .i64 0, .int .i64 0] 36
  change Has w _ (d0.alloc (.cells #[.int .i64 0, .int .i64 0] 36)) at D1
  have g1 : Below d0.heap.size d0 (d0.alloc (.cells #[.int .i64 0, .int .i64 0] 36)) := (Below.refl _ d0).alloc (Nat.le_refl _) _
  generalize d0.alloc (.cells #[.int .i64 0, .int .i64 0] 36) = d1 at *
  obtain ⟨P, hP⟩ : ∃ P, d0.heap.size = P := ⟨_, rfl⟩
  rw [hP] at D1
  try rw [hP]
  clear hHeld
  refine hK.out _ _ (HS4.out _ g1) (fun hHeld => ?_)
  clear hK K
  try simp only [List.setIfInBounds_toArray, List.set_cons_zero, List.set_cons_succ]
  refine wpAnyH_listed #[true, true, true, true, true, true, true, false, false] (by kernel_rfl) ?_
  refine wpAnyH_ready (rs := [7]) (by kernel_rfl) (by simp) ?_
  refine AllReadyH.cons (o := ⟨none, Op.store 36 (Operand.tmp 12) (Operand.tmp 30), 0, _, _, none⟩) rfl (fun K hK => ?_) AllReadyH.nil
  have k0 := D1.fact (.head _) (i := 0) rfl
  have k1 := D1.fact (.head _) (i := 1) rfl
  have f0 := D1.free (.head _) (i := 0) rfl
  have f1 := D1.free (.head _) (i := 1) rfl
  go_simp
  have D2 := D1.set2 (.int .i64 p0) (.int .i64 p1)
  have g2 : Below d0.heap.size d0 ((d1.setCell ⟨P, 0, none⟩ (.int .i64 p0)).setCell ⟨P, 1, none⟩ (.int .i64 p1)) := Below.setCell (p := ⟨P, 1, none⟩) (Below.setCell g1 (p := ⟨P, 0, none⟩) (show d0.heap.size ≤ P by omega) (.int .i64 p0)) (show d0.heap.size ≤ P by omega) (.int .i64 p1)
  generalize (d1.setCell ⟨P, 0, none⟩ (.int .i64 p0)).setCell ⟨P, 1, none⟩ (.int .i64 p1) = d2 at *
  clear k0 k1 f0 f1 D1 g1
  clear hHeld
  refine hK.out _ _ (HS4.out _ g2) (fun hHeld => ?_)
  clear hK K
  try simp only [List.setIfInBounds_toArray, List.set_cons_zero, List.set_cons_succ]
  refine wpAnyH_listed #[true, true, true, true, true, true, true, true, false] (by kernel_rfl) ?_
  refine wpAnyT_begin [8] (by kernel_rfl) (by kernel_rfl) ?_
  refine wpAnyT_take (oi := ⟨some 13, Op.assign (Operand.tmp 33), 3, _, _, none⟩) (v := .int .i64 (q2.tmod 500)) rfl (fun _ _ _ h => h) (by rfl) (by assumption) (fun wS hSw => ?_) ?_
  · (try dsimp only at hSw); go_simp
  simp only [Act.put, List.setIfInBounds_toArray, List.set_cons_zero, List.set_cons_succ]
  refine wpAnyT_end ?_
  refine wpAnyH_listed #[true, true, true, true, true, true, true, true, true] (by kernel_rfl) ?_
  refine wpAnyH_done (by kernel_rfl) ?_ _
  clear hHeld
  replace RA := RA.later g2
  replace RB := RB.later g2
  replace RX := RX.later g2
  replace RY := RY.later g2
  clear D0 g2 HS4 HD0 HRB hP
  have c0 := D2.fact (.head _) (i := 0) rfl
  have c1 := D2.fact (.head _) (i := 1) rfl
  obtain ⟨D3, RP⟩ := one_row D2 rfl [(p0, p1)] (by simp)
  have gP := (Below.refl d2.heap.size d2).alloc (Nat.le_refl _) (.cells (flat [(p0, p1)]).toArray 36)
  replace RA := RA.later gP
  replace RB := RB.later gP
  replace RX := RX.later gP
  replace RY := RY.later gP
  clear gP
  change Has w _ (d2.alloc (.cells #[.int .i64 p0, .int .i64 p1] 36)) at D3
  change RowP (d2.alloc (.cells #[.int .i64 p0, .int .i64 p1] 36)) _ _ at RP
  change RowP (d2.alloc (.cells #[.int .i64 p0, .int .i64 p1] 36)) _ _ at RA
  change RowP (d2.alloc (.cells #[.int .i64 p0, .int .i64 p1] 36)) _ _ at RB
  change RowP (d2.alloc (.cells #[.int .i64 p0, .int .i64 p1] 36)) _ _ at RX
  change RowP (d2.alloc (.cells #[.int .i64 p0, .int .i64 p1] 36)) _ _ at RY
  have c2 := D3.tail.tail.fact (.head _) (i := 0) rfl
  have c3 := D3.tail.tail.fact (.head _) (i := 1) rfl
  have c4 := D3.tail.tail.fact (.head _) (i := 2) rfl
  go_wp2_with fail
  clear c0 c1 c2 c3 c4 D2
  generalize d2.alloc (.cells #[.int .i64 p0, .int .i64 p1] 36) = d3 at *
  have D3' := D3.tail
  clear D3
  refine (moved_any _ _ q0 q1 q2 _ RP (by simp)).mono ?_
  rintro e w21 ⟨uZ, rfl, RZ0, g21⟩
  have C21 := D3'.later g21
  replace RA := RA.later g21
  replace RB := RB.later g21
  replace RX := RX.later g21
  replace RY := RY.later g21
  clear D3' g21
  clear RP
  have RZ : RowP _ _ [(z0, z1)] := (show [(p0, p1)].map (mvP q0 q1 q2) = [(z0, z1)] by simp only [List.map_cons, List.map_nil, HZ.out]) ▸ RZ0
  clear RZ0
  go_wp2_with fail
  refine (calls_two C21 (v12 _ _ _ RX _ HFF.out.a1)).mono ?_
  rintro e w22 ⟨rfl, C22, g22⟩
  replace RA := RA.later g22
  replace RB := RB.later g22
  replace RX := RX.later g22
  replace RY := RY.later g22
  replace RZ := RZ.later g22
  clear C21 g22
  go_wp2_with fail
  refine (calls_two C22 (v12 _ _ _ RA _ HFF.out.a2)).mono ?_
  rintro e w23 ⟨rfl, C23, g23⟩
  replace RA := RA.later g23
  replace RB := RB.later g23
  replace RX := RX.later g23
  replace RY := RY.later g23
  replace RZ := RZ.later g23
  clear C22 g23
  go_wp2_with fail
  refine (calls_two C23 (v26 _ _ _ _ _ RX RY _ HFF.out.a3)).mono ?_
  rintro e w24 ⟨rfl, C24, g24⟩
  replace RA := RA.later g24
  replace RB := RB.later g24
  replace RX := RX.later g24
  replace RY := RY.later g24
  replace RZ := RZ.later g24
  clear C23 g24
  go_wp2_with fail
  refine (calls_two C24 (v26 _ _ _ _ _ RA RB _ HFF.out.a4)).mono ?_
  rintro e w25 ⟨rfl, C25, g25⟩
  replace RA := RA.later g25
  replace RB := RB.later g25
  replace RX := RX.later g25
  replace RY := RY.later g25
  replace RZ := RZ.later g25
  clear C24 g25
  go_wp2_with fail
  refine (calls_two C25 (v26 _ _ _ _ _ RB RA _ HFF.out.a5)).mono ?_
  rintro e w26 ⟨rfl, C26, g26⟩
  replace RA := RA.later g26
  replace RB := RB.later g26
  replace RX := RX.later g26
  replace RY := RY.later g26
  replace RZ := RZ.later g26
  clear C25 g26
  go_wp2_with fail
  refine (calls_two C26 (v26 _ _ _ _ _ RA RB _ HFF.out.a4)).mono ?_
  rintro e w27 ⟨rfl, C27, g27⟩
  replace RA := RA.later g27
  replace RB := RB.later g27
  replace RX := RX.later g27
  replace RY := RY.later g27
  replace RZ := RZ.later g27
  clear C26 g27
  go_wp2_with fail
  refine (v19 _ _ _ RA (by omega)).mono ?_
  rintro e w28 ⟨uR, rfl, RR, g28⟩
  have C28 := C27.later g28
  replace RA := RA.later g28
  replace RB := RB.later g28
  replace RX := RX.later g28
  replace RY := RY.later g28
  replace RZ := RZ.later g28
  clear C27 g28
  go_wp2_with fail
  refine (calls_two C28 (v26 _ _ _ _ _ RR RB _ HFF.out.a6)).mono ?_
  rintro e w29 ⟨rfl, C29, g29⟩
  replace RA := RA.later g29
  replace RB := RB.later g29
  replace RX := RX.later g29
  replace RY := RY.later g29
  replace RZ := RZ.later g29
  replace RR := RR.later g29
  clear C28 g29
  go_wp2_with fail
  refine (calls_two C29 (v26 _ _ _ _ _ RA RB _ HFF.out.a4)).mono ?_
  rintro e w30 ⟨rfl, C30, g30⟩
  replace RA := RA.later g30
  replace RB := RB.later g30
  replace RX := RX.later g30
  replace RY := RY.later g30
  replace RZ := RZ.later g30
  replace RR := RR.later g30
  clear C29 g30
  clear RR
  go_wp2_with fail
  refine (v19 _ _ _ RA (by omega)).mono ?_
  rintro e w31 ⟨uR, rfl, RR, g31⟩
  have C31 := C30.later g31
  replace RA := RA.later g31
  replace RB := RB.later g31
  replace RX := RX.later g31
  replace RY := RY.later g31
  replace RZ := RZ.later g31
  clear C30 g31
  go_wp2_with fail
  refine (calls_two C31 (v12 _ _ _ RR _ HFF.out.a7)).mono ?_
  rintro e w32 ⟨rfl, C32, g32⟩
  replace RA := RA.later g32
  replace RB := RB.later g32
  replace RX := RX.later g32
  replace RY := RY.later g32
  replace RZ := RZ.later g32
  replace RR := RR.later g32
  clear C31 g32
  go_wp2_with fail
  refine (calls_two C32 (v12 _ _ _ RA _ HFF.out.a2)).mono ?_
  rintro e w33 ⟨rfl, C33, g33⟩
  replace RA := RA.later g33
  replace RB := RB.later g33
  replace RX := RX.later g33
  replace RY := RY.later g33
  replace RZ := RZ.later g33
  replace RR := RR.later g33
  clear C32 g33
  clear RR
  go_wp2_with fail
  refine (v19 _ _ _ RA (by omega)).mono ?_
  rintro e w34 ⟨uR, rfl, RR, g34⟩
  have C34 := C33.later g34
  replace RA := RA.later g34
  replace RB := RB.later g34
  replace RX := RX.later g34
  replace RY := RY.later g34
  replace RZ := RZ.later g34
  clear C33 g34
  go_wp2_with fail
  refine (calls_two C34 (v16 _ _ _ RR _ HFF.out.a8)).mono ?_
  rintro e w35 ⟨rfl, C35, g35⟩
  replace RA := RA.later g35
  replace RB := RB.later g35
  replace RX := RX.later g35
  replace RY := RY.later g35
  replace RZ := RZ.later g35
  replace RR := RR.later g35
  clear C34 g35
  go_wp2_with fail
  refine (calls_two C35 (v16 _ _ _ RA _ HFF.out.a9)).mono ?_
  rintro e w36 ⟨rfl, C36, g36⟩
  replace RA := RA.later g36
  replace RB := RB.later g36
  replace RX := RX.later g36
  replace RY := RY.later g36
  replace RZ := RZ.later g36
  replace RR := RR.later g36
  clear C35 g36
  go_wp2_with fail
  refine (calls_two C36 (v16 _ _ _ RX _ HFF.out.b1)).mono ?_
  rintro e w37 ⟨rfl, C37, g37⟩
  replace RA := RA.later g37
  replace RB := RB.later g37
  replace RX := RX.later g37
  replace RY := RY.later g37
  replace RZ := RZ.later g37
  replace RR := RR.later g37
  clear C36 g37
  go_wp2_with fail
  refine (calls_two C37 (v16 _ _ _ RA _ HFF.out.a9)).mono ?_
  rintro e w38 ⟨rfl, C38, g38⟩
  replace RA := RA.later g38
  replace RB := RB.later g38
  replace RX := RX.later g38
  replace RY := RY.later g38
  replace RZ := RZ.later g38
  replace RR := RR.later g38
  clear C37 g38
  clear RR
  go_wp2_with fail
  refine (v19 _ _ _ RA (by omega)).mono ?_
  rintro e w39 ⟨uR, rfl, RR, g39⟩
  have C39 := C38.later g39
  replace RA := RA.later g39
  replace RB := RB.later g39
  replace RX := RX.later g39
  replace RY := RY.later g39
  replace RZ := RZ.later g39
  clear C38 g39
  go_wp2_with fail
  refine (v19 _ _ _ RR (by rw [List.length_reverse]; omega)).mono ?_
  rintro e w40 ⟨uT, rfl, RT, g40⟩
  have C40 := C39.later g40
  replace RA := RA.later g40
  replace RB := RB.later g40
  replace RX := RX.later g40
  replace RY := RY.later g40
  replace RZ := RZ.later g40
  replace RR := RR.later g40
  clear C39 g40
  go_wp2_with fail
  refine (calls_two C40 (v21 _ _ _ _ _ RT RA _ HFF.out.b2)).mono ?_
  rintro e w41 ⟨rfl, C41, g41⟩
  replace RA := RA.later g41
  replace RB := RB.later g41
  replace RX := RX.later g41
  replace RY := RY.later g41
  replace RZ := RZ.later g41
  replace RR := RR.later g41
  replace RT := RT.later g41
  clear C40 g41
  clear RR RT
  have RZ0 := RZ
  obtain ⟨aZ, kZ, rfl, -⟩ := RZ0
  obtain ⟨bz, oz, rfl, -⟩ := RZ.spot (by simp)
  go_wp2_with fail
  have E0 := Has.nil (Below.refl w41.heap.size w41)
  have HE := Lib.hid C41
  have HRZ := Lib.hid RZ
  clear RZ
  have Cb1 := E0.drew
  replace RA := RA.later ((Below.refl _ w41).drew)
  replace RX := RX.later ((Below.refl _ w41).drew)
  have HSb1 := Lib.hid (show ∀ w', Has w41 [] w' → (w'.cell? ⟨bz, oz, none⟩ = some (.int .i64 z0) ∧ w'.cell? ⟨bz, oz + 1, none⟩ = some (.int .i64 z1) ∧ w'.cell? ⟨P, 0, none⟩ = some (.int .i64 p0) ∧ w'.cell? ⟨P, 1, none⟩ = some (.int .i64 p1)) ∧ Has w41 [] w' from fun w' h => by
    have hRZ := HRZ.out.later h.low
    have hHE := HE.out.later h.low
    exact ⟨⟨(RowP.cells0 hRZ (show [(z0, z1)][0]? = some (z0, z1) from rfl)).1, (RowP.cells0 hRZ (show [(z0, z1)][0]? = some (z0, z1) from rfl)).2, hHE.fact (.head _) (i := 0) rfl, hHE.fact (.head _) (i := 1) rfl⟩, h⟩)
  refine wp_region_held_drew (S := (fun w' => (w'.cell? ⟨bz, oz, none⟩ = some (.int .i64 z0) ∧ w'.cell? ⟨bz, oz + 1, none⟩ = some (.int .i64 z1) ∧ w'.cell? ⟨P, 0, none⟩ = some (.int .i64 p0) ∧ w'.cell? ⟨P, 1, none⟩ = some (.int .i64 p1)) ∧ Has w41 [] w')) (by kernel_rfl) (HSb1.out _ Cb1) (fun hHeld => ?_)
  clear E0
  generalize w41.drew = wb1 at *
  refine wpAnyT_begin [0] (by kernel_rfl) (by kernel_rfl) ?_
  refine wpAnyT_take (oi := ⟨some 99, Op.move (Operand.tmp 7), 4, _, _, none⟩) (v := .bool true) rfl (fun _ _ _ h => h) (by rfl) (by assumption) (fun wS hSw => ?_) ?_
  · (try dsimp only at hSw); go_simp
  simp only [Act.put, List.setIfInBounds_toArray, List.set_cons_zero, List.set_cons_succ]
  refine wpAnyT_end ?_
  refine wpAnyH_listed #[true, false, false, false, false, false, false, false, false, false, false, false, false, false, false, false, false, false, false, false, false, false, false, false, false, false, false, false, false, false, false, false, false] (by kernel_rfl) ?_
  refine wpAnyT_begin [1] (by kernel_rfl) (by kernel_rfl) ?_
  refine wpAnyT_take (oi := ⟨some 100, Op.move (Operand.tmp 99), 4, _, _, none⟩) (v := .bool true) rfl (fun _ _ _ h => h) (by rfl) (by assumption) (fun wS hSw => ?_) ?_
  · (try dsimp only at hSw); go_simp
  simp only [Act.put, List.setIfInBounds_toArray, List.set_cons_zero, List.set_cons_succ]
  refine wpAnyT_end ?_
  refine wpAnyH_listed #[true, true, false, false, false, false, false, false, false, false, false, false, false, false, false, false, false, false, false, false, false, false, false, false, false, false, false, false, false, false, false, false, false] (by kernel_rfl) ?_
  refine wpAnyT_begin [2] (by kernel_rfl) (by kernel_rfl) ?_
  refine wpAnyT_take (oi := ⟨some 101, Op.move (Operand.tmp 15), 4, _, _, some (1, true)⟩) (v := .bool true) rfl (fun _ _ _ h => h) (by rfl) (by assumption) (fun wS hSw => ?_) ?_
  · (try dsimp only at hSw); go_simp
  simp only [Act.put, List.setIfInBounds_toArray, List.set_cons_zero, List.set_cons_succ]
  refine wpAnyT_end ?_
  refine wpAnyH_listed #[true, true, true, false, false, false, false, false, false, false, false, false, false, false, false, false, false, false, false, false, false, false, false, false, false, false, false, false, false, false, false, false, false] (by kernel_rfl) ?_
  refine wpAnyT_begin [3] (by kernel_rfl) (by kernel_rfl) ?_
  refine wpAnyT_take (oi := ⟨some 102, Op.pick (Operand.tmp 100) (Operand.tmp 101) (Operand.const (Value.bool false)), 4, _, _, none⟩) (v := .bool true) rfl (fun _ _ _ h => h) (by rfl) (by assumption) (fun wS hSw => ?_) ?_
  · (try dsimp only at hSw); go_simp
  simp only [Act.put, List.setIfInBounds_toArray, List.set_cons_zero, List.set_cons_succ]
  refine wpAnyT_end ?_
  refine wpAnyH_listed #[true, true, true, true, false, false, false, false, false, false, false, false, false, false, false, false, false, false, false, false, false, false, false, false, false, false, false, false, false, false, false, false, false] (by kernel_rfl) ?_
  refine wpAnyT_begin [4] (by kernel_rfl) (by kernel_rfl) ?_
  refine wpAnyT_take (oi := ⟨some 103, Op.move (Operand.tmp 102), 4, _, _, none⟩) (v := .bool true) rfl (fun _ _ _ h => h) (by rfl) (by assumption) (fun wS hSw => ?_) ?_
  · (try dsimp only at hSw); go_simp
  simp only [Act.put, List.setIfInBounds_toArray, List.set_cons_zero, List.set_cons_succ]
  refine wpAnyT_end ?_
  refine wpAnyH_listed #[true, true, true, true, true, false, false, false, false, false, false, false, false, false, false, false, false, false, false, false, false, false, false, false, false, false, false, false, false, false, false, false, false] (by kernel_rfl) ?_
  refine wpAnyT_begin [5] (by kernel_rfl) (by kernel_rfl) ?_
  refine wpAnyT_take (oi := ⟨some 104, Op.move (Operand.tmp 16), 4, _, _, some (4, true)⟩) (v := .bool true) rfl (fun _ _ _ h => h) (by rfl) (by assumption) (fun wS hSw => ?_) ?_
  · (try dsimp only at hSw); go_simp
  simp only [Act.put, List.setIfInBounds_toArray, List.set_cons_zero, List.set_cons_succ]
  refine wpAnyT_end ?_
  refine wpAnyH_listed #[true, true, true, true, true, true, false, false, false, false, false, false, false, false, false, false, false, false, false, false, false, false, false, false, false, false, false, false, false, false, false, false, false] (by kernel_rfl) ?_
  refine wpAnyT_begin [6] (by kernel_rfl) (by kernel_rfl) ?_
  refine wpAnyT_take (oi := ⟨some 105, Op.pick (Operand.tmp 103) (Operand.tmp 104) (Operand.const (Value.bool false)), 4, _, _, none⟩) (v := .bool true) rfl (fun _ _ _ h => h) (by rfl) (by assumption) (fun wS hSw => ?_) ?_
  · (try dsimp only at hSw); go_simp
  simp only [Act.put, List.setIfInBounds_toArray, List.set_cons_zero, List.set_cons_succ]
  refine wpAnyT_end ?_
  refine wpAnyH_listed #[true, true, true, true, true, true, true, false, false, false, false, false, false, false, false, false, false, false, false, false, false, false, false, false, false, false, false, false, false, false, false, false, false] (by kernel_rfl) ?_
  refine wpAnyT_begin [7] (by kernel_rfl) (by kernel_rfl) ?_
  refine wpAnyT_take (oi := ⟨some 106, Op.move (Operand.tmp 105), 4, _, _, none⟩) (v := .bool true) rfl (fun _ _ _ h => h) (by rfl) (by assumption) (fun wS hSw => ?_) ?_
  · (try dsimp only at hSw); go_simp
  simp only [Act.put, List.setIfInBounds_toArray, List.set_cons_zero, List.set_cons_succ]
  refine wpAnyT_end ?_
  refine wpAnyH_listed #[true, true, true, true, true, true, true, true, false, false, false, false, false, false, false, false, false, false, false, false, false, false, false, false, false, false, false, false, false, false, false, false, false] (by kernel_rfl) ?_
  refine wpAnyT_begin [8, 9, 12, 14, 15, 16] (by kernel_rfl) (by kernel_rfl) ?_
  refine wpAnyT_take (oi := ⟨some 107, Op.move (Operand.tmp 10), 23, _, _, some (7, true)⟩) (v := ua2) rfl (fun _ _ _ h => h) (by rfl) (by assumption) (fun wS hSw => ?_) ?_
  · (try dsimp only at hSw); go_simp
  simp only [Act.put, List.setIfInBounds_toArray, List.set_cons_zero, List.set_cons_succ]
  refine wpAnyT_take (oi := ⟨some 108, Op.move (Operand.tmp 14), 23, _, _, some (7, true)⟩) (v := .slice (some ⟨bz, oz, none⟩) 1 kZ) rfl (fun _ _ _ h => h) (by rfl) (by assumption) (fun wS hSw => ?_) ?_
  · (try dsimp only at hSw); go_simp
  simp only [Act.put, List.setIfInBounds_toArray, List.set_cons_zero, List.set_cons_succ]
  refine wpAnyT_take (oi := ⟨some 111, Op.move (Operand.tmp 13), 3, _, _, some (7, true)⟩) (v := .int .i64 (q2.tmod 500)) rfl (fun _ _ _ h => h) (by rfl) (by assumption) (fun wS hSw => ?_) ?_
  · (try dsimp only at hSw); go_simp
  simp only [Act.put, List.setIfInBounds_toArray, List.set_cons_zero, List.set_cons_succ]
  refine wpAnyT_take (oi := ⟨some 113, Op.move (Operand.tmp 8), 23, _, _, some (7, true)⟩) (v := uA) rfl (fun _ _ _ h => h) (by rfl) (by assumption) (fun wS hSw => ?_) ?_
  · (try dsimp only at hSw); go_simp
  simp only [Act.put, List.setIfInBounds_toArray, List.set_cons_zero, List.set_cons_succ]
  refine wpAnyT_take (oi := ⟨some 114, Op.load 36 (Operand.tmp 12), 36, _, _, some (7, true)⟩) (v := .agg #[.int .i64 p0, .int .i64 p1]) rfl (fun _ _ _ h => h) (by rfl) (by assumption) (fun wS hSw => ?_) ?_
  · (try dsimp only at hSw); go_simp
  simp only [Act.put, List.setIfInBounds_toArray, List.set_cons_zero, List.set_cons_succ]
  refine wpAnyT_take (oi := ⟨some 115, Op.move (Operand.tmp 13), 3, _, _, some (7, true)⟩) (v := .int .i64 (q2.tmod 500)) rfl (fun _ _ _ h => h) (by rfl) (by assumption) (fun wS hSw => ?_) ?_
  · (try dsimp only at hSw); go_simp
  simp only [Act.put, List.setIfInBounds_toArray, List.set_cons_zero, List.set_cons_succ]
  refine wpAnyT_end ?_
  refine wpAnyH_listed #[true, true, true, true, true, true, true, true, true, true, false, false, true, false, true, true, true, false, false, false, false, false, false, false, false, false, false, false, false, false, false, false, false] (by kernel_rfl) ?_
  refine wpAnyT_begin [10] (by kernel_rfl) (by kernel_rfl) ?_
  refine wpAnyT_take (oi := ⟨some 109, Op.indexAddr 23 (Operand.tmp 108) (Operand.const (Value.int IntKind.i64 0)), 0, _, _, some (7, true)⟩) (v := .pointer (some ⟨bz, oz, none⟩)) rfl (fun _ _ _ h => h) (by rfl) (by assumption) (fun wS hSw => ?_) ?_
  · (try dsimp only at hSw); go_simp
  simp only [Act.put, List.setIfInBounds_toArray, List.set_cons_zero, List.set_cons_succ]
  refine wpAnyT_end ?_
  refine wpAnyH_listed #[true, true, true, true, true, true, true, true, true, true, true, false, true, false, true, true, true, false, false, false, false, false, false, false, false, false, false, false, false, false, false, false, false] (by kernel_rfl) ?_
  refine wpAnyT_begin [11] (by kernel_rfl) (by kernel_rfl) ?_
  refine wpAnyT_take (oi := ⟨some 110, Op.load 36 (Operand.tmp 109), 36, _, _, some (7, true)⟩) (v := .agg #[.int .i64 z0, .int .i64 z1]) rfl (fun _ _ _ h => h) (by rfl) (by assumption) (fun wS hSw => ?_) ?_
  · (try dsimp only at hSw); go_simp
  simp only [Act.put, List.setIfInBounds_toArray, List.set_cons_zero, List.set_cons_succ]
  refine wpAnyT_end ?_
  refine wpAnyH_listed #[true, true, true, true, true, true, true, true, true, true, true, true, true, false, true, true, true, false, false, false, false, false, false, false, false, false, false, false, false, false, false, false, false] (by kernel_rfl) ?_
  refine wpAnyH_ready (rs := [13]) (by kernel_rfl) (by simp) ?_
  refine AllReadyH.cons (o := ⟨some 112, Op.call { callee := Callee.value (Operand.func 23), args := #[Operand.tmp 107, Operand.tmp 110, Operand.tmp 111], argTypes := #[23, 36, 3] }, 4, _, _, some (7, true)⟩) rfl (fun K hK => ?_) AllReadyH.nil
  go_simp
  go_at_call 23
  refine (calls_two Cb1 (v23 _ _ z0 z1 _ _ RX HN r HFF.out.b3)).mono ?_
  rintro e wb2 ⟨rfl, Cb2, gb2⟩
  go_wp2_with fail
  clear hHeld
  refine hK.out _ _ (HSb1.out _ Cb2) (fun hHeld => ?_)
  clear hK K
  try simp only [List.setIfInBounds_toArray, List.set_cons_zero, List.set_cons_succ]
  refine wpAnyH_listed #[true, true, true, true, true, true, true, true, true, true, true, true, true, true, true, true, true, false, false, false, false, false, false, false, false, false, false, false, false, false, false, false, false] (by kernel_rfl) ?_
  replace RA := RA.later gb2
  replace RX := RX.later gb2
  clear Cb1 gb2
  refine wpAnyH_ready (rs := [17]) (by kernel_rfl) (by simp) ?_
  refine AllReadyH.cons (o := ⟨some 116, Op.call { callee := Callee.value (Operand.func 23), args := #[Operand.tmp 113, Operand.tmp 114, Operand.tmp 115], argTypes := #[23, 36, 3] }, 4, _, _, some (7, true)⟩) rfl (fun K hK => ?_) AllReadyH.nil
  go_simp
  go_at_call 23
  refine (calls_two Cb2 (v23 _ _ p0 p1 _ _ RA HN r HFF.out.b4)).mono ?_
  rintro e wb3 ⟨rfl, Cb3, gb3⟩
  go_wp2_with fail
  clear hHeld
  refine hK.out _ _ (HSb1.out _ Cb3) (fun hHeld => ?_)
  clear hK K
  try simp only [List.setIfInBounds_toArray, List.set_cons_zero, List.set_cons_succ]
  refine wpAnyH_listed #[true, true, true, true, true, true, true, true, true, true, true, true, true, true, true, true, true, true, false, false, false, false, false, false, false, false, false, false, false, false, false, false, false] (by kernel_rfl) ?_
  replace RA := RA.later gb3
  replace RX := RX.later gb3
  clear Cb2 gb3
  refine wpAnyT_begin [18] (by kernel_rfl) (by kernel_rfl) ?_
  refine wpAnyT_take (oi := ⟨some 117, Op.binOp BinOp.eql 4 (Operand.tmp 112) (Operand.tmp 116) 4, 4, _, _, some (7, true)⟩) (v := .bool true) rfl (fun _ _ _ h => h) (by rfl) (by assumption) (fun wS hSw => ?_) ?_
  · (try dsimp only at hSw); go_simp
  simp only [Act.put, List.setIfInBounds_toArray, List.set_cons_zero, List.set_cons_succ]
  refine wpAnyT_end ?_
  refine wpAnyH_listed #[true, true, true, true, true, true, true, true, true, true, true, true, true, true, true, true, true, true, true, false, false, false, false, false, false, false, false, false, false, false, false, false, false] (by kernel_rfl) ?_
  refine wpAnyT_begin [19] (by kernel_rfl) (by kernel_rfl) ?_
  refine wpAnyT_take (oi := ⟨some 118, Op.pick (Operand.tmp 106) (Operand.tmp 117) (Operand.const (Value.bool false)), 4, _, _, none⟩) (v := .bool true) rfl (fun _ _ _ h => h) (by rfl) (by assumption) (fun wS hSw => ?_) ?_
  · (try dsimp only at hSw); go_simp
  simp only [Act.put, List.setIfInBounds_toArray, List.set_cons_zero, List.set_cons_succ]
  refine wpAnyT_end ?_
  refine wpAnyH_listed #[true, true, true, true, true, true, true, true, true, true, true, true, true, true, true, true, true, true, true, true, false, false, false, false, false, false, false, false, false, false, false, false, false] (by kernel_rfl) ?_
  refine wpAnyT_begin [20] (by kernel_rfl) (by kernel_rfl) ?_
  refine wpAnyT_take (oi := ⟨some 119, Op.move (Operand.tmp 118), 4, _, _, none⟩) (v := .bool true) rfl (fun _ _ _ h => h) (by rfl) (by assumption) (fun wS hSw => ?_) ?_
  · (try dsimp only at hSw); go_simp
  simp only [Act.put, List.setIfInBounds_toArray, List.set_cons_zero, List.set_cons_succ]
  refine wpAnyT_end ?_
  refine wpAnyH_listed #[true, true, true, true, true, true, true, true, true, true, true, true, true, true, true, true, true, true, true, true, true, false, false, false, false, false, false, false, false, false, false, false, false] (by kernel_rfl) ?_
  refine wpAnyT_begin [21, 23, 24, 26, 27, 28] (by kernel_rfl) (by kernel_rfl) ?_
  refine wpAnyT_take (oi := ⟨some 120, Op.move (Operand.tmp 8), 23, _, _, some (20, true)⟩) (v := uA) rfl (fun _ _ _ h => h) (by rfl) (by assumption) (fun wS hSw => ?_) ?_
  · (try dsimp only at hSw); go_simp
  simp only [Act.put, List.setIfInBounds_toArray, List.set_cons_zero, List.set_cons_succ]
  refine wpAnyT_take (oi := ⟨some 122, Op.load 36 (Operand.tmp 12), 36, _, _, some (20, true)⟩) (v := .agg #[.int .i64 p0, .int .i64 p1]) rfl (fun _ _ _ h => h) (by rfl) (by assumption) (fun wS hSw => ?_) ?_
  · (try dsimp only at hSw); go_simp
  simp only [Act.put, List.setIfInBounds_toArray, List.set_cons_zero, List.set_cons_succ]
  refine wpAnyT_take (oi := ⟨some 123, Op.move (Operand.tmp 13), 3, _, _, some (20, true)⟩) (v := .int .i64 (q2.tmod 500)) rfl (fun _ _ _ h => h) (by rfl) (by assumption) (fun wS hSw => ?_) ?_
  · (try dsimp only at hSw); go_simp
  simp only [Act.put, List.setIfInBounds_toArray, List.set_cons_zero, List.set_cons_succ]
  refine wpAnyT_take (oi := ⟨some 125, Op.move (Operand.tmp 8), 23, _, _, some (20, true)⟩) (v := uA) rfl (fun _ _ _ h => h) (by rfl) (by assumption) (fun wS hSw => ?_) ?_
  · (try dsimp only at hSw); go_simp
  simp only [Act.put, List.setIfInBounds_toArray, List.set_cons_zero, List.set_cons_succ]
  refine wpAnyT_take (oi := ⟨some 126, Op.load 36 (Operand.tmp 12), 36, _, _, some (20, true)⟩) (v := .agg #[.int .i64 p0, .int .i64 p1]) rfl (fun _ _ _ h => h) (by rfl) (by assumption) (fun wS hSw => ?_) ?_
  · (try dsimp only at hSw); go_simp
  simp only [Act.put, List.setIfInBounds_toArray, List.set_cons_zero, List.set_cons_succ]
  refine wpAnyT_take (oi := ⟨some 127, Op.move (Operand.tmp 13), 3, _, _, some (20, true)⟩) (v := .int .i64 (q2.tmod 500)) rfl (fun _ _ _ h => h) (by rfl) (by assumption) (fun wS hSw => ?_) ?_
  · (try dsimp only at hSw); go_simp
  simp only [Act.put, List.setIfInBounds_toArray, List.set_cons_zero, List.set_cons_succ]
  refine wpAnyT_end ?_
  refine wpAnyH_listed #[true, true, true, true, true, true, true, true, true, true, true, true, true, true, true, true, true, true, true, true, true, true, false, true, true, false, true, true, true, false, false, false, false] (by kernel_rfl) ?_
  refine wpAnyH_ready (rs := [22]) (by kernel_rfl) (by simp) ?_
  refine AllReadyH.cons (o := ⟨some 121, Op.call { callee := Callee.value (Operand.func 19), args := #[Operand.tmp 120], argTypes := #[23] }, 23, _, _, some (20, true)⟩) rfl (fun K hK => ?_) AllReadyH.nil
  go_simp
  go_at_call 19
  refine (v19 _ _ _ RA (by omega)).mono ?_
  rintro e wb4 ⟨ub4, rfl, Rb4, gb4⟩
  have Cb4 := Cb3.later gb4
  go_wp2_with fail
  clear hHeld
  refine hK.out _ _ (HSb1.out _ Cb4) (fun hHeld => ?_)
  clear hK K
  try simp only [List.setIfInBounds_toArray, List.set_cons_zero, List.set_cons_succ]
  refine wpAnyH_listed #[true, true, true, true, true, true, true, true, true, true, true, true, true, true, true, true, true, true, true, true, true, true, true, true, true, false, true, true, true, false, false, false, false] (by kernel_rfl) ?_
  replace RA := RA.later gb4
  replace RX := RX.later gb4
  clear Cb3 gb4
  refine wpAnyH_ready (rs := [25]) (by kernel_rfl) (by simp) ?_
  refine AllReadyH.cons (o := ⟨some 124, Op.call { callee := Callee.value (Operand.func 23), args := #[Operand.tmp 121, Operand.tmp 122, Operand.tmp 123], argTypes := #[23, 36, 3] }, 4, _, _, some (20, true)⟩) rfl (fun K hK => ?_) AllReadyH.nil
  go_simp
  go_at_call 23
  refine (calls_two Cb4 (v23 _ _ p0 p1 _ _ Rb4 HN r HFF.out.b5)).mono ?_
  rintro e wb5 ⟨rfl, Cb5, gb5⟩
  go_wp2_with fail
  clear hHeld
  refine hK.out _ _ (HSb1.out _ Cb5) (fun hHeld => ?_)
  clear hK K
  try simp only [List.setIfInBounds_toArray, List.set_cons_zero, List.set_cons_succ]
  refine wpAnyH_listed #[true, true, true, true, true, true, true, true, true, true, true, true, true, true, true, true, true, true, true, true, true, true, true, true, true, true, true, true, true, false, false, false, false] (by kernel_rfl) ?_
  replace RA := RA.later gb5
  replace RX := RX.later gb5
  replace Rb4 := Rb4.later gb5
  clear Cb4 gb5
  refine wpAnyH_ready (rs := [29]) (by kernel_rfl) (by simp) ?_
  refine AllReadyH.cons (o := ⟨some 128, Op.call { callee := Callee.value (Operand.func 23), args := #[Operand.tmp 125, Operand.tmp 126, Operand.tmp 127], argTypes := #[23, 36, 3] }, 4, _, _, some (20, true)⟩) rfl (fun K hK => ?_) AllReadyH.nil
  go_simp
  go_at_call 23
  refine (calls_two Cb5 (v23 _ _ p0 p1 _ _ RA HN r HFF.out.b4)).mono ?_
  rintro e wb6 ⟨rfl, Cb6, gb6⟩
  go_wp2_with fail
  clear hHeld
  refine hK.out _ _ (HSb1.out _ Cb6) (fun hHeld => ?_)
  clear hK K
  try simp only [List.setIfInBounds_toArray, List.set_cons_zero, List.set_cons_succ]
  refine wpAnyH_listed #[true, true, true, true, true, true, true, true, true, true, true, true, true, true, true, true, true, true, true, true, true, true, true, true, true, true, true, true, true, true, false, false, false] (by kernel_rfl) ?_
  replace RA := RA.later gb6
  replace RX := RX.later gb6
  replace Rb4 := Rb4.later gb6
  clear Cb5 gb6
  refine wpAnyT_begin [30] (by kernel_rfl) (by kernel_rfl) ?_
  refine wpAnyT_take (oi := ⟨some 129, Op.binOp BinOp.eql 4 (Operand.tmp 124) (Operand.tmp 128) 4, 4, _, _, some (20, true)⟩) (v := .bool true) rfl (fun _ _ _ h => h) (by rfl) (by assumption) (fun wS hSw => ?_) ?_
  · (try dsimp only at hSw); go_simp
  simp only [Act.put, List.setIfInBounds_toArray, List.set_cons_zero, List.set_cons_succ]
  refine wpAnyT_end ?_
  refine wpAnyH_listed #[true, true, true, true, true, true, true, true, true, true, true, true, true, true, true, true, true, true, true, true, true, true, true, true, true, true, true, true, true, true, true, false, false] (by kernel_rfl) ?_
  refine wpAnyT_begin [31] (by kernel_rfl) (by kernel_rfl) ?_
  refine wpAnyT_take (oi := ⟨some 130, Op.pick (Operand.tmp 119) (Operand.tmp 129) (Operand.const (Value.bool false)), 4, _, _, none⟩) (v := .bool true) rfl (fun _ _ _ h => h) (by rfl) (by assumption) (fun wS hSw => ?_) ?_
  · (try dsimp only at hSw); go_simp
  simp only [Act.put, List.setIfInBounds_toArray, List.set_cons_zero, List.set_cons_succ]
  refine wpAnyT_end ?_
  refine wpAnyH_listed #[true, true, true, true, true, true, true, true, true, true, true, true, true, true, true, true, true, true, true, true, true, true, true, true, true, true, true, true, true, true, true, true, false] (by kernel_rfl) ?_
  refine wpAnyT_begin [32] (by kernel_rfl) (by kernel_rfl) ?_
  refine wpAnyT_take (oi := ⟨some 6, Op.assign (Operand.tmp 130), 4, _, _, none⟩) (v := .bool true) rfl (fun _ _ _ h => h) (by rfl) (by assumption) (fun wS hSw => ?_) ?_
  · (try dsimp only at hSw); go_simp
  simp only [Act.put, List.setIfInBounds_toArray, List.set_cons_zero, List.set_cons_succ]
  refine wpAnyT_end ?_
  refine wpAnyH_listed #[true, true, true, true, true, true, true, true, true, true, true, true, true, true, true, true, true, true, true, true, true, true, true, true, true, true, true, true, true, true, true, true, true] (by kernel_rfl) ?_
  refine wpAnyH_done (by kernel_rfl) ?_ _
  clear hHeld
  clear HSb1
  go_wp2_with fail
  go_ret
  exact ⟨rfl, (HE.out.later Cb6.low).low⟩

end Go.Proofs.Ytkejilomempogaa
