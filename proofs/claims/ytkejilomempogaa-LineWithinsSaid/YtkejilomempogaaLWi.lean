/- The law of Within: it is the reference's. -/
import Derived.Test.YtkejilomempogaaSn
namespace Go.Proofs.Ytkejilomempogaa
open Go.RowKit Go.Lib

theorem v24 (v : Value) (ps : List (Int × Int)) (p0 p1 n : Int) (w : World) (hv : RowP w v ps) (hn : I64 n) (r : Bool) (h : withinP ps (p0, p1) n = r) : Calls Try.prog 24 #[v, .agg #[.int .i64 p0, .int .i64 p1], .int .i64 n] w fun e w' => e = .returned (.bool r) ∧ Below w.heap.size w w' := h ▸ rwithin_any v ps p0 p1 n w hv hn
/-- A counter of two rounds. -/
def Tw (z : Value) : Prop := z = .int .i64 0 ∨ z = .int .i64 1 ∨ z = .int .i64 2
theorem Tw.zero : Tw (.int .i64 0) := .inl rfl
theorem Tw.one : Tw (.int .i64 1) := .inr (.inl rfl)
theorem Tw.two : Tw (.int .i64 2) := .inr (.inr rfl)

attribute [local go_sem] Oper.semAt_some
set_option linter.unusedSimpArgs false in
set_option linter.unusedVariables false in
set_option maxRecDepth 100000 in
set_option maxHeartbeats 16000000 in
theorem withins_any (u v : Value) (xs : List Int) (raw : List (Int × Int)) (q0 q1 q2 : Int) (w : World) (hu : RowN w u xs) (hv : RowP w v raw) (hq : I64 q2) :
    Calls Try.prog 4 #[u, v, .agg #[.int .i64 q0, .int .i64 q1, .int .i64 q2]] w fun e w' => e = .returned (.bool true) ∧ Below w.heap.size w w' := by
  have C0 := (Has.nil (Below.refl w.heap.size w)).push [.int .i64 q0, .int .i64 q1, .int .i64 q2] 34
  have RN := hu.later ((Below.refl _ w).alloc (Nat.le_refl _) (.cells #[.int .i64 q0, .int .i64 q1, .int .i64 q2] 34))
  have RV := hv.later ((Below.refl _ w).alloc (Nat.le_refl _) (.cells #[.int .i64 q0, .int .i64 q1, .int .i64 q2] 34))
  clear hu hv
  go_enter Try.func4, Try.ntmps4
  go_wp2_with fail
  change Has w _ (w.alloc (.cells #[.int .i64 q0, .int .i64 q1, .int .i64 q2] 34)) at C0
  change RowN (w.alloc (.cells #[.int .i64 q0, .int .i64 q1, .int .i64 q2] 34)) _ _ at RN
  change RowP (w.alloc (.cells #[.int .i64 q0, .int .i64 q1, .int .i64 q2] 34)) _ _ at RV
  generalize w.alloc (.cells #[.int .i64 q0, .int .i64 q1, .int .i64 q2] 34) = w1 at *
  generalize w.heap.size = Q at *
  refine (calls_two C0 (sane_any _)).mono ?_
  rintro e w2 ⟨rfl, C1, g1⟩
  replace RN := RN.later g1
  replace RV := RV.later g1
  clear C0 g1
  go_wp2_with fail
  refine (made_any _ _ _ RN).mono ?_
  rintro e w3 ⟨uA, A, rfl, RA, -, -, g2⟩
  have C2 := C1.later g2
  replace RV := RV.later g2
  clear C1 RN g2
  have k0 := C2.fact (.head _) (i := 0) rfl
  have k1 := C2.fact (.head _) (i := 1) rfl
  have k2 := C2.fact (.head _) (i := 2) rfl
  go_wp2_with fail
  refine (calls_two C2 (at_any _ _ _)).mono ?_
  rintro e w4 ⟨rfl, C3, g3⟩
  replace RV := RV.later g3
  replace RA := RA.later g3
  clear C2 g3 k0 k1 k2
  have C4 := C3.push [.int .i64 (q0.tmod 20), .int .i64 (q1.tmod 20)] 36
  replace RV := RV.later ((Below.refl _ w4).alloc (Nat.le_refl _) (.cells #[.int .i64 (q0.tmod 20), .int .i64 (q1.tmod 20)] 36))
  replace RA := RA.later ((Below.refl _ w4).alloc (Nat.le_refl _) (.cells #[.int .i64 (q0.tmod 20), .int .i64 (q1.tmod 20)] 36))
  have k0 := C4.tail.fact (.head _) (i := 0) rfl
  have k1 := C4.tail.fact (.head _) (i := 1) rfl
  clear C3
  go_wp2_with fail
  change Has w _ (w4.alloc (.cells #[.int .i64 (q0.tmod 20), .int .i64 (q1.tmod 20)] 36)) at C4
  change RowP (w4.alloc (.cells #[.int .i64 (q0.tmod 20), .int .i64 (q1.tmod 20)] 36)) _ _ at RV
  change RowP (w4.alloc (.cells #[.int .i64 (q0.tmod 20), .int .i64 (q1.tmod 20)] 36)) _ _ at RA
  clear k0 k1
  generalize w4.alloc (.cells #[.int .i64 (q0.tmod 20), .int .i64 (q1.tmod 20)] 36) = w5 at *
  generalize w4.heap.size = N at *
  generalize q0.tmod 20 = x1 at *
  generalize q1.tmod 20 = y1 at *
  refine (calls_two C4 (at_any _ _ _)).mono ?_
  rintro e w6 ⟨rfl, C5, g5⟩
  replace RV := RV.later g5
  replace RA := RA.later g5
  clear C4 g5
  have C6 := C5.push [.int .i64 q0, .int .i64 q1] 36
  replace RV := RV.later ((Below.refl _ w6).alloc (Nat.le_refl _) (.cells #[.int .i64 q0, .int .i64 q1] 36))
  replace RA := RA.later ((Below.refl _ w6).alloc (Nat.le_refl _) (.cells #[.int .i64 q0, .int .i64 q1] 36))
  go_wp2_with fail
  change Has w _ (w6.alloc (.cells #[.int .i64 q0, .int .i64 q1] 36)) at C6
  change RowP (w6.alloc (.cells #[.int .i64 q0, .int .i64 q1] 36)) _ _ at RV
  change RowP (w6.alloc (.cells #[.int .i64 q0, .int .i64 q1] 36)) _ _ at RA
  generalize w6.alloc (.cells #[.int .i64 q0, .int .i64 q1] 36) = w7 at *
  generalize w6.heap.size = F at *
  clear C5
  go_loopw [11, 12] (fun i m wr => Tw i ∧ Has w [(F, [.int .i64 q0, .int .i64 q1]), (N, [.int .i64 x1, .int .i64 y1]), (Q, [.int .i64 q0, .int .i64 q1, .int .i64 q2])] wr ∧ RowP wr v raw ∧ RowP wr uA A) (fun i _ _ => (2 - RowKit.intOf i).toNat)
  case atStart => exact ⟨Tw.zero, C6, RV, RA⟩
  case round =>
    clear C6 RV RA
    obtain ⟨ht, C0, RV, RA⟩ := hrel
    rcases ht with rfl | rfl | rfl
    · have k2 := C0.tail.tail.fact (.head _) (i := 2) rfl
      obtain ⟨r1, hr1⟩ : ∃ r, withinP A (x1, y1) q2 = r := ⟨_, rfl⟩
      obtain ⟨r2, hr2⟩ : ∃ r, withinP A (q0, q1) q2 = r := ⟨_, rfl⟩
      obtain ⟨r3, hr3⟩ : ∃ r, withinP (raw.take 8) (q0, q1) q2 = r := ⟨_, rfl⟩
      obtain ⟨r4, hr4⟩ : ∃ r, withinP (raw.take 8) (x1, y1) q2 = r := ⟨_, rfl⟩
      have Hr1 := Lib.hid hr1
      have Hr2 := Lib.hid hr2
      have Hr3 := Lib.hid hr3
      have Hr4 := Lib.hid hr4
      clear hr1 hr2 hr3 hr4
      have HM : I64 q2 := hq
      go_upto_region 11 with fail
      clear k2
      have C101 := C0.drew
      replace RV := RV.later ((Below.refl _ wr).drew)
      replace RA := RA.later ((Below.refl _ wr).drew)
      have HS101 := Lib.hid (show ∀ w', Has w [(F, [.int .i64 q0, .int .i64 q1]), (N, [.int .i64 x1, .int .i64 y1]), (Q, [.int .i64 q0, .int .i64 q1, .int .i64 q2])] w' → (w'.cell? ⟨F, 0, none⟩ = some (.int .i64 q0) ∧ w'.cell? ⟨F, 1, none⟩ = some (.int .i64 q1) ∧ w'.cell? ⟨N, 0, none⟩ = some (.int .i64 x1) ∧ w'.cell? ⟨N, 1, none⟩ = some (.int .i64 y1) ∧ w'.cell? ⟨Q, 0, none⟩ = some (.int .i64 q0) ∧ w'.cell? ⟨Q, 1, none⟩ = some (.int .i64 q1) ∧ w'.cell? ⟨Q, 2, none⟩ = some (.int .i64 q2)) ∧ Has w [(F, [.int .i64 q0, .int .i64 q1]), (N, [.int .i64 x1, .int .i64 y1]), (Q, [.int .i64 q0, .int .i64 q1, .int .i64 q2])] w' from fun w' h => by
        exact ⟨⟨h.fact (.head _) (i := 0) rfl, h.fact (.head _) (i := 1) rfl, h.tail.fact (.head _) (i := 0) rfl, h.tail.fact (.head _) (i := 1) rfl, h.tail.tail.fact (.head _) (i := 0) rfl, h.tail.tail.fact (.head _) (i := 1) rfl, h.tail.tail.fact (.head _) (i := 2) rfl⟩, h⟩)
      refine wp_region_held_drew (S := (fun w' => (w'.cell? ⟨F, 0, none⟩ = some (.int .i64 q0) ∧ w'.cell? ⟨F, 1, none⟩ = some (.int .i64 q1) ∧ w'.cell? ⟨N, 0, none⟩ = some (.int .i64 x1) ∧ w'.cell? ⟨N, 1, none⟩ = some (.int .i64 y1) ∧ w'.cell? ⟨Q, 0, none⟩ = some (.int .i64 q0) ∧ w'.cell? ⟨Q, 1, none⟩ = some (.int .i64 q1) ∧ w'.cell? ⟨Q, 2, none⟩ = some (.int .i64 q2)) ∧ Has w [(F, [.int .i64 q0, .int .i64 q1]), (N, [.int .i64 x1, .int .i64 y1]), (Q, [.int .i64 q0, .int .i64 q1, .int .i64 q2])] w')) (by kernel_rfl) (HS101.out _ C101) (fun hHeld => ?_)
      clear C0
      generalize wr.drew = w101 at *
      refine wpAnyT_begin [0, 1, 2, 4, 5, 6] (by kernel_rfl) (by kernel_rfl) ?_
      refine wpAnyT_take (oi := ⟨some 39, Op.move (Operand.tmp 8), 23, _, _, none⟩) (v := uA) rfl (fun _ _ _ h => h) (by rfl) (by assumption) (fun wS hSw => ?_) ?_
      · (try dsimp only at hSw); go_simp
      simp only [Act.put, List.setIfInBounds_toArray, List.set_cons_zero, List.set_cons_succ]
      refine wpAnyT_take (oi := ⟨some 40, Op.load 36 (Operand.tmp 9), 36, _, _, none⟩) (v := .agg #[.int .i64 x1, .int .i64 y1]) rfl (fun _ _ _ h => h) (by rfl) (by assumption) (fun wS hSw => ?_) ?_
      · (try dsimp only at hSw); go_simp
      simp only [Act.put, List.setIfInBounds_toArray, List.set_cons_zero, List.set_cons_succ]
      refine wpAnyT_take (oi := ⟨some 41, Op.move (Operand.tmp 12), 3, _, _, none⟩) (v := .int .i64 q2) rfl (fun _ _ _ h => h) (by rfl) (by assumption) (fun wS hSw => ?_) ?_
      · (try dsimp only at hSw); go_simp
      simp only [Act.put, List.setIfInBounds_toArray, List.set_cons_zero, List.set_cons_succ]
      refine wpAnyT_take (oi := ⟨some 43, Op.move (Operand.tmp 8), 23, _, _, none⟩) (v := uA) rfl (fun _ _ _ h => h) (by rfl) (by assumption) (fun wS hSw => ?_) ?_
      · (try dsimp only at hSw); go_simp
      simp only [Act.put, List.setIfInBounds_toArray, List.set_cons_zero, List.set_cons_succ]
      refine wpAnyT_take (oi := ⟨some 44, Op.load 36 (Operand.tmp 9), 36, _, _, none⟩) (v := .agg #[.int .i64 x1, .int .i64 y1]) rfl (fun _ _ _ h => h) (by rfl) (by assumption) (fun wS hSw => ?_) ?_
      · (try dsimp only at hSw); go_simp
      simp only [Act.put, List.setIfInBounds_toArray, List.set_cons_zero, List.set_cons_succ]
      refine wpAnyT_take (oi := ⟨some 45, Op.move (Operand.tmp 12), 3, _, _, none⟩) (v := .int .i64 q2) rfl (fun _ _ _ h => h) (by rfl) (by assumption) (fun wS hSw => ?_) ?_
      · (try dsimp only at hSw); go_simp
      simp only [Act.put, List.setIfInBounds_toArray, List.set_cons_zero, List.set_cons_succ]
      refine wpAnyT_end ?_
      refine wpAnyH_listed #[true, true, true, false, true, true, true, false, false, false, false, false, false, false, false, false, false, false, false, false, false, false, false, false, false, false, false, false, false, false, false, false, false, false, false, false, false, false, false, false, false, false, false, false, false, false] (by kernel_rfl) ?_
      refine wpAnyH_ready (rs := [3]) (by kernel_rfl) (by simp) ?_
      refine AllReadyH.cons (o := ⟨some 42, Op.call { callee := Callee.value (Operand.func 23), args := #[Operand.tmp 39, Operand.tmp 40, Operand.tmp 41], argTypes := #[23, 36, 3] }, 4, _, _, none⟩) rfl (fun K hK => ?_) AllReadyH.nil
      go_simp
      go_at_call 23
      refine (calls_two C101 (v23 _ _ x1 y1 _ _ RA HM r1 Hr1.out)).mono ?_
      rintro e w102 ⟨rfl, C102, g102⟩
      go_wp2_with fail
      clear hHeld
      refine hK.out _ _ (HS101.out _ C102) (fun hHeld => ?_)
      clear hK K
      try simp only [List.setIfInBounds_toArray, List.set_cons_zero, List.set_cons_succ]
      refine wpAnyH_listed #[true, true, true, true, true, true, true, false, false, false, false, false, false, false, false, false, false, false, false, false, false, false, false, false, false, false, false, false, false, false, false, false, false, false, false, false, false, false, false, false, false, false, false, false, false, false] (by kernel_rfl) ?_
      replace RV := RV.later g102
      replace RA := RA.later g102
      clear C101 g102
      refine wpAnyH_ready (rs := [7]) (by kernel_rfl) (by simp) ?_
      refine AllReadyH.cons (o := ⟨some 46, Op.call { callee := Callee.value (Operand.func 24), args := #[Operand.tmp 43, Operand.tmp 44, Operand.tmp 45], argTypes := #[23, 36, 3] }, 4, _, _, none⟩) rfl (fun K hK => ?_) AllReadyH.nil
      go_simp
      go_at_call 24
      refine (calls_two C102 (v24 _ _ x1 y1 _ _ RA HM r1 Hr1.out)).mono ?_
      rintro e w103 ⟨rfl, C103, g103⟩
      go_wp2_with fail
      clear hHeld
      refine hK.out _ _ (HS101.out _ C103) (fun hHeld => ?_)
      clear hK K
      try simp only [List.setIfInBounds_toArray, List.set_cons_zero, List.set_cons_succ]
      refine wpAnyH_listed #[true, true, true, true, true, true, true, true, false, false, false, false, false, false, false, false, false, false, false, false, false, false, false, false, false, false, false, false, false, false, false, false, false, false, false, false, false, false, false, false, false, false, false, false, false, false] (by kernel_rfl) ?_
      replace RV := RV.later g103
      replace RA := RA.later g103
      clear C102 g103
      refine wpAnyT_begin [8] (by kernel_rfl) (by kernel_rfl) ?_
      refine wpAnyT_take (oi := ⟨some 47, Op.binOp BinOp.neq 4 (Operand.tmp 42) (Operand.tmp 46) 4, 4, _, _, none⟩) (v := .bool false) rfl (fun _ _ _ h => h) (by rfl) (by assumption) (fun wS hSw => ?_) ?_
      · (try dsimp only at hSw); go_simp
      simp only [Act.put, List.setIfInBounds_toArray, List.set_cons_zero, List.set_cons_succ]
      refine wpAnyT_end ?_
      refine wpAnyH_listed #[true, true, true, true, true, true, true, true, true, false, false, false, false, false, false, false, false, false, false, false, false, false, false, false, false, false, false, false, false, false, false, false, false, false, false, false, false, false, false, false, false, false, false, false, false, false] (by kernel_rfl) ?_
      refine wpAnyT_begin [9] (by kernel_rfl) (by kernel_rfl) ?_
      refine wpAnyT_take (oi := ⟨some 48, Op.move (Operand.tmp 47), 4, _, _, none⟩) (v := .bool false) rfl (fun _ _ _ h => h) (by rfl) (by assumption) (fun wS hSw => ?_) ?_
      · (try dsimp only at hSw); go_simp
      simp only [Act.put, List.setIfInBounds_toArray, List.set_cons_zero, List.set_cons_succ]
      refine wpAnyT_end ?_
      refine wpAnyH_listed #[true, true, true, true, true, true, true, true, true, true, false, false, false, false, false, false, false, false, false, false, false, false, false, false, false, false, false, false, false, false, false, false, false, false, false, false, false, false, false, false, false, false, false, false, false, false] (by kernel_rfl) ?_
      refine wpAnyT_begin [10, 11, 12, 14, 15, 16] (by kernel_rfl) (by kernel_rfl) ?_
      refine wpAnyT_take (oi := ⟨some 49, Op.move (Operand.tmp 8), 23, _, _, some (9, false)⟩) (v := uA) rfl (fun _ _ _ h => h) (by rfl) (by assumption) (fun wS hSw => ?_) ?_
      · (try dsimp only at hSw); go_simp
      simp only [Act.put, List.setIfInBounds_toArray, List.set_cons_zero, List.set_cons_succ]
      refine wpAnyT_take (oi := ⟨some 50, Op.load 36 (Operand.tmp 10), 36, _, _, some (9, false)⟩) (v := .agg #[.int .i64 q0, .int .i64 q1]) rfl (fun _ _ _ h => h) (by rfl) (by assumption) (fun wS hSw => ?_) ?_
      · (try dsimp only at hSw); go_simp
      simp only [Act.put, List.setIfInBounds_toArray, List.set_cons_zero, List.set_cons_succ]
      refine wpAnyT_take (oi := ⟨some 51, Op.move (Operand.tmp 12), 3, _, _, some (9, false)⟩) (v := .int .i64 q2) rfl (fun _ _ _ h => h) (by rfl) (by assumption) (fun wS hSw => ?_) ?_
      · (try dsimp only at hSw); go_simp
      simp only [Act.put, List.setIfInBounds_toArray, List.set_cons_zero, List.set_cons_succ]
      refine wpAnyT_take (oi := ⟨some 53, Op.move (Operand.tmp 8), 23, _, _, some (9, false)⟩) (v := uA) rfl (fun _ _ _ h => h) (by rfl) (by assumption) (fun wS hSw => ?_) ?_
      · (try dsimp only at hSw); go_simp
      simp only [Act.put, List.setIfInBounds_toArray, List.set_cons_zero, List.set_cons_succ]
      refine wpAnyT_take (oi := ⟨some 54, Op.load 36 (Operand.tmp 10), 36, _, _, some (9, false)⟩) (v := .agg #[.int .i64 q0, .int .i64 q1]) rfl (fun _ _ _ h => h) (by rfl) (by assumption) (fun wS hSw => ?_) ?_
      · (try dsimp only at hSw); go_simp
      simp only [Act.put, List.setIfInBounds_toArray, List.set_cons_zero, List.set_cons_succ]
      refine wpAnyT_take (oi := ⟨some 55, Op.move (Operand.tmp 12), 3, _, _, some (9, false)⟩) (v := .int .i64 q2) rfl (fun _ _ _ h => h) (by rfl) (by assumption) (fun wS hSw => ?_) ?_
      · (try dsimp only at hSw); go_simp
      simp only [Act.put, List.setIfInBounds_toArray, List.set_cons_zero, List.set_cons_succ]
      refine wpAnyT_end ?_
      refine wpAnyH_listed #[true, true, true, true, true, true, true, true, true, true, true, true, true, false, true, true, true, false, false, false, false, false, false, false, false, false, false, false, false, false, false, false, false, false, false, false, false, false, false, false, false, false, false, false, false, false] (by kernel_rfl) ?_
      refine wpAnyH_ready (rs := [13]) (by kernel_rfl) (by simp) ?_
      refine AllReadyH.cons (o := ⟨some 52, Op.call { callee := Callee.value (Operand.func 23), args := #[Operand.tmp 49, Operand.tmp 50, Operand.tmp 51], argTypes := #[23, 36, 3] }, 4, _, _, some (9, false)⟩) rfl (fun K hK => ?_) AllReadyH.nil
      go_simp
      go_at_call 23
      refine (calls_two C103 (v23 _ _ q0 q1 _ _ RA HM r2 Hr2.out)).mono ?_
      rintro e w104 ⟨rfl, C104, g104⟩
      go_wp2_with fail
      clear hHeld
      refine hK.out _ _ (HS101.out _ C104) (fun hHeld => ?_)
      clear hK K
      try simp only [List.setIfInBounds_toArray, List.set_cons_zero, List.set_cons_succ]
      refine wpAnyH_listed #[true, true, true, true, true, true, true, true, true, true, true, true, true, true, true, true, true, false, false, false, false, false, false, false, false, false, false, false, false, false, false, false, false, false, false, false, false, false, false, false, false, false, false, false, false, false] (by kernel_rfl) ?_
      replace RV := RV.later g104
      replace RA := RA.later g104
      clear C103 g104
      refine wpAnyH_ready (rs := [17]) (by kernel_rfl) (by simp) ?_
      refine AllReadyH.cons (o := ⟨some 56, Op.call { callee := Callee.value (Operand.func 24), args := #[Operand.tmp 53, Operand.tmp 54, Operand.tmp 55], argTypes := #[23, 36, 3] }, 4, _, _, some (9, false)⟩) rfl (fun K hK => ?_) AllReadyH.nil
      go_simp
      go_at_call 24
      refine (calls_two C104 (v24 _ _ q0 q1 _ _ RA HM r2 Hr2.out)).mono ?_
      rintro e w105 ⟨rfl, C105, g105⟩
      go_wp2_with fail
      clear hHeld
      refine hK.out _ _ (HS101.out _ C105) (fun hHeld => ?_)
      clear hK K
      try simp only [List.setIfInBounds_toArray, List.set_cons_zero, List.set_cons_succ]
      refine wpAnyH_listed #[true, true, true, true, true, true, true, true, true, true, true, true, true, true, true, true, true, true, false, false, false, false, false, false, false, false, false, false, false, false, false, false, false, false, false, false, false, false, false, false, false, false, false, false, false, false] (by kernel_rfl) ?_
      replace RV := RV.later g105
      replace RA := RA.later g105
      clear C104 g105
      refine wpAnyT_begin [18] (by kernel_rfl) (by kernel_rfl) ?_
      refine wpAnyT_take (oi := ⟨some 57, Op.binOp BinOp.neq 4 (Operand.tmp 52) (Operand.tmp 56) 4, 4, _, _, some (9, false)⟩) (v := .bool false) rfl (fun _ _ _ h => h) (by rfl) (by assumption) (fun wS hSw => ?_) ?_
      · (try dsimp only at hSw); go_simp
      simp only [Act.put, List.setIfInBounds_toArray, List.set_cons_zero, List.set_cons_succ]
      refine wpAnyT_end ?_
      refine wpAnyH_listed #[true, true, true, true, true, true, true, true, true, true, true, true, true, true, true, true, true, true, true, false, false, false, false, false, false, false, false, false, false, false, false, false, false, false, false, false, false, false, false, false, false, false, false, false, false, false] (by kernel_rfl) ?_
      refine wpAnyT_begin [19] (by kernel_rfl) (by kernel_rfl) ?_
      refine wpAnyT_take (oi := ⟨some 58, Op.pick (Operand.tmp 48) (Operand.const (Value.bool true)) (Operand.tmp 57), 4, _, _, none⟩) (v := .bool false) rfl (fun _ _ _ h => h) (by rfl) (by assumption) (fun wS hSw => ?_) ?_
      · (try dsimp only at hSw); go_simp
      simp only [Act.put, List.setIfInBounds_toArray, List.set_cons_zero, List.set_cons_succ]
      refine wpAnyT_end ?_
      refine wpAnyH_listed #[true, true, true, true, true, true, true, true, true, true, true, true, true, true, true, true, true, true, true, true, false, false, false, false, false, false, false, false, false, false, false, false, false, false, false, false, false, false, false, false, false, false, false, false, false, false] (by kernel_rfl) ?_
      refine wpAnyT_begin [20] (by kernel_rfl) (by kernel_rfl) ?_
      refine wpAnyT_take (oi := ⟨some 59, Op.move (Operand.tmp 58), 4, _, _, none⟩) (v := .bool false) rfl (fun _ _ _ h => h) (by rfl) (by assumption) (fun wS hSw => ?_) ?_
      · (try dsimp only at hSw); go_simp
      simp only [Act.put, List.setIfInBounds_toArray, List.set_cons_zero, List.set_cons_succ]
      refine wpAnyT_end ?_
      refine wpAnyH_listed #[true, true, true, true, true, true, true, true, true, true, true, true, true, true, true, true, true, true, true, true, true, false, false, false, false, false, false, false, false, false, false, false, false, false, false, false, false, false, false, false, false, false, false, false, false, false] (by kernel_rfl) ?_
      refine wpAnyT_begin [21, 23, 24, 26, 28, 29] (by kernel_rfl) (by kernel_rfl) ?_
      refine wpAnyT_take (oi := ⟨some 60, Op.move (Operand.tmp 1), 23, _, _, some (20, false)⟩) (v := v) rfl (fun _ _ _ h => h) (by rfl) (by assumption) (fun wS hSw => ?_) ?_
      · (try dsimp only at hSw); go_simp
      simp only [Act.put, List.setIfInBounds_toArray, List.set_cons_zero, List.set_cons_succ]
      refine wpAnyT_take (oi := ⟨some 62, Op.load 36 (Operand.tmp 10), 36, _, _, some (20, false)⟩) (v := .agg #[.int .i64 q0, .int .i64 q1]) rfl (fun _ _ _ h => h) (by rfl) (by assumption) (fun wS hSw => ?_) ?_
      · (try dsimp only at hSw); go_simp
      simp only [Act.put, List.setIfInBounds_toArray, List.set_cons_zero, List.set_cons_succ]
      refine wpAnyT_take (oi := ⟨some 63, Op.move (Operand.tmp 12), 3, _, _, some (20, false)⟩) (v := .int .i64 q2) rfl (fun _ _ _ h => h) (by rfl) (by assumption) (fun wS hSw => ?_) ?_
      · (try dsimp only at hSw); go_simp
      simp only [Act.put, List.setIfInBounds_toArray, List.set_cons_zero, List.set_cons_succ]
      refine wpAnyT_take (oi := ⟨some 65, Op.move (Operand.tmp 1), 23, _, _, some (20, false)⟩) (v := v) rfl (fun _ _ _ h => h) (by rfl) (by assumption) (fun wS hSw => ?_) ?_
      · (try dsimp only at hSw); go_simp
      simp only [Act.put, List.setIfInBounds_toArray, List.set_cons_zero, List.set_cons_succ]
      refine wpAnyT_take (oi := ⟨some 67, Op.load 36 (Operand.tmp 10), 36, _, _, some (20, false)⟩) (v := .agg #[.int .i64 q0, .int .i64 q1]) rfl (fun _ _ _ h => h) (by rfl) (by assumption) (fun wS hSw => ?_) ?_
      · (try dsimp only at hSw); go_simp
      simp only [Act.put, List.setIfInBounds_toArray, List.set_cons_zero, List.set_cons_succ]
      refine wpAnyT_take (oi := ⟨some 68, Op.move (Operand.tmp 12), 3, _, _, some (20, false)⟩) (v := .int .i64 q2) rfl (fun _ _ _ h => h) (by rfl) (by assumption) (fun wS hSw => ?_) ?_
      · (try dsimp only at hSw); go_simp
      simp only [Act.put, List.setIfInBounds_toArray, List.set_cons_zero, List.set_cons_succ]
      refine wpAnyT_end ?_
      refine wpAnyH_listed #[true, true, true, true, true, true, true, true, true, true, true, true, true, true, true, true, true, true, true, true, true, true, false, true, true, false, true, false, true, true, false, false, false, false, false, false, false, false, false, false, false, false, false, false, false, false] (by kernel_rfl) ?_
      refine wpAnyH_ready (rs := [22]) (by kernel_rfl) (by simp) ?_
      refine AllReadyH.cons (o := ⟨some 61, Op.call { callee := Callee.value (Operand.func 25), args := #[Operand.tmp 60], argTypes := #[23] }, 23, _, _, some (20, false)⟩) rfl (fun K hK => ?_) AllReadyH.nil
      go_simp
      go_at_call 25
      refine (few_any _ _ _ RV).mono ?_
      rintro e w106 ⟨u106, rfl, R106, g106⟩
      have C106 := C105.later g106
      go_wp2_with fail
      clear hHeld
      refine hK.out _ _ (HS101.out _ C106) (fun hHeld => ?_)
      clear hK K
      try simp only [List.setIfInBounds_toArray, List.set_cons_zero, List.set_cons_succ]
      refine wpAnyH_listed #[true, true, true, true, true, true, true, true, true, true, true, true, true, true, true, true, true, true, true, true, true, true, true, true, true, false, true, false, true, true, false, false, false, false, false, false, false, false, false, false, false, false, false, false, false, false] (by kernel_rfl) ?_
      replace RV := RV.later g106
      replace RA := RA.later g106
      clear C105 g106
      refine wpAnyH_ready (rs := [25]) (by kernel_rfl) (by simp) ?_
      refine AllReadyH.cons (o := ⟨some 64, Op.call { callee := Callee.value (Operand.func 23), args := #[Operand.tmp 61, Operand.tmp 62, Operand.tmp 63], argTypes := #[23, 36, 3] }, 4, _, _, some (20, false)⟩) rfl (fun K hK => ?_) AllReadyH.nil
      go_simp
      go_at_call 23
      refine (calls_two C106 (v23 _ _ q0 q1 _ _ R106 HM r3 Hr3.out)).mono ?_
      rintro e w107 ⟨rfl, C107, g107⟩
      go_wp2_with fail
      clear hHeld
      refine hK.out _ _ (HS101.out _ C107) (fun hHeld => ?_)
      clear hK K
      try simp only [List.setIfInBounds_toArray, List.set_cons_zero, List.set_cons_succ]
      refine wpAnyH_listed #[true, true, true, true, true, true, true, true, true, true, true, true, true, true, true, true, true, true, true, true, true, true, true, true, true, true, true, false, true, true, false, false, false, false, false, false, false, false, false, false, false, false, false, false, false, false] (by kernel_rfl) ?_
      replace RV := RV.later g107
      replace RA := RA.later g107
      replace R106 := R106.later g107
      clear C106 g107
      refine wpAnyH_ready (rs := [27]) (by kernel_rfl) (by simp) ?_
      refine AllReadyH.cons (o := ⟨some 66, Op.call { callee := Callee.value (Operand.func 25), args := #[Operand.tmp 65], argTypes := #[23] }, 23, _, _, some (20, false)⟩) rfl (fun K hK => ?_) AllReadyH.nil
      go_simp
      go_at_call 25
      refine (few_any _ _ _ RV).mono ?_
      rintro e w108 ⟨u108, rfl, R108, g108⟩
      have C108 := C107.later g108
      go_wp2_with fail
      clear hHeld
      refine hK.out _ _ (HS101.out _ C108) (fun hHeld => ?_)
      clear hK K
      try simp only [List.setIfInBounds_toArray, List.set_cons_zero, List.set_cons_succ]
      refine wpAnyH_listed #[true, true, true, true, true, true, true, true, true, true, true, true, true, true, true, true, true, true, true, true, true, true, true, true, true, true, true, true, true, true, false, false, false, false, false, false, false, false, false, false, false, false, false, false, false, false] (by kernel_rfl) ?_
      replace RV := RV.later g108
      replace RA := RA.later g108
      replace R106 := R106.later g108
      clear C107 g108
      refine wpAnyH_ready (rs := [30]) (by kernel_rfl) (by simp) ?_
      refine AllReadyH.cons (o := ⟨some 69, Op.call { callee := Callee.value (Operand.func 24), args := #[Operand.tmp 66, Operand.tmp 67, Operand.tmp 68], argTypes := #[23, 36, 3] }, 4, _, _, some (20, false)⟩) rfl (fun K hK => ?_) AllReadyH.nil
      go_simp
      go_at_call 24
      refine (calls_two C108 (v24 _ _ q0 q1 _ _ R108 HM r3 Hr3.out)).mono ?_
      rintro e w109 ⟨rfl, C109, g109⟩
      go_wp2_with fail
      clear hHeld
      refine hK.out _ _ (HS101.out _ C109) (fun hHeld => ?_)
      clear hK K
      try simp only [List.setIfInBounds_toArray, List.set_cons_zero, List.set_cons_succ]
      refine wpAnyH_listed #[true, true, true, true, true, true, true, true, true, true, true, true, true, true, true, true, true, true, true, true, true, true, true, true, true, true, true, true, true, true, true, false, false, false, false, false, false, false, false, false, false, false, false, false, false, false] (by kernel_rfl) ?_
      replace RV := RV.later g109
      replace RA := RA.later g109
      replace R106 := R106.later g109
      replace R108 := R108.later g109
      clear C108 g109
      refine wpAnyT_begin [31] (by kernel_rfl) (by kernel_rfl) ?_
      refine wpAnyT_take (oi := ⟨some 70, Op.binOp BinOp.neq 4 (Operand.tmp 64) (Operand.tmp 69) 4, 4, _, _, some (20, false)⟩) (v := .bool false) rfl (fun _ _ _ h => h) (by rfl) (by assumption) (fun wS hSw => ?_) ?_
      · (try dsimp only at hSw); go_simp
      simp only [Act.put, List.setIfInBounds_toArray, List.set_cons_zero, List.set_cons_succ]
      refine wpAnyT_end ?_
      refine wpAnyH_listed #[true, true, true, true, true, true, true, true, true, true, true, true, true, true, true, true, true, true, true, true, true, true, true, true, true, true, true, true, true, true, true, true, false, false, false, false, false, false, false, false, false, false, false, false, false, false] (by kernel_rfl) ?_
      refine wpAnyT_begin [32] (by kernel_rfl) (by kernel_rfl) ?_
      refine wpAnyT_take (oi := ⟨some 71, Op.pick (Operand.tmp 59) (Operand.const (Value.bool true)) (Operand.tmp 70), 4, _, _, none⟩) (v := .bool false) rfl (fun _ _ _ h => h) (by rfl) (by assumption) (fun wS hSw => ?_) ?_
      · (try dsimp only at hSw); go_simp
      simp only [Act.put, List.setIfInBounds_toArray, List.set_cons_zero, List.set_cons_succ]
      refine wpAnyT_end ?_
      refine wpAnyH_listed #[true, true, true, true, true, true, true, true, true, true, true, true, true, true, true, true, true, true, true, true, true, true, true, true, true, true, true, true, true, true, true, true, true, false, false, false, false, false, false, false, false, false, false, false, false, false] (by kernel_rfl) ?_
      refine wpAnyT_begin [33] (by kernel_rfl) (by kernel_rfl) ?_
      refine wpAnyT_take (oi := ⟨some 72, Op.move (Operand.tmp 71), 4, _, _, none⟩) (v := .bool false) rfl (fun _ _ _ h => h) (by rfl) (by assumption) (fun wS hSw => ?_) ?_
      · (try dsimp only at hSw); go_simp
      simp only [Act.put, List.setIfInBounds_toArray, List.set_cons_zero, List.set_cons_succ]
      refine wpAnyT_end ?_
      refine wpAnyH_listed #[true, true, true, true, true, true, true, true, true, true, true, true, true, true, true, true, true, true, true, true, true, true, true, true, true, true, true, true, true, true, true, true, true, true, false, false, false, false, false, false, false, false, false, false, false, false] (by kernel_rfl) ?_
      refine wpAnyT_begin [34, 36, 37, 39, 41, 42] (by kernel_rfl) (by kernel_rfl) ?_
      refine wpAnyT_take (oi := ⟨some 73, Op.move (Operand.tmp 1), 23, _, _, some (33, false)⟩) (v := v) rfl (fun _ _ _ h => h) (by rfl) (by assumption) (fun wS hSw => ?_) ?_
      · (try dsimp only at hSw); go_simp
      simp only [Act.put, List.setIfInBounds_toArray, List.set_cons_zero, List.set_cons_succ]
      refine wpAnyT_take (oi := ⟨some 75, Op.load 36 (Operand.tmp 9), 36, _, _, some (33, false)⟩) (v := .agg #[.int .i64 x1, .int .i64 y1]) rfl (fun _ _ _ h => h) (by rfl) (by assumption) (fun wS hSw => ?_) ?_
      · (try dsimp only at hSw); go_simp
      simp only [Act.put, List.setIfInBounds_toArray, List.set_cons_zero, List.set_cons_succ]
      refine wpAnyT_take (oi := ⟨some 76, Op.move (Operand.tmp 12), 3, _, _, some (33, false)⟩) (v := .int .i64 q2) rfl (fun _ _ _ h => h) (by rfl) (by assumption) (fun wS hSw => ?_) ?_
      · (try dsimp only at hSw); go_simp
      simp only [Act.put, List.setIfInBounds_toArray, List.set_cons_zero, List.set_cons_succ]
      refine wpAnyT_take (oi := ⟨some 78, Op.move (Operand.tmp 1), 23, _, _, some (33, false)⟩) (v := v) rfl (fun _ _ _ h => h) (by rfl) (by assumption) (fun wS hSw => ?_) ?_
      · (try dsimp only at hSw); go_simp
      simp only [Act.put, List.setIfInBounds_toArray, List.set_cons_zero, List.set_cons_succ]
      refine wpAnyT_take (oi := ⟨some 80, Op.load 36 (Operand.tmp 9), 36, _, _, some (33, false)⟩) (v := .agg #[.int .i64 x1, .int .i64 y1]) rfl (fun _ _ _ h => h) (by rfl) (by assumption) (fun wS hSw => ?_) ?_
      · (try dsimp only at hSw); go_simp
      simp only [Act.put, List.setIfInBounds_toArray, List.set_cons_zero, List.set_cons_succ]
      refine wpAnyT_take (oi := ⟨some 81, Op.move (Operand.tmp 12), 3, _, _, some (33, false)⟩) (v := .int .i64 q2) rfl (fun _ _ _ h => h) (by rfl) (by assumption) (fun wS hSw => ?_) ?_
      · (try dsimp only at hSw); go_simp
      simp only [Act.put, List.setIfInBounds_toArray, List.set_cons_zero, List.set_cons_succ]
      refine wpAnyT_end ?_
      refine wpAnyH_listed #[true, true, true, true, true, true, true, true, true, true, true, true, true, true, true, true, true, true, true, true, true, true, true, true, true, true, true, true, true, true, true, true, true, true, true, false, true, true, false, true, false, true, true, false, false, false] (by kernel_rfl) ?_
      refine wpAnyH_ready (rs := [35]) (by kernel_rfl) (by simp) ?_
      refine AllReadyH.cons (o := ⟨some 74, Op.call { callee := Callee.value (Operand.func 25), args := #[Operand.tmp 73], argTypes := #[23] }, 23, _, _, some (33, false)⟩) rfl (fun K hK => ?_) AllReadyH.nil
      go_simp
      go_at_call 25
      refine (few_any _ _ _ RV).mono ?_
      rintro e w110 ⟨u110, rfl, R110, g110⟩
      have C110 := C109.later g110
      go_wp2_with fail
      clear hHeld
      refine hK.out _ _ (HS101.out _ C110) (fun hHeld => ?_)
      clear hK K
      try simp only [List.setIfInBounds_toArray, List.set_cons_zero, List.set_cons_succ]
      refine wpAnyH_listed #[true, true, true, true, true, true, true, true, true, true, true, true, true, true, true, true, true, true, true, true, true, true, true, true, true, true, true, true, true, true, true, true, true, true, true, true, true, true, false, true, false, true, true, false, false, false] (by kernel_rfl) ?_
      replace RV := RV.later g110
      replace RA := RA.later g110
      replace R106 := R106.later g110
      replace R108 := R108.later g110
      clear C109 g110
      refine wpAnyH_ready (rs := [38]) (by kernel_rfl) (by simp) ?_
      refine AllReadyH.cons (o := ⟨some 77, Op.call { callee := Callee.value (Operand.func 23), args := #[Operand.tmp 74, Operand.tmp 75, Operand.tmp 76], argTypes := #[23, 36, 3] }, 4, _, _, some (33, false)⟩) rfl (fun K hK => ?_) AllReadyH.nil
      go_simp
      go_at_call 23
      refine (calls_two C110 (v23 _ _ x1 y1 _ _ R110 HM r4 Hr4.out)).mono ?_
      rintro e w111 ⟨rfl, C111, g111⟩
      go_wp2_with fail
      clear hHeld
      refine hK.out _ _ (HS101.out _ C111) (fun hHeld => ?_)
      clear hK K
      try simp only [List.setIfInBounds_toArray, List.set_cons_zero, List.set_cons_succ]
      refine wpAnyH_listed #[true, true, true, true, true, true, true, true, true, true, true, true, true, true, true, true, true, true, true, true, true, true, true, true, true, true, true, true, true, true, true, true, true, true, true, true, true, true, true, true, false, true, true, false, false, false] (by kernel_rfl) ?_
      replace RV := RV.later g111
      replace RA := RA.later g111
      replace R106 := R106.later g111
      replace R108 := R108.later g111
      replace R110 := R110.later g111
      clear C110 g111
      refine wpAnyH_ready (rs := [40]) (by kernel_rfl) (by simp) ?_
      refine AllReadyH.cons (o := ⟨some 79, Op.call { callee := Callee.value (Operand.func 25), args := #[Operand.tmp 78], argTypes := #[23] }, 23, _, _, some (33, false)⟩) rfl (fun K hK => ?_) AllReadyH.nil
      go_simp
      go_at_call 25
      refine (few_any _ _ _ RV).mono ?_
      rintro e w112 ⟨u112, rfl, R112, g112⟩
      have C112 := C111.later g112
      go_wp2_with fail
      clear hHeld
      refine hK.out _ _ (HS101.out _ C112) (fun hHeld => ?_)
      clear hK K
      try simp only [List.setIfInBounds_toArray, List.set_cons_zero, List.set_cons_succ]
      refine wpAnyH_listed #[true, true, true, true, true, true, true, true, true, true, true, true, true, true, true, true, true, true, true, true, true, true, true, true, true, true, true, true, true, true, true, true, true, true, true, true, true, true, true, true, true, true, true, false, false, false] (by kernel_rfl) ?_
      replace RV := RV.later g112
      replace RA := RA.later g112
      replace R106 := R106.later g112
      replace R108 := R108.later g112
      replace R110 := R110.later g112
      clear C111 g112
      refine wpAnyH_ready (rs := [43]) (by kernel_rfl) (by simp) ?_
      refine AllReadyH.cons (o := ⟨some 82, Op.call { callee := Callee.value (Operand.func 24), args := #[Operand.tmp 79, Operand.tmp 80, Operand.tmp 81], argTypes := #[23, 36, 3] }, 4, _, _, some (33, false)⟩) rfl (fun K hK => ?_) AllReadyH.nil
      go_simp
      go_at_call 24
      refine (calls_two C112 (v24 _ _ x1 y1 _ _ R112 HM r4 Hr4.out)).mono ?_
      rintro e w113 ⟨rfl, C113, g113⟩
      go_wp2_with fail
      clear hHeld
      refine hK.out _ _ (HS101.out _ C113) (fun hHeld => ?_)
      clear hK K
      try simp only [List.setIfInBounds_toArray, List.set_cons_zero, List.set_cons_succ]
      refine wpAnyH_listed #[true, true, true, true, true, true, true, true, true, true, true, true, true, true, true, true, true, true, true, true, true, true, true, true, true, true, true, true, true, true, true, true, true, true, true, true, true, true, true, true, true, true, true, true, false, false] (by kernel_rfl) ?_
      replace RV := RV.later g113
      replace RA := RA.later g113
      replace R106 := R106.later g113
      replace R108 := R108.later g113
      replace R110 := R110.later g113
      replace R112 := R112.later g113
      clear C112 g113
      refine wpAnyT_begin [44] (by kernel_rfl) (by kernel_rfl) ?_
      refine wpAnyT_take (oi := ⟨some 83, Op.binOp BinOp.neq 4 (Operand.tmp 77) (Operand.tmp 82) 4, 4, _, _, some (33, false)⟩) (v := .bool false) rfl (fun _ _ _ h => h) (by rfl) (by assumption) (fun wS hSw => ?_) ?_
      · (try dsimp only at hSw); go_simp
      simp only [Act.put, List.setIfInBounds_toArray, List.set_cons_zero, List.set_cons_succ]
      refine wpAnyT_end ?_
      refine wpAnyH_listed #[true, true, true, true, true, true, true, true, true, true, true, true, true, true, true, true, true, true, true, true, true, true, true, true, true, true, true, true, true, true, true, true, true, true, true, true, true, true, true, true, true, true, true, true, true, false] (by kernel_rfl) ?_
      refine wpAnyT_begin [45] (by kernel_rfl) (by kernel_rfl) ?_
      refine wpAnyT_take (oi := ⟨some 84, Op.pick (Operand.tmp 72) (Operand.const (Value.bool true)) (Operand.tmp 83), 4, _, _, none⟩) (v := .bool false) rfl (fun _ _ _ h => h) (by rfl) (by assumption) (fun wS hSw => ?_) ?_
      · (try dsimp only at hSw); go_simp
      simp only [Act.put, List.setIfInBounds_toArray, List.set_cons_zero, List.set_cons_succ]
      refine wpAnyT_end ?_
      refine wpAnyH_listed #[true, true, true, true, true, true, true, true, true, true, true, true, true, true, true, true, true, true, true, true, true, true, true, true, true, true, true, true, true, true, true, true, true, true, true, true, true, true, true, true, true, true, true, true, true, true] (by kernel_rfl) ?_
      refine wpAnyH_done (by kernel_rfl) ?_ _
      clear hHeld
      clear HS101
      go_wp2_with fail
      go_roundw
      case rel => exact ⟨Tw.one, C113, RV, RA⟩
      case measure => simp [RowKit.intOf]
    · have k2 := C0.tail.tail.fact (.head _) (i := 2) rfl
      obtain ⟨r1, hr1⟩ : ∃ r, withinP A (x1, y1) (q2.tmod 2000) = r := ⟨_, rfl⟩
      obtain ⟨r2, hr2⟩ : ∃ r, withinP A (q0, q1) (q2.tmod 2000) = r := ⟨_, rfl⟩
      obtain ⟨r3, hr3⟩ : ∃ r, withinP (raw.take 8) (q0, q1) (q2.tmod 2000) = r := ⟨_, rfl⟩
      obtain ⟨r4, hr4⟩ : ∃ r, withinP (raw.take 8) (x1, y1) (q2.tmod 2000) = r := ⟨_, rfl⟩
      have Hr1 := Lib.hid hr1
      have Hr2 := Lib.hid hr2
      have Hr3 := Lib.hid hr3
      have Hr4 := Lib.hid hr4
      clear hr1 hr2 hr3 hr4
      have HM : I64 (q2.tmod 2000) := by unfold I64 at *; have := Int.tmod_lt_of_pos q2 (show (0 : Int) < 2000 by decide); have := Int.tmod_lt_of_pos (-q2) (show (0 : Int) < 2000 by decide); rw [Int.neg_tmod] at this; omega
      go_upto_region 11 with fail
      clear k2
      generalize (q2.tmod 2000) = M at *
      have C101 := C0.drew
      replace RV := RV.later ((Below.refl _ wr).drew)
      replace RA := RA.later ((Below.refl _ wr).drew)
      have HS101 := Lib.hid (show ∀ w', Has w [(F, [.int .i64 q0, .int .i64 q1]), (N, [.int .i64 x1, .int .i64 y1]), (Q, [.int .i64 q0, .int .i64 q1, .int .i64 q2])] w' → (w'.cell? ⟨F, 0, none⟩ = some (.int .i64 q0) ∧ w'.cell? ⟨F, 1, none⟩ = some (.int .i64 q1) ∧ w'.cell? ⟨N, 0, none⟩ = some (.int .i64 x1) ∧ w'.cell? ⟨N, 1, none⟩ = some (.int .i64 y1) ∧ w'.cell? ⟨Q, 0, none⟩ = some (.int .i64 q0) ∧ w'.cell? ⟨Q, 1, none⟩ = some (.int .i64 q1) ∧ w'.cell? ⟨Q, 2, none⟩ = some (.int .i64 q2)) ∧ Has w [(F, [.int .i64 q0, .int .i64 q1]), (N, [.int .i64 x1, .int .i64 y1]), (Q, [.int .i64 q0, .int .i64 q1, .int .i64 q2])] w' from fun w' h => by
        exact ⟨⟨h.fact (.head _) (i := 0) rfl, h.fact (.head _) (i := 1) rfl, h.tail.fact (.head _) (i := 0) rfl, h.tail.fact (.head _) (i := 1) rfl, h.tail.tail.fact (.head _) (i := 0) rfl, h.tail.tail.fact (.head _) (i := 1) rfl, h.tail.tail.fact (.head _) (i := 2) rfl⟩, h⟩)
      refine wp_region_held_drew (S := (fun w' => (w'.cell? ⟨F, 0, none⟩ = some (.int .i64 q0) ∧ w'.cell? ⟨F, 1, none⟩ = some (.int .i64 q1) ∧ w'.cell? ⟨N, 0, none⟩ = some (.int .i64 x1) ∧ w'.cell? ⟨N, 1, none⟩ = some (.int .i64 y1) ∧ w'.cell? ⟨Q, 0, none⟩ = some (.int .i64 q0) ∧ w'.cell? ⟨Q, 1, none⟩ = some (.int .i64 q1) ∧ w'.cell? ⟨Q, 2, none⟩ = some (.int .i64 q2)) ∧ Has w [(F, [.int .i64 q0, .int .i64 q1]), (N, [.int .i64 x1, .int .i64 y1]), (Q, [.int .i64 q0, .int .i64 q1, .int .i64 q2])] w')) (by kernel_rfl) (HS101.out _ C101) (fun hHeld => ?_)
      clear C0
      generalize wr.drew = w101 at *
      refine wpAnyT_begin [0, 1, 2, 4, 5, 6] (by kernel_rfl) (by kernel_rfl) ?_
      refine wpAnyT_take (oi := ⟨some 39, Op.move (Operand.tmp 8), 23, _, _, none⟩) (v := uA) rfl (fun _ _ _ h => h) (by rfl) (by assumption) (fun wS hSw => ?_) ?_
      · (try dsimp only at hSw); go_simp
      simp only [Act.put, List.setIfInBounds_toArray, List.set_cons_zero, List.set_cons_succ]
      refine wpAnyT_take (oi := ⟨some 40, Op.load 36 (Operand.tmp 9), 36, _, _, none⟩) (v := .agg #[.int .i64 x1, .int .i64 y1]) rfl (fun _ _ _ h => h) (by rfl) (by assumption) (fun wS hSw => ?_) ?_
      · (try dsimp only at hSw); go_simp
      simp only [Act.put, List.setIfInBounds_toArray, List.set_cons_zero, List.set_cons_succ]
      refine wpAnyT_take (oi := ⟨some 41, Op.move (Operand.tmp 12), 3, _, _, none⟩) (v := .int .i64 M) rfl (fun _ _ _ h => h) (by rfl) (by assumption) (fun wS hSw => ?_) ?_
      · (try dsimp only at hSw); go_simp
      simp only [Act.put, List.setIfInBounds_toArray, List.set_cons_zero, List.set_cons_succ]
      refine wpAnyT_take (oi := ⟨some 43, Op.move (Operand.tmp 8), 23, _, _, none⟩) (v := uA) rfl (fun _ _ _ h => h) (by rfl) (by assumption) (fun wS hSw => ?_) ?_
      · (try dsimp only at hSw); go_simp
      simp only [Act.put, List.setIfInBounds_toArray, List.set_cons_zero, List.set_cons_succ]
      refine wpAnyT_take (oi := ⟨some 44, Op.load 36 (Operand.tmp 9), 36, _, _, none⟩) (v := .agg #[.int .i64 x1, .int .i64 y1]) rfl (fun _ _ _ h => h) (by rfl) (by assumption) (fun wS hSw => ?_) ?_
      · (try dsimp only at hSw); go_simp
      simp only [Act.put, List.setIfInBounds_toArray, List.set_cons_zero, List.set_cons_succ]
      refine wpAnyT_take (oi := ⟨some 45, Op.move (Operand.tmp 12), 3, _, _, none⟩) (v := .int .i64 M) rfl (fun _ _ _ h => h) (by rfl) (by assumption) (fun wS hSw => ?_) ?_
      · (try dsimp only at hSw); go_simp
      simp only [Act.put, List.setIfInBounds_toArray, List.set_cons_zero, List.set_cons_succ]
      refine wpAnyT_end ?_
      refine wpAnyH_listed #[true, true, true, false, true, true, true, false, false, false, false, false, false, false, false, false, false, false, false, false, false, false, false, false, false, false, false, false, false, false, false, false, false, false, false, false, false, false, false, false, false, false, false, false, false, false] (by kernel_rfl) ?_
      refine wpAnyH_ready (rs := [3]) (by kernel_rfl) (by simp) ?_
      refine AllReadyH.cons (o := ⟨some 42, Op.call { callee := Callee.value (Operand.func 23), args := #[Operand.tmp 39, Operand.tmp 40, Operand.tmp 41], argTypes := #[23, 36, 3] }, 4, _, _, none⟩) rfl (fun K hK => ?_) AllReadyH.nil
      go_simp
      go_at_call 23
      refine (calls_two C101 (v23 _ _ x1 y1 _ _ RA HM r1 Hr1.out)).mono ?_
      rintro e w102 ⟨rfl, C102, g102⟩
      go_wp2_with fail
      clear hHeld
      refine hK.out _ _ (HS101.out _ C102) (fun hHeld => ?_)
      clear hK K
      try simp only [List.setIfInBounds_toArray, List.set_cons_zero, List.set_cons_succ]
      refine wpAnyH_listed #[true, true, true, true, true, true, true, false, false, false, false, false, false, false, false, false, false, false, false, false, false, false, false, false, false, false, false, false, false, false, false, false, false, false, false, false, false, false, false, false, false, false, false, false, false, false] (by kernel_rfl) ?_
      replace RV := RV.later g102
      replace RA := RA.later g102
      clear C101 g102
      refine wpAnyH_ready (rs := [7]) (by kernel_rfl) (by simp) ?_
      refine AllReadyH.cons (o := ⟨some 46, Op.call { callee := Callee.value (Operand.func 24), args := #[Operand.tmp 43, Operand.tmp 44, Operand.tmp 45], argTypes := #[23, 36, 3] }, 4, _, _, none⟩) rfl (fun K hK => ?_) AllReadyH.nil
      go_simp
      go_at_call 24
      refine (calls_two C102 (v24 _ _ x1 y1 _ _ RA HM r1 Hr1.out)).mono ?_
      rintro e w103 ⟨rfl, C103, g103⟩
      go_wp2_with fail
      clear hHeld
      refine hK.out _ _ (HS101.out _ C103) (fun hHeld => ?_)
      clear hK K
      try simp only [List.setIfInBounds_toArray, List.set_cons_zero, List.set_cons_succ]
      refine wpAnyH_listed #[true, true, true, true, true, true, true, true, false, false, false, false, false, false, false, false, false, false, false, false, false, false, false, false, false, false, false, false, false, false, false, false, false, false, false, false, false, false, false, false, false, false, false, false, false, false] (by kernel_rfl) ?_
      replace RV := RV.later g103
      replace RA := RA.later g103
      clear C102 g103
      refine wpAnyT_begin [8] (by kernel_rfl) (by kernel_rfl) ?_
      refine wpAnyT_take (oi := ⟨some 47, Op.binOp BinOp.neq 4 (Operand.tmp 42) (Operand.tmp 46) 4, 4, _, _, none⟩) (v := .bool false) rfl (fun _ _ _ h => h) (by rfl) (by assumption) (fun wS hSw => ?_) ?_
      · (try dsimp only at hSw); go_simp
      simp only [Act.put, List.setIfInBounds_toArray, List.set_cons_zero, List.set_cons_succ]
      refine wpAnyT_end ?_
      refine wpAnyH_listed #[true, true, true, true, true, true, true, true, true, false, false, false, false, false, false, false, false, false, false, false, false, false, false, false, false, false, false, false, false, false, false, false, false, false, false, false, false, false, false, false, false, false, false, false, false, false] (by kernel_rfl) ?_
      refine wpAnyT_begin [9] (by kernel_rfl) (by kernel_rfl) ?_
      refine wpAnyT_take (oi := ⟨some 48, Op.move (Operand.tmp 47), 4, _, _, none⟩) (v := .bool false) rfl (fun _ _ _ h => h) (by rfl) (by assumption) (fun wS hSw => ?_) ?_
      · (try dsimp only at hSw); go_simp
      simp only [Act.put, List.setIfInBounds_toArray, List.set_cons_zero, List.set_cons_succ]
      refine wpAnyT_end ?_
      refine wpAnyH_listed #[true, true, true, true, true, true, true, true, true, true, false, false, false, false, false, false, false, false, false, false, false, false, false, false, false, false, false, false, false, false, false, false, false, false, false, false, false, false, false, false, false, false, false, false, false, false] (by kernel_rfl) ?_
      refine wpAnyT_begin [10, 11, 12, 14, 15, 16] (by kernel_rfl) (by kernel_rfl) ?_
      refine wpAnyT_take (oi := ⟨some 49, Op.move (Operand.tmp 8), 23, _, _, some (9, false)⟩) (v := uA) rfl (fun _ _ _ h => h) (by rfl) (by assumption) (fun wS hSw => ?_) ?_
      · (try dsimp only at hSw); go_simp
      simp only [Act.put, List.setIfInBounds_toArray, List.set_cons_zero, List.set_cons_succ]
      refine wpAnyT_take (oi := ⟨some 50, Op.load 36 (Operand.tmp 10), 36, _, _, some (9, false)⟩) (v := .agg #[.int .i64 q0, .int .i64 q1]) rfl (fun _ _ _ h => h) (by rfl) (by assumption) (fun wS hSw => ?_) ?_
      · (try dsimp only at hSw); go_simp
      simp only [Act.put, List.setIfInBounds_toArray, List.set_cons_zero, List.set_cons_succ]
      refine wpAnyT_take (oi := ⟨some 51, Op.move (Operand.tmp 12), 3, _, _, some (9, false)⟩) (v := .int .i64 M) rfl (fun _ _ _ h => h) (by rfl) (by assumption) (fun wS hSw => ?_) ?_
      · (try dsimp only at hSw); go_simp
      simp only [Act.put, List.setIfInBounds_toArray, List.set_cons_zero, List.set_cons_succ]
      refine wpAnyT_take (oi := ⟨some 53, Op.move (Operand.tmp 8), 23, _, _, some (9, false)⟩) (v := uA) rfl (fun _ _ _ h => h) (by rfl) (by assumption) (fun wS hSw => ?_) ?_
      · (try dsimp only at hSw); go_simp
      simp only [Act.put, List.setIfInBounds_toArray, List.set_cons_zero, List.set_cons_succ]
      refine wpAnyT_take (oi := ⟨some 54, Op.load 36 (Operand.tmp 10), 36, _, _, some (9, false)⟩) (v := .agg #[.int .i64 q0, .int .i64 q1]) rfl (fun _ _ _ h => h) (by rfl) (by assumption) (fun wS hSw => ?_) ?_
      · (try dsimp only at hSw); go_simp
      simp only [Act.put, List.setIfInBounds_toArray, List.set_cons_zero, List.set_cons_succ]
      refine wpAnyT_take (oi := ⟨some 55, Op.move (Operand.tmp 12), 3, _, _, some (9, false)⟩) (v := .int .i64 M) rfl (fun _ _ _ h => h) (by rfl) (by assumption) (fun wS hSw => ?_) ?_
      · (try dsimp only at hSw); go_simp
      simp only [Act.put, List.setIfInBounds_toArray, List.set_cons_zero, List.set_cons_succ]
      refine wpAnyT_end ?_
      refine wpAnyH_listed #[true, true, true, true, true, true, true, true, true, true, true, true, true, false, true, true, true, false, false, false, false, false, false, false, false, false, false, false, false, false, false, false, false, false, false, false, false, false, false, false, false, false, false, false, false, false] (by kernel_rfl) ?_
      refine wpAnyH_ready (rs := [13]) (by kernel_rfl) (by simp) ?_
      refine AllReadyH.cons (o := ⟨some 52, Op.call { callee := Callee.value (Operand.func 23), args := #[Operand.tmp 49, Operand.tmp 50, Operand.tmp 51], argTypes := #[23, 36, 3] }, 4, _, _, some (9, false)⟩) rfl (fun K hK => ?_) AllReadyH.nil
      go_simp
      go_at_call 23
      refine (calls_two C103 (v23 _ _ q0 q1 _ _ RA HM r2 Hr2.out)).mono ?_
      rintro e w104 ⟨rfl, C104, g104⟩
      go_wp2_with fail
      clear hHeld
      refine hK.out _ _ (HS101.out _ C104) (fun hHeld => ?_)
      clear hK K
      try simp only [List.setIfInBounds_toArray, List.set_cons_zero, List.set_cons_succ]
      refine wpAnyH_listed #[true, true, true, true, true, true, true, true, true, true, true, true, true, true, true, true, true, false, false, false, false, false, false, false, false, false, false, false, false, false, false, false, false, false, false, false, false, false, false, false, false, false, false, false, false, false] (by kernel_rfl) ?_
      replace RV := RV.later g104
      replace RA := RA.later g104
      clear C103 g104
      refine wpAnyH_ready (rs := [17]) (by kernel_rfl) (by simp) ?_
      refine AllReadyH.cons (o := ⟨some 56, Op.call { callee := Callee.value (Operand.func 24), args := #[Operand.tmp 53, Operand.tmp 54, Operand.tmp 55], argTypes := #[23, 36, 3] }, 4, _, _, some (9, false)⟩) rfl (fun K hK => ?_) AllReadyH.nil
      go_simp
      go_at_call 24
      refine (calls_two C104 (v24 _ _ q0 q1 _ _ RA HM r2 Hr2.out)).mono ?_
      rintro e w105 ⟨rfl, C105, g105⟩
      go_wp2_with fail
      clear hHeld
      refine hK.out _ _ (HS101.out _ C105) (fun hHeld => ?_)
      clear hK K
      try simp only [List.setIfInBounds_toArray, List.set_cons_zero, List.set_cons_succ]
      refine wpAnyH_listed #[true, true, true, true, true, true, true, true, true, true, true, true, true, true, true, true, true, true, false, false, false, false, false, false, false, false, false, false, false, false, false, false, false, false, false, false, false, false, false, false, false, false, false, false, false, false] (by kernel_rfl) ?_
      replace RV := RV.later g105
      replace RA := RA.later g105
      clear C104 g105
      refine wpAnyT_begin [18] (by kernel_rfl) (by kernel_rfl) ?_
      refine wpAnyT_take (oi := ⟨some 57, Op.binOp BinOp.neq 4 (Operand.tmp 52) (Operand.tmp 56) 4, 4, _, _, some (9, false)⟩) (v := .bool false) rfl (fun _ _ _ h => h) (by rfl) (by assumption) (fun wS hSw => ?_) ?_
      · (try dsimp only at hSw); go_simp
      simp only [Act.put, List.setIfInBounds_toArray, List.set_cons_zero, List.set_cons_succ]
      refine wpAnyT_end ?_
      refine wpAnyH_listed #[true, true, true, true, true, true, true, true, true, true, true, true, true, true, true, true, true, true, true, false, false, false, false, false, false, false, false, false, false, false, false, false, false, false, false, false, false, false, false, false, false, false, false, false, false, false] (by kernel_rfl) ?_
      refine wpAnyT_begin [19] (by kernel_rfl) (by kernel_rfl) ?_
      refine wpAnyT_take (oi := ⟨some 58, Op.pick (Operand.tmp 48) (Operand.const (Value.bool true)) (Operand.tmp 57), 4, _, _, none⟩) (v := .bool false) rfl (fun _ _ _ h => h) (by rfl) (by assumption) (fun wS hSw => ?_) ?_
      · (try dsimp only at hSw); go_simp
      simp only [Act.put, List.setIfInBounds_toArray, List.set_cons_zero, List.set_cons_succ]
      refine wpAnyT_end ?_
      refine wpAnyH_listed #[true, true, true, true, true, true, true, true, true, true, true, true, true, true, true, true, true, true, true, true, false, false, false, false, false, false, false, false, false, false, false, false, false, false, false, false, false, false, false, false, false, false, false, false, false, false] (by kernel_rfl) ?_
      refine wpAnyT_begin [20] (by kernel_rfl) (by kernel_rfl) ?_
      refine wpAnyT_take (oi := ⟨some 59, Op.move (Operand.tmp 58), 4, _, _, none⟩) (v := .bool false) rfl (fun _ _ _ h => h) (by rfl) (by assumption) (fun wS hSw => ?_) ?_
      · (try dsimp only at hSw); go_simp
      simp only [Act.put, List.setIfInBounds_toArray, List.set_cons_zero, List.set_cons_succ]
      refine wpAnyT_end ?_
      refine wpAnyH_listed #[true, true, true, true, true, true, true, true, true, true, true, true, true, true, true, true, true, true, true, true, true, false, false, false, false, false, false, false, false, false, false, false, false, false, false, false, false, false, false, false, false, false, false, false, false, false] (by kernel_rfl) ?_
      refine wpAnyT_begin [21, 23, 24, 26, 28, 29] (by kernel_rfl) (by kernel_rfl) ?_
      refine wpAnyT_take (oi := ⟨some 60, Op.move (Operand.tmp 1), 23, _, _, some (20, false)⟩) (v := v) rfl (fun _ _ _ h => h) (by rfl) (by assumption) (fun wS hSw => ?_) ?_
      · (try dsimp only at hSw); go_simp
      simp only [Act.put, List.setIfInBounds_toArray, List.set_cons_zero, List.set_cons_succ]
      refine wpAnyT_take (oi := ⟨some 62, Op.load 36 (Operand.tmp 10), 36, _, _, some (20, false)⟩) (v := .agg #[.int .i64 q0, .int .i64 q1]) rfl (fun _ _ _ h => h) (by rfl) (by assumption) (fun wS hSw => ?_) ?_
      · (try dsimp only at hSw); go_simp
      simp only [Act.put, List.setIfInBounds_toArray, List.set_cons_zero, List.set_cons_succ]
      refine wpAnyT_take (oi := ⟨some 63, Op.move (Operand.tmp 12), 3, _, _, some (20, false)⟩) (v := .int .i64 M) rfl (fun _ _ _ h => h) (by rfl) (by assumption) (fun wS hSw => ?_) ?_
      · (try dsimp only at hSw); go_simp
      simp only [Act.put, List.setIfInBounds_toArray, List.set_cons_zero, List.set_cons_succ]
      refine wpAnyT_take (oi := ⟨some 65, Op.move (Operand.tmp 1), 23, _, _, some (20, false)⟩) (v := v) rfl (fun _ _ _ h => h) (by rfl) (by assumption) (fun wS hSw => ?_) ?_
      · (try dsimp only at hSw); go_simp
      simp only [Act.put, List.setIfInBounds_toArray, List.set_cons_zero, List.set_cons_succ]
      refine wpAnyT_take (oi := ⟨some 67, Op.load 36 (Operand.tmp 10), 36, _, _, some (20, false)⟩) (v := .agg #[.int .i64 q0, .int .i64 q1]) rfl (fun _ _ _ h => h) (by rfl) (by assumption) (fun wS hSw => ?_) ?_
      · (try dsimp only at hSw); go_simp
      simp only [Act.put, List.setIfInBounds_toArray, List.set_cons_zero, List.set_cons_succ]
      refine wpAnyT_take (oi := ⟨some 68, Op.move (Operand.tmp 12), 3, _, _, some (20, false)⟩) (v := .int .i64 M) rfl (fun _ _ _ h => h) (by rfl) (by assumption) (fun wS hSw => ?_) ?_
      · (try dsimp only at hSw); go_simp
      simp only [Act.put, List.setIfInBounds_toArray, List.set_cons_zero, List.set_cons_succ]
      refine wpAnyT_end ?_
      refine wpAnyH_listed #[true, true, true, true, true, true, true, true, true, true, true, true, true, true, true, true, true, true, true, true, true, true, false, true, true, false, true, false, true, true, false, false, false, false, false, false, false, false, false, false, false, false, false, false, false, false] (by kernel_rfl) ?_
      refine wpAnyH_ready (rs := [22]) (by kernel_rfl) (by simp) ?_
      refine AllReadyH.cons (o := ⟨some 61, Op.call { callee := Callee.value (Operand.func 25), args := #[Operand.tmp 60], argTypes := #[23] }, 23, _, _, some (20, false)⟩) rfl (fun K hK => ?_) AllReadyH.nil
      go_simp
      go_at_call 25
      refine (few_any _ _ _ RV).mono ?_
      rintro e w106 ⟨u106, rfl, R106, g106⟩
      have C106 := C105.later g106
      go_wp2_with fail
      clear hHeld
      refine hK.out _ _ (HS101.out _ C106) (fun hHeld => ?_)
      clear hK K
      try simp only [List.setIfInBounds_toArray, List.set_cons_zero, List.set_cons_succ]
      refine wpAnyH_listed #[true, true, true, true, true, true, true, true, true, true, true, true, true, true, true, true, true, true, true, true, true, true, true, true, true, false, true, false, true, true, false, false, false, false, false, false, false, false, false, false, false, false, false, false, false, false] (by kernel_rfl) ?_
      replace RV := RV.later g106
      replace RA := RA.later g106
      clear C105 g106
      refine wpAnyH_ready (rs := [25]) (by kernel_rfl) (by simp) ?_
      refine AllReadyH.cons (o := ⟨some 64, Op.call { callee := Callee.value (Operand.func 23), args := #[Operand.tmp 61, Operand.tmp 62, Operand.tmp 63], argTypes := #[23, 36, 3] }, 4, _, _, some (20, false)⟩) rfl (fun K hK => ?_) AllReadyH.nil
      go_simp
      go_at_call 23
      refine (calls_two C106 (v23 _ _ q0 q1 _ _ R106 HM r3 Hr3.out)).mono ?_
      rintro e w107 ⟨rfl, C107, g107⟩
      go_wp2_with fail
      clear hHeld
      refine hK.out _ _ (HS101.out _ C107) (fun hHeld => ?_)
      clear hK K
      try simp only [List.setIfInBounds_toArray, List.set_cons_zero, List.set_cons_succ]
      refine wpAnyH_listed #[true, true, true, true, true, true, true, true, true, true, true, true, true, true, true, true, true, true, true, true, true, true, true, true, true, true, true, false, true, true, false, false, false, false, false, false, false, false, false, false, false, false, false, false, false, false] (by kernel_rfl) ?_
      replace RV := RV.later g107
      replace RA := RA.later g107
      replace R106 := R106.later g107
      clear C106 g107
      refine wpAnyH_ready (rs := [27]) (by kernel_rfl) (by simp) ?_
      refine AllReadyH.cons (o := ⟨some 66, Op.call { callee := Callee.value (Operand.func 25), args := #[Operand.tmp 65], argTypes := #[23] }, 23, _, _, some (20, false)⟩) rfl (fun K hK => ?_) AllReadyH.nil
      go_simp
      go_at_call 25
      refine (few_any _ _ _ RV).mono ?_
      rintro e w108 ⟨u108, rfl, R108, g108⟩
      have C108 := C107.later g108
      go_wp2_with fail
      clear hHeld
      refine hK.out _ _ (HS101.out _ C108) (fun hHeld => ?_)
      clear hK K
      try simp only [List.setIfInBounds_toArray, List.set_cons_zero, List.set_cons_succ]
      refine wpAnyH_listed #[true, true, true, true, true, true, true, true, true, true, true, true, true, true, true, true, true, true, true, true, true, true, true, true, true, true, true, true, true, true, false, false, false, false, false, false, false, false, false, false, false, false, false, false, false, false] (by kernel_rfl) ?_
      replace RV := RV.later g108
      replace RA := RA.later g108
      replace R106 := R106.later g108
      clear C107 g108
      refine wpAnyH_ready (rs := [30]) (by kernel_rfl) (by simp) ?_
      refine AllReadyH.cons (o := ⟨some 69, Op.call { callee := Callee.value (Operand.func 24), args := #[Operand.tmp 66, Operand.tmp 67, Operand.tmp 68], argTypes := #[23, 36, 3] }, 4, _, _, some (20, false)⟩) rfl (fun K hK => ?_) AllReadyH.nil
      go_simp
      go_at_call 24
      refine (calls_two C108 (v24 _ _ q0 q1 _ _ R108 HM r3 Hr3.out)).mono ?_
      rintro e w109 ⟨rfl, C109, g109⟩
      go_wp2_with fail
      clear hHeld
      refine hK.out _ _ (HS101.out _ C109) (fun hHeld => ?_)
      clear hK K
      try simp only [List.setIfInBounds_toArray, List.set_cons_zero, List.set_cons_succ]
      refine wpAnyH_listed #[true, true, true, true, true, true, true, true, true, true, true, true, true, true, true, true, true, true, true, true, true, true, true, true, true, true, true, true, true, true, true, false, false, false, false, false, false, false, false, false, false, false, false, false, false, false] (by kernel_rfl) ?_
      replace RV := RV.later g109
      replace RA := RA.later g109
      replace R106 := R106.later g109
      replace R108 := R108.later g109
      clear C108 g109
      refine wpAnyT_begin [31] (by kernel_rfl) (by kernel_rfl) ?_
      refine wpAnyT_take (oi := ⟨some 70, Op.binOp BinOp.neq 4 (Operand.tmp 64) (Operand.tmp 69) 4, 4, _, _, some (20, false)⟩) (v := .bool false) rfl (fun _ _ _ h => h) (by rfl) (by assumption) (fun wS hSw => ?_) ?_
      · (try dsimp only at hSw); go_simp
      simp only [Act.put, List.setIfInBounds_toArray, List.set_cons_zero, List.set_cons_succ]
      refine wpAnyT_end ?_
      refine wpAnyH_listed #[true, true, true, true, true, true, true, true, true, true, true, true, true, true, true, true, true, true, true, true, true, true, true, true, true, true, true, true, true, true, true, true, false, false, false, false, false, false, false, false, false, false, false, false, false, false] (by kernel_rfl) ?_
      refine wpAnyT_begin [32] (by kernel_rfl) (by kernel_rfl) ?_
      refine wpAnyT_take (oi := ⟨some 71, Op.pick (Operand.tmp 59) (Operand.const (Value.bool true)) (Operand.tmp 70), 4, _, _, none⟩) (v := .bool false) rfl (fun _ _ _ h => h) (by rfl) (by assumption) (fun wS hSw => ?_) ?_
      · (try dsimp only at hSw); go_simp
      simp only [Act.put, List.setIfInBounds_toArray, List.set_cons_zero, List.set_cons_succ]
      refine wpAnyT_end ?_
      refine wpAnyH_listed #[true, true, true, true, true, true, true, true, true, true, true, true, true, true, true, true, true, true, true, true, true, true, true, true, true, true, true, true, true, true, true, true, true, false, false, false, false, false, false, false, false, false, false, false, false, false] (by kernel_rfl) ?_
      refine wpAnyT_begin [33] (by kernel_rfl) (by kernel_rfl) ?_
      refine wpAnyT_take (oi := ⟨some 72, Op.move (Operand.tmp 71), 4, _, _, none⟩) (v := .bool false) rfl (fun _ _ _ h => h) (by rfl) (by assumption) (fun wS hSw => ?_) ?_
      · (try dsimp only at hSw); go_simp
      simp only [Act.put, List.setIfInBounds_toArray, List.set_cons_zero, List.set_cons_succ]
      refine wpAnyT_end ?_
      refine wpAnyH_listed #[true, true, true, true, true, true, true, true, true, true, true, true, true, true, true, true, true, true, true, true, true, true, true, true, true, true, true, true, true, true, true, true, true, true, false, false, false, false, false, false, false, false, false, false, false, false] (by kernel_rfl) ?_
      refine wpAnyT_begin [34, 36, 37, 39, 41, 42] (by kernel_rfl) (by kernel_rfl) ?_
      refine wpAnyT_take (oi := ⟨some 73, Op.move (Operand.tmp 1), 23, _, _, some (33, false)⟩) (v := v) rfl (fun _ _ _ h => h) (by rfl) (by assumption) (fun wS hSw => ?_) ?_
      · (try dsimp only at hSw); go_simp
      simp only [Act.put, List.setIfInBounds_toArray, List.set_cons_zero, List.set_cons_succ]
      refine wpAnyT_take (oi := ⟨some 75, Op.load 36 (Operand.tmp 9), 36, _, _, some (33, false)⟩) (v := .agg #[.int .i64 x1, .int .i64 y1]) rfl (fun _ _ _ h => h) (by rfl) (by assumption) (fun wS hSw => ?_) ?_
      · (try dsimp only at hSw); go_simp
      simp only [Act.put, List.setIfInBounds_toArray, List.set_cons_zero, List.set_cons_succ]
      refine wpAnyT_take (oi := ⟨some 76, Op.move (Operand.tmp 12), 3, _, _, some (33, false)⟩) (v := .int .i64 M) rfl (fun _ _ _ h => h) (by rfl) (by assumption) (fun wS hSw => ?_) ?_
      · (try dsimp only at hSw); go_simp
      simp only [Act.put, List.setIfInBounds_toArray, List.set_cons_zero, List.set_cons_succ]
      refine wpAnyT_take (oi := ⟨some 78, Op.move (Operand.tmp 1), 23, _, _, some (33, false)⟩) (v := v) rfl (fun _ _ _ h => h) (by rfl) (by assumption) (fun wS hSw => ?_) ?_
      · (try dsimp only at hSw); go_simp
      simp only [Act.put, List.setIfInBounds_toArray, List.set_cons_zero, List.set_cons_succ]
      refine wpAnyT_take (oi := ⟨some 80, Op.load 36 (Operand.tmp 9), 36, _, _, some (33, false)⟩) (v := .agg #[.int .i64 x1, .int .i64 y1]) rfl (fun _ _ _ h => h) (by rfl) (by assumption) (fun wS hSw => ?_) ?_
      · (try dsimp only at hSw); go_simp
      simp only [Act.put, List.setIfInBounds_toArray, List.set_cons_zero, List.set_cons_succ]
      refine wpAnyT_take (oi := ⟨some 81, Op.move (Operand.tmp 12), 3, _, _, some (33, false)⟩) (v := .int .i64 M) rfl (fun _ _ _ h => h) (by rfl) (by assumption) (fun wS hSw => ?_) ?_
      · (try dsimp only at hSw); go_simp
      simp only [Act.put, List.setIfInBounds_toArray, List.set_cons_zero, List.set_cons_succ]
      refine wpAnyT_end ?_
      refine wpAnyH_listed #[true, true, true, true, true, true, true, true, true, true, true, true, true, true, true, true, true, true, true, true, true, true, true, true, true, true, true, true, true, true, true, true, true, true, true, false, true, true, false, true, false, true, true, false, false, false] (by kernel_rfl) ?_
      refine wpAnyH_ready (rs := [35]) (by kernel_rfl) (by simp) ?_
      refine AllReadyH.cons (o := ⟨some 74, Op.call { callee := Callee.value (Operand.func 25), args := #[Operand.tmp 73], argTypes := #[23] }, 23, _, _, some (33, false)⟩) rfl (fun K hK => ?_) AllReadyH.nil
      go_simp
      go_at_call 25
      refine (few_any _ _ _ RV).mono ?_
      rintro e w110 ⟨u110, rfl, R110, g110⟩
      have C110 := C109.later g110
      go_wp2_with fail
      clear hHeld
      refine hK.out _ _ (HS101.out _ C110) (fun hHeld => ?_)
      clear hK K
      try simp only [List.setIfInBounds_toArray, List.set_cons_zero, List.set_cons_succ]
      refine wpAnyH_listed #[true, true, true, true, true, true, true, true, true, true, true, true, true, true, true, true, true, true, true, true, true, true, true, true, true, true, true, true, true, true, true, true, true, true, true, true, true, true, false, true, false, true, true, false, false, false] (by kernel_rfl) ?_
      replace RV := RV.later g110
      replace RA := RA.later g110
      replace R106 := R106.later g110
      replace R108 := R108.later g110
      clear C109 g110
      refine wpAnyH_ready (rs := [38]) (by kernel_rfl) (by simp) ?_
      refine AllReadyH.cons (o := ⟨some 77, Op.call { callee := Callee.value (Operand.func 23), args := #[Operand.tmp 74, Operand.tmp 75, Operand.tmp 76], argTypes := #[23, 36, 3] }, 4, _, _, some (33, false)⟩) rfl (fun K hK => ?_) AllReadyH.nil
      go_simp
      go_at_call 23
      refine (calls_two C110 (v23 _ _ x1 y1 _ _ R110 HM r4 Hr4.out)).mono ?_
      rintro e w111 ⟨rfl, C111, g111⟩
      go_wp2_with fail
      clear hHeld
      refine hK.out _ _ (HS101.out _ C111) (fun hHeld => ?_)
      clear hK K
      try simp only [List.setIfInBounds_toArray, List.set_cons_zero, List.set_cons_succ]
      refine wpAnyH_listed #[true, true, true, true, true, true, true, true, true, true, true, true, true, true, true, true, true, true, true, true, true, true, true, true, true, true, true, true, true, true, true, true, true, true, true, true, true, true, true, true, false, true, true, false, false, false] (by kernel_rfl) ?_
      replace RV := RV.later g111
      replace RA := RA.later g111
      replace R106 := R106.later g111
      replace R108 := R108.later g111
      replace R110 := R110.later g111
      clear C110 g111
      refine wpAnyH_ready (rs := [40]) (by kernel_rfl) (by simp) ?_
      refine AllReadyH.cons (o := ⟨some 79, Op.call { callee := Callee.value (Operand.func 25), args := #[Operand.tmp 78], argTypes := #[23] }, 23, _, _, some (33, false)⟩) rfl (fun K hK => ?_) AllReadyH.nil
      go_simp
      go_at_call 25
      refine (few_any _ _ _ RV).mono ?_
      rintro e w112 ⟨u112, rfl, R112, g112⟩
      have C112 := C111.later g112
      go_wp2_with fail
      clear hHeld
      refine hK.out _ _ (HS101.out _ C112) (fun hHeld => ?_)
      clear hK K
      try simp only [List.setIfInBounds_toArray, List.set_cons_zero, List.set_cons_succ]
      refine wpAnyH_listed #[true, true, true, true, true, true, true, true, true, true, true, true, true, true, true, true, true, true, true, true, true, true, true, true, true, true, true, true, true, true, true, true, true, true, true, true, true, true, true, true, true, true, true, false, false, false] (by kernel_rfl) ?_
      replace RV := RV.later g112
      replace RA := RA.later g112
      replace R106 := R106.later g112
      replace R108 := R108.later g112
      replace R110 := R110.later g112
      clear C111 g112
      refine wpAnyH_ready (rs := [43]) (by kernel_rfl) (by simp) ?_
      refine AllReadyH.cons (o := ⟨some 82, Op.call { callee := Callee.value (Operand.func 24), args := #[Operand.tmp 79, Operand.tmp 80, Operand.tmp 81], argTypes := #[23, 36, 3] }, 4, _, _, some (33, false)⟩) rfl (fun K hK => ?_) AllReadyH.nil
      go_simp
      go_at_call 24
      refine (calls_two C112 (v24 _ _ x1 y1 _ _ R112 HM r4 Hr4.out)).mono ?_
      rintro e w113 ⟨rfl, C113, g113⟩
      go_wp2_with fail
      clear hHeld
      refine hK.out _ _ (HS101.out _ C113) (fun hHeld => ?_)
      clear hK K
      try simp only [List.setIfInBounds_toArray, List.set_cons_zero, List.set_cons_succ]
      refine wpAnyH_listed #[true, true, true, true, true, true, true, true, true, true, true, true, true, true, true, true, true, true, true, true, true, true, true, true, true, true, true, true, true, true, true, true, true, true, true, true, true, true, true, true, true, true, true, true, false, false] (by kernel_rfl) ?_
      replace RV := RV.later g113
      replace RA := RA.later g113
      replace R106 := R106.later g113
      replace R108 := R108.later g113
      replace R110 := R110.later g113
      replace R112 := R112.later g113
      clear C112 g113
      refine wpAnyT_begin [44] (by kernel_rfl) (by kernel_rfl) ?_
      refine wpAnyT_take (oi := ⟨some 83, Op.binOp BinOp.neq 4 (Operand.tmp 77) (Operand.tmp 82) 4, 4, _, _, some (33, false)⟩) (v := .bool false) rfl (fun _ _ _ h => h) (by rfl) (by assumption) (fun wS hSw => ?_) ?_
      · (try dsimp only at hSw); go_simp
      simp only [Act.put, List.setIfInBounds_toArray, List.set_cons_zero, List.set_cons_succ]
      refine wpAnyT_end ?_
      refine wpAnyH_listed #[true, true, true, true, true, true, true, true, true, true, true, true, true, true, true, true, true, true, true, true, true, true, true, true, true, true, true, true, true, true, true, true, true, true, true, true, true, true, true, true, true, true, true, true, true, false] (by kernel_rfl) ?_
      refine wpAnyT_begin [45] (by kernel_rfl) (by kernel_rfl) ?_
      refine wpAnyT_take (oi := ⟨some 84, Op.pick (Operand.tmp 72) (Operand.const (Value.bool true)) (Operand.tmp 83), 4, _, _, none⟩) (v := .bool false) rfl (fun _ _ _ h => h) (by rfl) (by assumption) (fun wS hSw => ?_) ?_
      · (try dsimp only at hSw); go_simp
      simp only [Act.put, List.setIfInBounds_toArray, List.set_cons_zero, List.set_cons_succ]
      refine wpAnyT_end ?_
      refine wpAnyH_listed #[true, true, true, true, true, true, true, true, true, true, true, true, true, true, true, true, true, true, true, true, true, true, true, true, true, true, true, true, true, true, true, true, true, true, true, true, true, true, true, true, true, true, true, true, true, true] (by kernel_rfl) ?_
      refine wpAnyH_done (by kernel_rfl) ?_ _
      clear hHeld
      clear HS101
      go_wp2_with fail
      go_roundw
      case rel => exact ⟨Tw.two, C113, RV, RA⟩
      case measure => simp [RowKit.intOf]
    · go_wp2_with fail
      go_ret
      exact ⟨rfl, C0.low⟩

end Go.Proofs.Ytkejilomempogaa
