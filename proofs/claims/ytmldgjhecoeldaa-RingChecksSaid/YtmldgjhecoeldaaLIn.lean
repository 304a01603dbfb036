/- The law of RingInside. -/
import Derived.Test.YtmldgjhecoeldaaGm
import Derived.Test.YtmldgjhecoeldaaSn
import Derived.Test.YtmldgjhecoeldaaRIns
namespace Go.Proofs.Ytmldgjhecoeldaa
open Go.RowKit Go.Lib

theorem tmod_i64 (x n : Int) (hn : 1 ≤ n ∧ n ≤ 1000000) : -9223372036854775808 ≤ x.tmod n ∧ x.tmod n ≤ 9223372036854775807 := by
  have h1 := Int.tmod_lt_of_pos x (show 0 < n by omega)
  have h2 := Int.lt_tmod_of_pos x (show 0 < n by omega)
  omega
theorem rinside_is (v : Value) (ps : List (Int × Int)) (p0 p1 : Int) (w : World) (hv : RowP w v ps) (r : Int) (h : insP ps (p0, p1) = r) : Calls Try.prog 19 #[v, .agg #[.int .i64 p0, .int .i64 p1]] w fun e w' => e = .returned (.int .i64 r) ∧ Below w.heap.size w w' := h ▸ rinside_any v ps p0 p1 w hv
/-- The first twelve points. -/
theorem cut_any (v : Value) (ps : List (Int × Int)) (w : World) (hv : RowP w v ps) :
    Calls Try.prog 12 #[v] w fun e w' => ∃ u, e = .returned u ∧ RowP w' u (ps.take 12) ∧ Below w.heap.size w w' := by
  have hv0 := hv
  obtain ⟨a, cap, rfl, h1, h2, -⟩ := hv0
  by_cases h : ps.length ≤ 12
  · have HR := Lib.hid (show RowP w (.slice a ps.length cap) (ps.take 12) by rw [List.take_of_length_le h]; exact hv)
    clear hv
    generalize ps.length = n at *
    have b1 : (n : Int) ≤ 12 := by omega
    have b2 : ¬ (12 : Int) < n := by omega
    have b3 : (n : Int) ≤ cap := by omega
    go_enter Try.func12, Try.ntmps12
    go_wp2_with fail
    go_ret
    exact ⟨_, rfl, HR.out, Below.refl _ _⟩
  · have HR := Lib.hid (hv.take 12 (by omega))
    clear hv
    generalize ps.length = n at *
    have b1 : ¬ (n : Int) ≤ 12 := by omega
    have b2 : (12 : Int) < n := by omega
    have b3 : (12 : Int) ≤ cap := by omega
    have b4 : 12 ≤ cap := by omega
    go_enter Try.func12, Try.ntmps12
    go_wp2_with fail
    go_ret
    exact ⟨_, rfl, HR.out, Below.refl _ _⟩

set_option linter.unusedSimpArgs false in
set_option linter.unusedVariables false in
set_option maxRecDepth 100000 in
set_option maxHeartbeats 16000000 in
theorem insides_any (v u : Value) (xs : List Int) (raw : List (Int × Int)) (p0 p1 : Int) (wz : World) (R : RowN wz v xs) (hu : RowP wz u raw) (_hb : ∀ p ∈ raw, (-9223372036854775808 ≤ p.1 ∧ p.1 ≤ 9223372036854775807) ∧ (-9223372036854775808 ≤ p.2 ∧ p.2 ≤ 9223372036854775807)) (b0 : (-9223372036854775808 ≤ p0 ∧ p0 ≤ 9223372036854775807)) (b1 : (-9223372036854775808 ≤ p1 ∧ p1 ≤ 9223372036854775807)) :
    Calls Try.prog 4 #[v, u, .agg #[.int .i64 p0, .int .i64 p1]] wz fun e w' => e = .returned (.bool true) ∧ Below wz.heap.size wz w' := by
  have HRN := Lib.hid R
  have HU := Lib.hid hu
  clear R hu
  have D0 := has1 (w := wz) [.int .i64 p0, .int .i64 p1] 24
  change Has wz _ (wz.alloc (.cells #[.int .i64 p0, .int .i64 p1] 24)) at D0
  go_enter Try.func4, Try.ntmps4
  go_wp2_with fail
  generalize wz.alloc (.cells #[.int .i64 p0, .int .i64 p1] 24) = w0 at *
  generalize hMz : wz.heap.size = M at *
  refine (Has.call D0 (sane_any w0)).mono ?_
  rintro e w1 ⟨rfl, D1⟩
  go_wp2_with fail
  refine (made_ring v xs w1 (HRN.out.later D1.low)).mono ?_
  rintro e w2 ⟨s0, r, rfl, hO, -, g2⟩
  have D2 := D1.later g2
  have R0 := hO.row
  go_wp2_with fail
  refine (cut_any u raw w2 (HU.out.later D2.low)).mono ?_
  rintro e w3 ⟨s1, rfl, R1, g3⟩
  obtain ⟨raw2, hraw⟩ : ∃ l, raw.take 12 = l := ⟨_, rfl⟩
  rw [hraw] at R1
  clear hraw
  have R1' := R1
  obtain ⟨a1, c1, e1, -⟩ := R1'
  subst e1
  have R0' := R0
  obtain ⟨a0, c0, e0, -⟩ := R0'
  subst e0
  have D3 := (D2.later g3).push [(.slice a0 r.length c0), (.slice a1 raw2.length c1)] 25
  replace R0 := (R0.later g3).later ((Below.refl _ w3).alloc (Nat.le_refl _) (.cells #[(.slice a0 r.length c0), (.slice a1 raw2.length c1)] 25))
  replace R1 := R1.later ((Below.refl _ w3).alloc (Nat.le_refl _) (.cells #[(.slice a0 r.length c0), (.slice a1 raw2.length c1)] 25))
  clear hO D0 D1 D2 g2 g3
  go_wp2_with fail
  generalize Value.slice a0 r.length c0 = s0 at *
  generalize Value.slice a1 raw2.length c1 = s1 at *
  generalize w3.alloc (.cells #[s0, s1] 25) = w at *
  generalize w3.heap.size = T at *
  go_loopw [21] (fun i wr => ∃ k : Nat, k ≤ 2 ∧ i = .int .i64 k ∧ Has wz [(T, [s0, s1]), (M, [.int .i64 p0, .int .i64 p1])] wr ∧ RowP wr s0 r ∧ RowP wr s1 raw2) (fun i _ => 2 - (RowKit.intOf i).toNat)
  case atStart => exact ⟨0, by omega, rfl, D3, R0, R1⟩
  case round =>
    clear D3 R0 R1
    obtain ⟨k, hk, rfl, C0, R0, R1⟩ := hrel
    by_cases hlt : k < 2
    · have ks : IntKind.i64.wrap ((k : Int) + 1) = ((k + 1 : Nat) : Int) := by rw [IntWalk.i64_in _ (by omega)]; rfl
      have b2 : (k : Int) < 2 := by omega
      have b3 : (0 : Int) ≤ k := by omega
      obtain ⟨s, ps, hs, hR⟩ : ∃ s ps, wr.cell? ⟨T, k, none⟩ = some s ∧ RowP wr s ps := by
        have h0 := C0.fact (.head _) (i := 0) rfl
        have h1 := C0.fact (.head _) (i := 1) rfl
        rcases (show k = 0 ∨ k = 1 by omega) with rfl | rfl
        · exact ⟨s0, _, h0, R0⟩
        · exact ⟨s1, _, h1, R1⟩
      go_wp2_with fail
      clear hs
      have HS1 := Lib.hid (show ∀ w', Has wz [(T, [s0, s1]), (M, [.int .i64 p0, .int .i64 p1])] w' → (w'.cell? ⟨T, 0, none⟩ = some (s0) ∧ w'.cell? ⟨T, 1, none⟩ = some (s1) ∧ w'.cell? ⟨M, 0, none⟩ = some (.int .i64 p0) ∧ w'.cell? ⟨M, 1, none⟩ = some (.int .i64 p1)) ∧ Has wz [(T, [s0, s1]), (M, [.int .i64 p0, .int .i64 p1])] w' from fun w' h => ⟨⟨h.fact (.head _) (i := 0) rfl, h.fact (.head _) (i := 1) rfl, h.tail.fact (.head _) (i := 0) rfl, h.tail.fact (.head _) (i := 1) rfl⟩, h⟩)
      have C1d := C0.drew
      replace R0 := R0.later ((Below.refl _ wr).drew)
      replace R1 := R1.later ((Below.refl _ wr).drew)
      replace hR := hR.later ((Below.refl _ wr).drew)
      refine wp_region_held_drew (S := (fun w' => (w'.cell? ⟨T, 0, none⟩ = some (s0) ∧ w'.cell? ⟨T, 1, none⟩ = some (s1) ∧ w'.cell? ⟨M, 0, none⟩ = some (.int .i64 p0) ∧ w'.cell? ⟨M, 1, none⟩ = some (.int .i64 p1)) ∧ Has wz [(T, [s0, s1]), (M, [.int .i64 p0, .int .i64 p1])] w')) (by kernel_rfl) (HS1.out _ C1d) (fun hHeld => ?_)
      clear C0
      generalize wr.drew = w1d at *
      refine wpAnyT_begin [0, 1, 4, 10] (by kernel_rfl) (by kernel_rfl) ?_
      refine wpAnyT_take (oi := ⟨some 25, Op.load 24 (Operand.tmp 5), 24, _, _, none⟩) (v := .agg #[.int .i64 p0, .int .i64 p1]) rfl (fun _ _ _ h => h) (by rfl) (by assumption) (fun wS hSw => ?_) ?_
      · (try dsimp only at hSw); go_simp
      simp only [Act.put, List.setIfInBounds_toArray, List.set_cons_zero, List.set_cons_succ]
      refine wpAnyT_take (oi := ⟨some 26, Op.fieldAddr 24 (Operand.tmp 5) 0, 0, _, _, none⟩) (v := .pointer (some ⟨M, 0, none⟩)) rfl (fun _ _ _ h => h) (by rfl) (by assumption) (fun wS hSw => ?_) ?_
      · (try dsimp only at hSw); go_simp
      simp only [Act.put, List.setIfInBounds_toArray, List.set_cons_zero, List.set_cons_succ]
      refine wpAnyT_take (oi := ⟨some 29, Op.fieldAddr 24 (Operand.tmp 5) 1, 0, _, _, none⟩) (v := .pointer (some ⟨M, 1, none⟩)) rfl (fun _ _ _ h => h) (by rfl) (by assumption) (fun wS hSw => ?_) ?_
      · (try dsimp only at hSw); go_simp
      simp only [Act.put, List.setIfInBounds_toArray, List.set_cons_zero, List.set_cons_succ]
      refine wpAnyT_take (oi := ⟨some 35, Op.move (Operand.const (Value.int IntKind.i64 0)), 3, _, _, none⟩) (v := .int .i64 0) rfl (fun _ _ _ h => h) (by rfl) (by assumption) (fun wS hSw => ?_) ?_
      · (try dsimp only at hSw); go_simp
      simp only [Act.put, List.setIfInBounds_toArray, List.set_cons_zero, List.set_cons_succ]
      refine wpAnyT_end ?_
      refine wpAnyH_listed #[true, true, false, false, true, false, false, false, false, false, true] (by kernel_rfl) ?_
      refine wpAnyT_begin [2, 5] (by kernel_rfl) (by kernel_rfl) ?_
      refine wpAnyT_take (oi := ⟨some 27, Op.load 3 (Operand.tmp 26), 3, _, _, none⟩) (v := .int .i64 p0) rfl (fun _ _ _ h => h) (by rfl) (by assumption) (fun wS hSw => ?_) ?_
      · (try dsimp only at hSw); go_simp
      simp only [Act.put, List.setIfInBounds_toArray, List.set_cons_zero, List.set_cons_succ]
      refine wpAnyT_take (oi := ⟨some 30, Op.load 3 (Operand.tmp 29), 3, _, _, none⟩) (v := .int .i64 p1) rfl (fun _ _ _ h => h) (by rfl) (by assumption) (fun wS hSw => ?_) ?_
      · (try dsimp only at hSw); go_simp
      simp only [Act.put, List.setIfInBounds_toArray, List.set_cons_zero, List.set_cons_succ]
      refine wpAnyT_end ?_
      refine wpAnyH_listed #[true, true, true, false, true, true, false, false, false, false, true] (by kernel_rfl) ?_
      refine wpAnyT_begin [3, 6] (by kernel_rfl) (by kernel_rfl) ?_
      refine wpAnyT_take (oi := ⟨some 28, Op.binOp BinOp.rem 3 (Operand.tmp 27) (Operand.const (Value.int IntKind.i64 30)) 3, 3, _, _, none⟩) (v := .int .i64 (p0.tmod 30)) rfl (fun _ _ _ h => h) (by rfl) (by assumption) (fun wS hSw => ?_) ?_
      · (try dsimp only at hSw); go_simp
      simp only [Act.put, List.setIfInBounds_toArray, List.set_cons_zero, List.set_cons_succ]
      refine wpAnyT_take (oi := ⟨some 31, Op.binOp BinOp.rem 3 (Operand.tmp 30) (Operand.const (Value.int IntKind.i64 30)) 3, 3, _, _, none⟩) (v := .int .i64 (p1.tmod 30)) rfl (fun _ _ _ h => h) (by rfl) (by assumption) (fun wS hSw => ?_) ?_
      · (try dsimp only at hSw); go_simp
      simp only [Act.put, List.setIfInBounds_toArray, List.set_cons_zero, List.set_cons_succ]
      refine wpAnyT_end ?_
      refine wpAnyH_listed #[true, true, true, true, true, true, true, false, false, false, true] (by kernel_rfl) ?_
      refine wpAnyH_ready (rs := [7]) (by kernel_rfl) (by simp) ?_
      refine AllReadyH.cons (o := ⟨some 32, Op.call { callee := Callee.value (Operand.func 13), args := #[Operand.tmp 28, Operand.tmp 31], argTypes := #[3, 3] }, 24, _, _, none⟩) rfl (fun K hK => ?_) AllReadyH.nil
      go_simp
      go_at_call 13
      refine (calls_two C1d (at_any (p0.tmod 30) (p1.tmod 30) _)).mono ?_
      rintro e w2 ⟨rfl, C2, g2⟩
      go_wp2_with fail
      clear hHeld
      refine hK.out _ _ (HS1.out _ (C2)) (fun hHeld => ?_)
      clear hK K
      try simp only [List.setIfInBounds_toArray, List.set_cons_zero, List.set_cons_succ]
      refine wpAnyH_listed #[true, true, true, true, true, true, true, true, false, false, true] (by kernel_rfl) ?_
      replace R0 := R0.later g2
      replace R1 := R1.later g2
      replace hR := hR.later g2
      clear C1d g2
      refine wpAnyH_ready (rs := [8]) (by kernel_rfl) (by simp) ?_
      refine AllReadyH.cons (o := ⟨some 33, Op.buildSlice 25 2 #[(0, Operand.tmp 25), (1, Operand.tmp 32)], 25, _, _, none⟩) rfl (fun K hK => ?_) AllReadyH.nil
      have C3 := C2.push [.int .i64 p0, .int .i64 p1, .int .i64 (p0.tmod 30), .int .i64 (p1.tmod 30)] 24
      have g3 : Grows w2 (w2.alloc (.cells #[.int .i64 p0, .int .i64 p1, .int .i64 (p0.tmod 30), .int .i64 (p1.tmod 30)] 24)) := (Below.refl _ w2).alloc (Nat.le_refl _) _
      go_simp
      change Has wz _ (w2.alloc (.cells #[.int .i64 p0, .int .i64 p1, .int .i64 (p0.tmod 30), .int .i64 (p1.tmod 30)] 24)) at C3
      generalize w2.alloc (.cells #[.int .i64 p0, .int .i64 p1, .int .i64 (p0.tmod 30), .int .i64 (p1.tmod 30)] 24) = w3 at *
      generalize w2.heap.size = T3 at *
      clear hHeld
      refine hK.out _ _ (HS1.out _ (C3.tail)) (fun hHeld => ?_)
      clear hK K
      try simp only [List.setIfInBounds_toArray, List.set_cons_zero, List.set_cons_succ]
      refine wpAnyH_listed #[true, true, true, true, true, true, true, true, true, false, true] (by kernel_rfl) ?_
      replace R0 := R0.later g3
      replace R1 := R1.later g3
      replace hR := hR.later g3
      clear C2 g3
      refine wpAnyT_begin [9] (by kernel_rfl) (by kernel_rfl) ?_
      refine wpAnyT_take (oi := ⟨some 34, Op.call { callee := Callee.builtin Builtin.len, args := #[Operand.tmp 33], argTypes := #[25] }, 3, _, _, none⟩) (v := .int .i64 2) rfl (fun _ _ _ h => h) (by rfl) (by assumption) (fun wS hSw => ?_) ?_
      · (try dsimp only at hSw); go_simp
      simp only [Act.put, List.setIfInBounds_toArray, List.set_cons_zero, List.set_cons_succ]
      refine wpAnyT_end ?_
      refine wpAnyH_listed #[true, true, true, true, true, true, true, true, true, true, true] (by kernel_rfl) ?_
      refine wpAnyH_done (by kernel_rfl) ?_ _
      clear hHeld
      clear HS1
      generalize hq0 : p0.tmod 30 = q0 at *
      generalize hq1 : p1.tmod 30 = q1 at *
      have bq0 : (-9223372036854775808 ≤ q0 ∧ q0 ≤ 9223372036854775807) := by rw [← hq0]; exact tmod_i64 p0 30 (by omega)
      have bq1 : (-9223372036854775808 ≤ q1 ∧ q1 ≤ 9223372036854775807) := by rw [← hq1]; exact tmod_i64 p1 30 (by omega)
      clear hq0 hq1
      go_wp2_with fail
      go_loopw [35] (fun i wr => ∃ j : Nat, j ≤ 2 ∧ i = .int .i64 j ∧ Has wz [(T3, [.int .i64 p0, .int .i64 p1, .int .i64 q0, .int .i64 q1]), (T, [s0, s1]), (M, [.int .i64 p0, .int .i64 p1])] wr ∧ RowP wr s0 r ∧ RowP wr s1 raw2 ∧ RowP wr s ps) (fun i _ => 2 - (RowKit.intOf i).toNat)
      case atStart => exact ⟨0, by omega, rfl, C3, R0, R1, hR⟩
      case round =>
        clear C3 R0 R1 hR
        obtain ⟨j, hj, rfl, C, R0, R1, hR⟩ := hrel
        by_cases hjt : j < 2
        · have js : IntKind.i64.wrap ((j : Int) + 1) = ((j + 1 : Nat) : Int) := by rw [IntWalk.i64_in _ (by omega)]; rfl
          have b4 : (j : Int) < 2 := by omega
          have b5 : (0 : Int) ≤ j := by omega
          obtain ⟨x, y, hx, hy, bx, by'⟩ : ∃ x y : Int, wr.cell? ⟨T3, j * 2, none⟩ = some (.int .i64 x) ∧ wr.cell? ⟨T3, j * 2 + 1, none⟩ = some (.int .i64 y) ∧ (-9223372036854775808 ≤ x ∧ x ≤ 9223372036854775807) ∧ (-9223372036854775808 ≤ y ∧ y ≤ 9223372036854775807) := by
            have h0 := C.fact (.head _) (i := 0) rfl
            have h1 := C.fact (.head _) (i := 1) rfl
            have h2 := C.fact (.head _) (i := 2) rfl
            have h3 := C.fact (.head _) (i := 3) rfl
            rcases (show j = 0 ∨ j = 1 by omega) with rfl | rfl
            · exact ⟨p0, p1, h0, h1, b0, b1⟩
            · exact ⟨q0, q1, h2, h3, bq0, bq1⟩
          obtain ⟨z, hz⟩ : ∃ z, insC ps (x, y) = z := ⟨_, rfl⟩
          have HZ1 := Lib.hid hz
          have HZ2 := Lib.hid (show insP ps (x, y) = z by rw [← hz]; exact (ins_box bx by').symm)
          clear hz
          go_wp2_with fail
          have C2 := C.push [.int .i64 x, .int .i64 y] 24
          have gV : Grows wr (wr.alloc (.cells #[.int .i64 x, .int .i64 y] 24)) := (Below.refl _ wr).alloc (Nat.le_refl _) _
          replace R0 := R0.later gV
          replace R1 := R1.later gV
          replace hR := hR.later gV
          change Has wz _ (wr.alloc (.cells #[.int .i64 x, .int .i64 y] 24)) at C2
          clear hx hy gV C
          generalize wr.alloc (.cells #[.int .i64 x, .int .i64 y] 24) = w9 at *
          generalize wr.heap.size = V at *
          have HS4 := Lib.hid (show ∀ w', Has wz [(V, [.int .i64 x, .int .i64 y]), (T3, [.int .i64 p0, .int .i64 p1, .int .i64 q0, .int .i64 q1]), (T, [s0, s1]), (M, [.int .i64 p0, .int .i64 p1])] w' → (w'.cell? ⟨V, 0, none⟩ = some (.int .i64 x) ∧ w'.cell? ⟨V, 1, none⟩ = some (.int .i64 y) ∧ w'.cell? ⟨T3, 0, none⟩ = some (.int .i64 p0) ∧ w'.cell? ⟨T3, 1, none⟩ = some (.int .i64 p1) ∧ w'.cell? ⟨T3, 2, none⟩ = some (.int .i64 q0) ∧ w'.cell? ⟨T3, 3, none⟩ = some (.int .i64 q1) ∧ w'.cell? ⟨T, 0, none⟩ = some (s0) ∧ w'.cell? ⟨T, 1, none⟩ = some (s1) ∧ w'.cell? ⟨M, 0, none⟩ = some (.int .i64 p0) ∧ w'.cell? ⟨M, 1, none⟩ = some (.int .i64 p1)) ∧ Has wz [(V, [.int .i64 x, .int .i64 y]), (T3, [.int .i64 p0, .int .i64 p1, .int .i64 q0, .int .i64 q1]), (T, [s0, s1]), (M, [.int .i64 p0, .int .i64 p1])] w' from fun w' h => ⟨⟨h.fact (.head _) (i := 0) rfl, h.fact (.head _) (i := 1) rfl, h.tail.fact (.head _) (i := 0) rfl, h.tail.fact (.head _) (i := 1) rfl, h.tail.fact (.head _) (i := 2) rfl, h.tail.fact (.head _) (i := 3) rfl, h.tail.tail.fact (.head _) (i := 0) rfl, h.tail.tail.fact (.head _) (i := 1) rfl, h.tail.tail.tail.fact (.head _) (i := 0) rfl, h.tail.tail.tail.fact (.head _) (i := 1) rfl⟩, h⟩)
          have C4d := C2.drew
          replace R0 := R0.later ((Below.refl _ w9).drew)
          replace R1 := R1.later ((Below.refl _ w9).drew)
          replace hR := hR.later ((Below.refl _ w9).drew)
          refine wp_region_held_drew (S := (fun w' => (w'.cell? ⟨V, 0, none⟩ = some (.int .i64 x) ∧ w'.cell? ⟨V, 1, none⟩ = some (.int .i64 y) ∧ w'.cell? ⟨T3, 0, none⟩ = some (.int .i64 p0) ∧ w'.cell? ⟨T3, 1, none⟩ = some (.int .i64 p1) ∧ w'.cell? ⟨T3, 2, none⟩ = some (.int .i64 q0) ∧ w'.cell? ⟨T3, 3, none⟩ = some (.int .i64 q1) ∧ w'.cell? ⟨T, 0, none⟩ = some (s0) ∧ w'.cell? ⟨T, 1, none⟩ = some (s1) ∧ w'.cell? ⟨M, 0, none⟩ = some (.int .i64 p0) ∧ w'.cell? ⟨M, 1, none⟩ = some (.int .i64 p1)) ∧ Has wz [(V, [.int .i64 x, .int .i64 y]), (T3, [.int .i64 p0, .int .i64 p1, .int .i64 q0, .int .i64 q1]), (T, [s0, s1]), (M, [.int .i64 p0, .int .i64 p1])] w')) (by kernel_rfl) (HS4.out _ C4d) (fun hHeld => ?_)
          clear C2
          generalize w9.drew = w4d at *
          refine wpAnyT_begin [0, 1, 3, 4] (by kernel_rfl) (by kernel_rfl) ?_
          refine wpAnyT_take (oi := ⟨some 39, Op.move (Operand.tmp 10), 25, _, _, none⟩) (v := s) rfl (fun _ _ _ h => h) (by rfl) (by assumption) (fun wS hSw => ?_) ?_
          · (try dsimp only at hSw); go_simp
          simp only [Act.put, List.setIfInBounds_toArray, List.set_cons_zero, List.set_cons_succ]
          refine wpAnyT_take (oi := ⟨some 40, Op.load 24 (Operand.tmp 12), 24, _, _, none⟩) (v := .agg #[.int .i64 x, .int .i64 y]) rfl (fun _ _ _ h => h) (by rfl) (by assumption) (fun wS hSw => ?_) ?_
          · (try dsimp only at hSw); go_simp
          simp only [Act.put, List.setIfInBounds_toArray, List.set_cons_zero, List.set_cons_succ]
          refine wpAnyT_take (oi := ⟨some 42, Op.move (Operand.tmp 10), 25, _, _, none⟩) (v := s) rfl (fun _ _ _ h => h) (by rfl) (by assumption) (fun wS hSw => ?_) ?_
          · (try dsimp only at hSw); go_simp
          simp only [Act.put, List.setIfInBounds_toArray, List.set_cons_zero, List.set_cons_succ]
          refine wpAnyT_take (oi := ⟨some 43, Op.load 24 (Operand.tmp 12), 24, _, _, none⟩) (v := .agg #[.int .i64 x, .int .i64 y]) rfl (fun _ _ _ h => h) (by rfl) (by assumption) (fun wS hSw => ?_) ?_
          · (try dsimp only at hSw); go_simp
          simp only [Act.put, List.setIfInBounds_toArray, List.set_cons_zero, List.set_cons_succ]
          refine wpAnyT_end ?_
          refine wpAnyH_listed #[true, true, false, true, true, false, false] (by kernel_rfl) ?_
          refine wpAnyH_ready (rs := [2]) (by kernel_rfl) (by simp) ?_
          refine AllReadyH.cons (o := ⟨some 41, Op.call { callee := Callee.value (Operand.func 18), args := #[Operand.tmp 39, Operand.tmp 40], argTypes := #[25, 24] }, 3, _, _, none⟩) rfl (fun K hK => ?_) AllReadyH.nil
          go_simp
          go_at_call 18
          refine (calls_two C4d (inside_is _ ps x y _ hR z HZ1.out)).mono ?_
          rintro e w5 ⟨rfl, C5, g5⟩
          go_wp2_with fail
          clear hHeld
          refine hK.out _ _ (HS4.out _ (C5)) (fun hHeld => ?_)
          clear hK K
          try simp only [List.setIfInBounds_toArray, List.set_cons_zero, List.set_cons_succ]
          refine wpAnyH_listed #[true, true, true, true, true, false, false] (by kernel_rfl) ?_
          replace R0 := R0.later g5
          replace R1 := R1.later g5
          replace hR := hR.later g5
          clear C4d g5
          refine wpAnyH_ready (rs := [5]) (by kernel_rfl) (by simp) ?_
          refine AllReadyH.cons (o := ⟨some 44, Op.call { callee := Callee.value (Operand.func 19), args := #[Operand.tmp 42, Operand.tmp 43], argTypes := #[25, 24] }, 3, _, _, none⟩) rfl (fun K hK => ?_) AllReadyH.nil
          go_simp
          go_at_call 19
          refine (calls_two C5 (rinside_is _ ps x y _ hR z HZ2.out)).mono ?_
          rintro e w6 ⟨rfl, C6, g6⟩
          go_wp2_with fail
          clear hHeld
          refine hK.out _ _ (HS4.out _ (C6)) (fun hHeld => ?_)
          clear hK K
          try simp only [List.setIfInBounds_toArray, List.set_cons_zero, List.set_cons_succ]
          refine wpAnyH_listed #[true, true, true, true, true, true, false] (by kernel_rfl) ?_
          replace R0 := R0.later g6
          replace R1 := R1.later g6
          replace hR := hR.later g6
          clear C5 g6
          refine wpAnyT_begin [6] (by kernel_rfl) (by kernel_rfl) ?_
          refine wpAnyT_take (oi := ⟨some 45, Op.binOp BinOp.neq 3 (Operand.tmp 41) (Operand.tmp 44) 3, 4, _, _, none⟩) (v := .bool false) rfl (fun _ _ _ h => h) (by rfl) (by assumption) (fun wS hSw => ?_) ?_
          · (try dsimp only at hSw); go_simp
          simp only [Act.put, List.setIfInBounds_toArray, List.set_cons_zero, List.set_cons_succ]
          refine wpAnyT_end ?_
          refine wpAnyH_listed #[true, true, true, true, true, true, true] (by kernel_rfl) ?_
          refine wpAnyH_done (by kernel_rfl) ?_ _
          clear hHeld
          clear HS4
          go_wp2_with fail
          go_roundw
          case rel => exact ⟨j + 1, by omega, by go_num, C6.tail, R0, R1, hR⟩
          case measure => simp [RowKit.intOf]; omega
        · obtain rfl : j = 2 := by omega
          go_wp2_with fail
          go_roundw
          case rel => exact ⟨k + 1, by omega, by go_num, C.tail, R0, R1⟩
          case measure => simp [RowKit.intOf]; omega
    · obtain rfl : k = 2 := by omega
      go_wp2_with fail
      go_ret
      exact ⟨rfl, C0.low⟩

end Go.Proofs.Ytmldgjhecoeldaa
