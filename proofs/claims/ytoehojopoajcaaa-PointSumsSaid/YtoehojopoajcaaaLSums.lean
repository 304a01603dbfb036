/- The sums, and the rest, against the reference. -/
import Derived.Test.YtoehojopoajcaaaLaw6
import Derived.Test.YtoehojopoajcaaaHeld
namespace Go.Proofs.Ytoehojopoajcaaa
open Go.RowKit Go.Lib

set_option linter.unusedSimpArgs false in
set_option maxRecDepth 100000 in
set_option maxHeartbeats 64000000 in
theorem sums_any (v : Value) (ps : List (Int × Int)) (r0 r1 r2 r3 r4 r5 r6 r7 n : Int) (w : World) (hv : RowP w v ps ∧ OkP ps) :
    Calls Try.prog 3 #[v, .agg #[.int .i64 r0, .int .i64 r1, .int .i64 r2, .int .i64 r3, .int .i64 r4, .int .i64 r5, .int .i64 r6, .int .i64 r7], .int .i64 n] w fun e w' => e = .returned (.bool true) ∧ Below w.heap.size w w' := by
  have C0 := has1 (w := w) [.int .i64 r0, .int .i64 r1, .int .i64 r2, .int .i64 r3, .int .i64 r4, .int .i64 r5, .int .i64 r6, .int .i64 r7] 25
  obtain ⟨hrow, hok⟩ := hv
  have hrow' := hrow
  obtain ⟨a, cap, rfl, hc1, hc2, hq⟩ := hrow'
  obtain ⟨m, hm⟩ : ∃ m : Nat, min ps.length 10 = m := ⟨_, rfl⟩
  have bm : m ≤ 10 ∧ m ≤ ps.length := by omega
  have HR := Lib.hid hrow
  have HO := Lib.hid hok
  have HQ := Lib.hid hq
  clear hrow hok hq
  go_enter Try.func3, Try.ntmps3
  go_wp2_with fail
  change Has w _ (w.alloc (.cells #[.int .i64 r0, .int .i64 r1, .int .i64 r2, .int .i64 r3, .int .i64 r4, .int .i64 r5, .int .i64 r6, .int .i64 r7] 25)) at C0
  generalize w.alloc (.cells #[.int .i64 r0, .int .i64 r1, .int .i64 r2, .int .i64 r3, .int .i64 r4, .int .i64 r5, .int .i64 r6, .int .i64 r7] 25) = w0 at *
  refine (Has.call C0 (sane _)).mono ?_
  rintro e w1 ⟨rfl, C1⟩
  generalize hM : w.heap.size = M at *
  go_upto_region 2 with fail
  go_cut [0] (fun v wx => v = .slice a m cap ∧ wx = w1)
  case first =>
    have hq := HQ.out
    clear HQ HR HO C0 C1
    rcases hq with rfl | ⟨b, o, rfl, -⟩
    · obtain rfl : m = 0 := by rw [← hm]; rfl
      simp only [List.length_nil]
      go_wp2_with fail
      go_meet
      exact ⟨rfl, rfl⟩
    · by_cases h : ps.length ≤ 10
      · obtain rfl : m = ps.length := by omega
        go_wp2_with fail
        go_meet
        exact ⟨rfl, rfl⟩
      · obtain rfl : m = 10 := by omega
        go_wp2_with fail
        go_meet
        exact ⟨rfl, rfl⟩
  case rest =>
    obtain ⟨rfl, rfl⟩ := hcut
    go_wp2_with fail
    go_loopw [19] (fun i wr => ∃ k : Nat, k ≤ m ∧ i = .int .i64 k ∧ Has w [(M, [.int .i64 r0, .int .i64 r1, .int .i64 r2, .int .i64 r3, .int .i64 r4, .int .i64 r5, .int .i64 r6, .int .i64 r7])] wr) (fun i _ => m - (intOf i).toNat)
    case atStart => exact ⟨0, by omega, rfl, C1⟩
    case round =>
      clear C0 C1
      obtain ⟨k, hk, rfl, G0⟩ := hrel
      by_cases hlt : k < m
      · have hq := HQ.out.resolve_left (by intro e; rw [e] at bm; simp only [List.length_nil] at bm; omega)
        clear HQ
        obtain ⟨b, o, rfl, hq⟩ := hq
        obtain ⟨⟨x, y⟩, hp⟩ : ∃ p, ps[k]? = some p := ⟨_, List.getElem?_eq_getElem (by omega)⟩
        obtain ⟨j, hj⟩ : ∃ j : Nat, (m : Int) - 1 - k = j := ⟨m - 1 - k, by omega⟩
        obtain ⟨⟨z, u⟩, hp2⟩ : ∃ p, ps[j]? = some p := ⟨_, List.getElem?_eq_getElem (by omega)⟩
        have q0 := hq k _ hp
        have q1 := hq j _ hp2
        simp only at q0 q1
        have c0 := Kept.of G0.low _ _ q0.1
        have c1 := Kept.of G0.low _ _ q0.2
        have wm : IntKind.i64.wrap ((m : Int) - 1) = (m : Int) - 1 := IntWalk.i64_in _ (by omega)
        have wj : IntKind.i64.wrap ((m : Int) - 1 - k) = (j : Int) := hj ▸ IntWalk.i64_in _ (by omega)
        have hjm : j < m := by omega
        have H1 := Lib.hid q1
        clear hq hp hp2 q0 q1 hj
        go_upto_region 6 with fail
        have G1 := G0.push [.int .i64 x, .int .i64 y] 28
        change Has w _ (wr.alloc (.cells #[.int .i64 x, .int .i64 y] 28)) at G1
        generalize wr.alloc (.cells #[.int .i64 x, .int .i64 y] 28) = y0 at *
        generalize wr.heap.size = Pb at *
        clear c0 c1
        have c0 := Kept.of G1.low _ _ H1.out.1
        have c1 := Kept.of G1.low _ _ H1.out.2
        go_upto_region 7 with fail
        have G2 := G1.push [.int .i64 z, .int .i64 u] 28
        change Has w _ (y0.alloc (.cells #[.int .i64 z, .int .i64 u] 28)) at G2
        generalize y0.alloc (.cells #[.int .i64 z, .int .i64 u] 28) = y1 at *
        generalize y0.heap.size = Qb at *
        clear c0 c1 G0 G1 wm wj hjm H1
        obtain ⟨rt, hrt⟩ : ∃ v, inl 16384 x y = v := ⟨_, rfl⟩
        have Hrt := Lib.hid hrt
        clear hrt
        obtain ⟨ad0, had0⟩ : ∃ v, wrap64 (x + z) = v := ⟨_, rfl⟩
        have Had0 := Lib.hid had0
        clear had0
        obtain ⟨ad1, had1⟩ : ∃ v, wrap64 (y + u) = v := ⟨_, rfl⟩
        have Had1 := Lib.hid had1
        clear had1
        obtain ⟨sb0, hsb0⟩ : ∃ v, wrap64 (x - z) = v := ⟨_, rfl⟩
        have Hsb0 := Lib.hid hsb0
        clear hsb0
        obtain ⟨sb1, hsb1⟩ : ∃ v, wrap64 (y - u) = v := ⟨_, rfl⟩
        have Hsb1 := Lib.hid hsb1
        clear hsb1
        obtain ⟨cs, hcs⟩ : ∃ v, wrap64 (wrap64 (x * u) - wrap64 (y * z)) = v := ⟨_, rfl⟩
        have Hcs := Lib.hid hcs
        clear hcs
        obtain ⟨dt, hdt⟩ : ∃ v, wrap64 (wrap64 (x * z) + wrap64 (y * u)) = v := ⟨_, rfl⟩
        have Hdt := Lib.hid hdt
        clear hdt
        obtain ⟨tn0, tn1, htn⟩ : ∃ p q, rotN (n % 4).toNat x y = (p, q) := ⟨_, _, rfl⟩
        have Htn := Lib.hid htn
        clear htn
        obtain ⟨b0, b1, b2, b3, hbx⟩ : ∃ p q r s, bxo (ps.take k) = ((p, q), (r, s)) := ⟨_, _, _, _, rfl⟩
        have Hbx := Lib.hid hbx
        clear hbx
        have X0 := G2.drew
        have ms1 := Lib.hid (show ∀ w', Has w [(Qb, [.int .i64 z, .int .i64 u]), (Pb, [.int .i64 x, .int .i64 y]), (M, [.int .i64 r0, .int .i64 r1, .int .i64 r2, .int .i64 r3, .int .i64 r4, .int .i64 r5, .int .i64 r6, .int .i64 r7])] w' → (w'.cell? ⟨Qb, 0, none⟩ = some (.int .i64 z) ∧ w'.cell? ⟨Qb, 1, none⟩ = some (.int .i64 u) ∧ w'.cell? ⟨Pb, 0, none⟩ = some (.int .i64 x) ∧ w'.cell? ⟨Pb, 1, none⟩ = some (.int .i64 y)) ∧ Has w [(Qb, [.int .i64 z, .int .i64 u]), (Pb, [.int .i64 x, .int .i64 y]), (M, [.int .i64 r0, .int .i64 r1, .int .i64 r2, .int .i64 r3, .int .i64 r4, .int .i64 r5, .int .i64 r6, .int .i64 r7])] w' from fun w' h => ⟨⟨h.fact (.head _) (i := 0) rfl, h.fact (.head _) (i := 1) rfl, h.tail.fact (.head _) (i := 0) rfl, h.tail.fact (.head _) (i := 1) rfl⟩, h⟩)
        refine wp_region_held_drew (S := (fun w' => (w'.cell? ⟨Qb, 0, none⟩ = some (.int .i64 z) ∧ w'.cell? ⟨Qb, 1, none⟩ = some (.int .i64 u) ∧ w'.cell? ⟨Pb, 0, none⟩ = some (.int .i64 x) ∧ w'.cell? ⟨Pb, 1, none⟩ = some (.int .i64 y)) ∧ Has w [(Qb, [.int .i64 z, .int .i64 u]), (Pb, [.int .i64 x, .int .i64 y]), (M, [.int .i64 r0, .int .i64 r1, .int .i64 r2, .int .i64 r3, .int .i64 r4, .int .i64 r5, .int .i64 r6, .int .i64 r7])] w')) (by kernel_rfl) (ms1.out _ X0) (fun hHeld => ?_)
        refine wpAnyT_begin [0, 2] (by kernel_rfl) (by kernel_rfl) ?_
        refine wpAnyT_take (oi := ⟨some 32, Op.load 28 (Operand.tmp 9), 28, _, _, none⟩) (v := .agg #[.int .i64 x, .int .i64 y]) rfl (fun _ _ _ h => h) (by rfl) (by assumption) (fun wS hSw => ?_) ?_
        · (try dsimp only at hSw); go_simp
        simp only [Act.put, List.setIfInBounds_toArray, List.set_cons_zero, List.set_cons_succ]
        refine wpAnyT_take (oi := ⟨some 34, Op.load 28 (Operand.tmp 9), 28, _, _, none⟩) (v := .agg #[.int .i64 x, .int .i64 y]) rfl (fun _ _ _ h => h) (by rfl) (by assumption) (fun wS hSw => ?_) ?_
        · (try dsimp only at hSw); go_simp
        simp only [Act.put, List.setIfInBounds_toArray, List.set_cons_zero, List.set_cons_succ]
        refine wpAnyT_end ?_
        refine wpAnyH_listed #[true, false, true, false, false, false, false, false, false, false, false, false, false, false, false, false, false, false, false, false, false, false, false, false, false, false, false, false, false, false, false, false, false, false, false, false, false, false, false, false, false] (by kernel_rfl) ?_
        refine wpAnyH_ready (rs := [1]) (by kernel_rfl) (by simp) ?_
        refine AllReadyH.cons (o := ⟨some 33, Op.call { callee := Callee.value (Operand.func 10), args := #[Operand.tmp 32], argTypes := #[28] }, 4, _, _, none⟩) rfl (fun K hK => ?_) AllReadyH.nil
        go_simp
        go_at_call 10
        refine (Has.call X0 (right_is x y rt Hrt.out _)).mono ?_
        rintro e W1 ⟨rfl, X1⟩
        go_wp2_with fail
        clear hHeld
        refine hK.out _ _ (ms1.out _ X1) (fun hHeld => ?_)
        clear hK K
        try simp only [List.setIfInBounds_toArray, List.set_cons_zero, List.set_cons_succ]
        refine wpAnyH_listed #[true, true, true, false, false, false, false, false, false, false, false, false, false, false, false, false, false, false, false, false, false, false, false, false, false, false, false, false, false, false, false, false, false, false, false, false, false, false, false, false, false] (by kernel_rfl) ?_
        refine wpAnyH_ready (rs := [3]) (by kernel_rfl) (by simp) ?_
        refine AllReadyH.cons (o := ⟨some 35, Op.call { callee := Callee.value (Operand.func 11), args := #[Operand.tmp 34], argTypes := #[28] }, 4, _, _, none⟩) rfl (fun K hK => ?_) AllReadyH.nil
        go_simp
        go_at_call 11
        refine (Has.call X1 (rright_is x y rt Hrt.out _)).mono ?_
        rintro e W2 ⟨rfl, X2⟩
        go_wp2_with fail
        clear hHeld
        refine hK.out _ _ (ms1.out _ X2) (fun hHeld => ?_)
        clear hK K
        try simp only [List.setIfInBounds_toArray, List.set_cons_zero, List.set_cons_succ]
        refine wpAnyH_listed #[true, true, true, true, false, false, false, false, false, false, false, false, false, false, false, false, false, false, false, false, false, false, false, false, false, false, false, false, false, false, false, false, false, false, false, false, false, false, false, false, false] (by kernel_rfl) ?_
        refine wpAnyT_begin [4, 5, 6, 7, 9, 10] (by kernel_rfl) (by kernel_rfl) ?_
        refine wpAnyT_take (oi := ⟨some 36, Op.binOp BinOp.neq 4 (Operand.tmp 33) (Operand.tmp 35) 4, 4, _, _, none⟩) (v := .bool false) rfl (fun _ _ _ h => h) (by rfl) (by assumption) (fun wS hSw => ?_) ?_
        · (try dsimp only at hSw); go_simp
        simp only [Act.put, List.setIfInBounds_toArray, List.set_cons_zero, List.set_cons_succ]
        refine wpAnyT_take (oi := ⟨some 37, Op.move (Operand.tmp 36), 4, _, _, none⟩) (v := .bool false) rfl (fun _ _ _ h => h) (by rfl) (by assumption) (fun wS hSw => ?_) ?_
        · (try dsimp only at hSw); go_simp
        simp only [Act.put, List.setIfInBounds_toArray, List.set_cons_zero, List.set_cons_succ]
        refine wpAnyT_take (oi := ⟨some 38, Op.load 28 (Operand.tmp 9), 28, _, _, some (5, false)⟩) (v := .agg #[.int .i64 x, .int .i64 y]) rfl (fun _ _ _ h => h) (by rfl) (by assumption) (fun wS hSw => ?_) ?_
        · (try dsimp only at hSw); go_simp
        simp only [Act.put, List.setIfInBounds_toArray, List.set_cons_zero, List.set_cons_succ]
        refine wpAnyT_take (oi := ⟨some 39, Op.load 28 (Operand.tmp 10), 28, _, _, some (5, false)⟩) (v := .agg #[.int .i64 z, .int .i64 u]) rfl (fun _ _ _ h => h) (by rfl) (by assumption) (fun wS hSw => ?_) ?_
        · (try dsimp only at hSw); go_simp
        simp only [Act.put, List.setIfInBounds_toArray, List.set_cons_zero, List.set_cons_succ]
        refine wpAnyT_take (oi := ⟨some 41, Op.load 28 (Operand.tmp 9), 28, _, _, some (5, false)⟩) (v := .agg #[.int .i64 x, .int .i64 y]) rfl (fun _ _ _ h => h) (by rfl) (by assumption) (fun wS hSw => ?_) ?_
        · (try dsimp only at hSw); go_simp
        simp only [Act.put, List.setIfInBounds_toArray, List.set_cons_zero, List.set_cons_succ]
        refine wpAnyT_take (oi := ⟨some 42, Op.load 28 (Operand.tmp 10), 28, _, _, some (5, false)⟩) (v := .agg #[.int .i64 z, .int .i64 u]) rfl (fun _ _ _ h => h) (by rfl) (by assumption) (fun wS hSw => ?_) ?_
        · (try dsimp only at hSw); go_simp
        simp only [Act.put, List.setIfInBounds_toArray, List.set_cons_zero, List.set_cons_succ]
        refine wpAnyT_end ?_
        refine wpAnyH_listed #[true, true, true, true, true, true, true, true, false, true, true, false, false, false, false, false, false, false, false, false, false, false, false, false, false, false, false, false, false, false, false, false, false, false, false, false, false, false, false, false, false] (by kernel_rfl) ?_
        refine wpAnyH_ready (rs := [8]) (by kernel_rfl) (by simp) ?_
        refine AllReadyH.cons (o := ⟨some 40, Op.call { callee := Callee.value (Operand.func 12), args := #[Operand.tmp 38, Operand.tmp 39], argTypes := #[28, 28] }, 28, _, _, some (5, false)⟩) rfl (fun K hK => ?_) AllReadyH.nil
        go_simp
        go_at_call 12
        refine (Has.call X2 (add_is x y z u ad0 ad1 Had0.out Had1.out _)).mono ?_
        rintro e W3 ⟨rfl, X3⟩
        go_wp2_with fail
        clear hHeld
        refine hK.out _ _ (ms1.out _ X3) (fun hHeld => ?_)
        clear hK K
        try simp only [List.setIfInBounds_toArray, List.set_cons_zero, List.set_cons_succ]
        refine wpAnyH_listed #[true, true, true, true, true, true, true, true, true, true, true, false, false, false, false, false, false, false, false, false, false, false, false, false, false, false, false, false, false, false, false, false, false, false, false, false, false, false, false, false, false] (by kernel_rfl) ?_
        refine wpAnyH_ready (rs := [11]) (by kernel_rfl) (by simp) ?_
        refine AllReadyH.cons (o := ⟨some 43, Op.call { callee := Callee.value (Operand.func 13), args := #[Operand.tmp 41, Operand.tmp 42], argTypes := #[28, 28] }, 28, _, _, some (5, false)⟩) rfl (fun K hK => ?_) AllReadyH.nil
        go_simp
        go_at_call 13
        refine (Has.call X3 (radd_is x y z u ad0 ad1 Had0.out Had1.out _)).mono ?_
        rintro e W4 ⟨rfl, X4⟩
        go_wp2_with fail
        clear hHeld
        refine hK.out _ _ (ms1.out _ X4) (fun hHeld => ?_)
        clear hK K
        try simp only [List.setIfInBounds_toArray, List.set_cons_zero, List.set_cons_succ]
        refine wpAnyH_listed #[true, true, true, true, true, true, true, true, true, true, true, true, false, false, false, false, false, false, false, false, false, false, false, false, false, false, false, false, false, false, false, false, false, false, false, false, false, false, false, false, false] (by kernel_rfl) ?_
        refine wpAnyT_begin [12, 13, 14, 15, 16, 18, 19] (by kernel_rfl) (by kernel_rfl) ?_
        refine wpAnyT_take (oi := ⟨some 44, Op.binOp BinOp.neq 28 (Operand.tmp 40) (Operand.tmp 43) 28, 4, _, _, some (5, false)⟩) (v := .bool false) rfl (fun _ _ _ h => h) (by rfl) (by assumption) (fun wS hSw => ?_) ?_
        · (try dsimp only at hSw); go_simp
        simp only [Act.put, List.setIfInBounds_toArray, List.set_cons_zero, List.set_cons_succ]
        refine wpAnyT_take (oi := ⟨some 45, Op.pick (Operand.tmp 37) (Operand.const (Value.bool true)) (Operand.tmp 44), 4, _, _, none⟩) (v := .bool false) rfl (fun _ _ _ h => h) (by rfl) (by assumption) (fun wS hSw => ?_) ?_
        · (try dsimp only at hSw); go_simp
        simp only [Act.put, List.setIfInBounds_toArray, List.set_cons_zero, List.set_cons_succ]
        refine wpAnyT_take (oi := ⟨some 46, Op.move (Operand.tmp 45), 4, _, _, none⟩) (v := .bool false) rfl (fun _ _ _ h => h) (by rfl) (by assumption) (fun wS hSw => ?_) ?_
        · (try dsimp only at hSw); go_simp
        simp only [Act.put, List.setIfInBounds_toArray, List.set_cons_zero, List.set_cons_succ]
        refine wpAnyT_take (oi := ⟨some 47, Op.load 28 (Operand.tmp 9), 28, _, _, some (14, false)⟩) (v := .agg #[.int .i64 x, .int .i64 y]) rfl (fun _ _ _ h => h) (by rfl) (by assumption) (fun wS hSw => ?_) ?_
        · (try dsimp only at hSw); go_simp
        simp only [Act.put, List.setIfInBounds_toArray, List.set_cons_zero, List.set_cons_succ]
        refine wpAnyT_take (oi := ⟨some 48, Op.load 28 (Operand.tmp 10), 28, _, _, some (14, false)⟩) (v := .agg #[.int .i64 z, .int .i64 u]) rfl (fun _ _ _ h => h) (by rfl) (by assumption) (fun wS hSw => ?_) ?_
        · (try dsimp only at hSw); go_simp
        simp only [Act.put, List.setIfInBounds_toArray, List.set_cons_zero, List.set_cons_succ]
        refine wpAnyT_take (oi := ⟨some 50, Op.load 28 (Operand.tmp 9), 28, _, _, some (14, false)⟩) (v := .agg #[.int .i64 x, .int .i64 y]) rfl (fun _ _ _ h => h) (by rfl) (by assumption) (fun wS hSw => ?_) ?_
        · (try dsimp only at hSw); go_simp
        simp only [Act.put, List.setIfInBounds_toArray, List.set_cons_zero, List.set_cons_succ]
        refine wpAnyT_take (oi := ⟨some 51, Op.load 28 (Operand.tmp 10), 28, _, _, some (14, false)⟩) (v := .agg #[.int .i64 z, .int .i64 u]) rfl (fun _ _ _ h => h) (by rfl) (by assumption) (fun wS hSw => ?_) ?_
        · (try dsimp only at hSw); go_simp
        simp only [Act.put, List.setIfInBounds_toArray, List.set_cons_zero, List.set_cons_succ]
        refine wpAnyT_end ?_
        refine wpAnyH_listed #[true, true, true, true, true, true, true, true, true, true, true, true, true, true, true, true, true, false, true, true, false, false, false, false, false, false, false, false, false, false, false, false, false, false, false, false, false, false, false, false, false] (by kernel_rfl) ?_
        refine wpAnyH_ready (rs := [17]) (by kernel_rfl) (by simp) ?_
        refine AllReadyH.cons (o := ⟨some 49, Op.call { callee := Callee.value (Operand.func 14), args := #[Operand.tmp 47, Operand.tmp 48], argTypes := #[28, 28] }, 28, _, _, some (14, false)⟩) rfl (fun K hK => ?_) AllReadyH.nil
        go_simp
        go_at_call 14
        refine (Has.call X4 (sub_is x y z u sb0 sb1 Hsb0.out Hsb1.out _)).mono ?_
        rintro e W5 ⟨rfl, X5⟩
        go_wp2_with fail
        clear hHeld
        refine hK.out _ _ (ms1.out _ X5) (fun hHeld => ?_)
        clear hK K
        try simp only [List.setIfInBounds_toArray, List.set_cons_zero, List.set_cons_succ]
        refine wpAnyH_listed #[true, true, true, true, true, true, true, true, true, true, true, true, true, true, true, true, true, true, true, true, false, false, false, false, false, false, false, false, false, false, false, false, false, false, false, false, false, false, false, false, false] (by kernel_rfl) ?_
        refine wpAnyH_ready (rs := [20]) (by kernel_rfl) (by simp) ?_
        refine AllReadyH.cons (o := ⟨some 52, Op.call { callee := Callee.value (Operand.func 15), args := #[Operand.tmp 50, Operand.tmp 51], argTypes := #[28, 28] }, 28, _, _, some (14, false)⟩) rfl (fun K hK => ?_) AllReadyH.nil
        go_simp
        go_at_call 15
        refine (Has.call X5 (rsub_is x y z u sb0 sb1 Hsb0.out Hsb1.out _)).mono ?_
        rintro e W6 ⟨rfl, X6⟩
        go_wp2_with fail
        clear hHeld
        refine hK.out _ _ (ms1.out _ X6) (fun hHeld => ?_)
        clear hK K
        try simp only [List.setIfInBounds_toArray, List.set_cons_zero, List.set_cons_succ]
        refine wpAnyH_listed #[true, true, true, true, true, true, true, true, true, true, true, true, true, true, true, true, true, true, true, true, true, false, false, false, false, false, false, false, false, false, false, false, false, false, false, false, false, false, false, false, false] (by kernel_rfl) ?_
        refine wpAnyT_begin [21, 22, 23, 24, 25, 27, 28] (by kernel_rfl) (by kernel_rfl) ?_
        refine wpAnyT_take (oi := ⟨some 53, Op.binOp BinOp.neq 28 (Operand.tmp 49) (Operand.tmp 52) 28, 4, _, _, some (14, false)⟩) (v := .bool false) rfl (fun _ _ _ h => h) (by rfl) (by assumption) (fun wS hSw => ?_) ?_
        · (try dsimp only at hSw); go_simp
        simp only [Act.put, List.setIfInBounds_toArray, List.set_cons_zero, List.set_cons_succ]
        refine wpAnyT_take (oi := ⟨some 54, Op.pick (Operand.tmp 46) (Operand.const (Value.bool true)) (Operand.tmp 53), 4, _, _, none⟩) (v := .bool false) rfl (fun _ _ _ h => h) (by rfl) (by assumption) (fun wS hSw => ?_) ?_
        · (try dsimp only at hSw); go_simp
        simp only [Act.put, List.setIfInBounds_toArray, List.set_cons_zero, List.set_cons_succ]
        refine wpAnyT_take (oi := ⟨some 55, Op.move (Operand.tmp 54), 4, _, _, none⟩) (v := .bool false) rfl (fun _ _ _ h => h) (by rfl) (by assumption) (fun wS hSw => ?_) ?_
        · (try dsimp only at hSw); go_simp
        simp only [Act.put, List.setIfInBounds_toArray, List.set_cons_zero, List.set_cons_succ]
        refine wpAnyT_take (oi := ⟨some 56, Op.load 28 (Operand.tmp 9), 28, _, _, some (23, false)⟩) (v := .agg #[.int .i64 x, .int .i64 y]) rfl (fun _ _ _ h => h) (by rfl) (by assumption) (fun wS hSw => ?_) ?_
        · (try dsimp only at hSw); go_simp
        simp only [Act.put, List.setIfInBounds_toArray, List.set_cons_zero, List.set_cons_succ]
        refine wpAnyT_take (oi := ⟨some 57, Op.load 28 (Operand.tmp 10), 28, _, _, some (23, false)⟩) (v := .agg #[.int .i64 z, .int .i64 u]) rfl (fun _ _ _ h => h) (by rfl) (by assumption) (fun wS hSw => ?_) ?_
        · (try dsimp only at hSw); go_simp
        simp only [Act.put, List.setIfInBounds_toArray, List.set_cons_zero, List.set_cons_succ]
        refine wpAnyT_take (oi := ⟨some 59, Op.load 28 (Operand.tmp 9), 28, _, _, some (23, false)⟩) (v := .agg #[.int .i64 x, .int .i64 y]) rfl (fun _ _ _ h => h) (by rfl) (by assumption) (fun wS hSw => ?_) ?_
        · (try dsimp only at hSw); go_simp
        simp only [Act.put, List.setIfInBounds_toArray, List.set_cons_zero, List.set_cons_succ]
        refine wpAnyT_take (oi := ⟨some 60, Op.load 28 (Operand.tmp 10), 28, _, _, some (23, false)⟩) (v := .agg #[.int .i64 z, .int .i64 u]) rfl (fun _ _ _ h => h) (by rfl) (by assumption) (fun wS hSw => ?_) ?_
        · (try dsimp only at hSw); go_simp
        simp only [Act.put, List.setIfInBounds_toArray, List.set_cons_zero, List.set_cons_succ]
        refine wpAnyT_end ?_
        refine wpAnyH_listed #[true, true, true, true, true, true, true, true, true, true, true, true, true, true, true, true, true, true, true, true, true, true, true, true, true, true, false, true, true, false, false, false, false, false, false, false, false, false, false, false, false] (by kernel_rfl) ?_
        refine wpAnyH_ready (rs := [26]) (by kernel_rfl) (by simp) ?_
        refine AllReadyH.cons (o := ⟨some 58, Op.call { callee := Callee.value (Operand.func 16), args := #[Operand.tmp 56, Operand.tmp 57], argTypes := #[28, 28] }, 3, _, _, some (23, false)⟩) rfl (fun K hK => ?_) AllReadyH.nil
        go_simp
        go_at_call 16
        refine (Has.call X6 (cross_is x y z u cs Hcs.out _)).mono ?_
        rintro e W7 ⟨rfl, X7⟩
        go_wp2_with fail
        clear hHeld
        refine hK.out _ _ (ms1.out _ X7) (fun hHeld => ?_)
        clear hK K
        try simp only [List.setIfInBounds_toArray, List.set_cons_zero, List.set_cons_succ]
        refine wpAnyH_listed #[true, true, true, true, true, true, true, true, true, true, true, true, true, true, true, true, true, true, true, true, true, true, true, true, true, true, true, true, true, false, false, false, false, false, false, false, false, false, false, false, false] (by kernel_rfl) ?_
        refine wpAnyH_ready (rs := [29]) (by kernel_rfl) (by simp) ?_
        refine AllReadyH.cons (o := ⟨some 61, Op.call { callee := Callee.value (Operand.func 17), args := #[Operand.tmp 59, Operand.tmp 60], argTypes := #[28, 28] }, 3, _, _, some (23, false)⟩) rfl (fun K hK => ?_) AllReadyH.nil
        go_simp
        go_at_call 17
        refine (Has.call X7 (rcross_is x y z u cs Hcs.out _)).mono ?_
        rintro e W8 ⟨rfl, X8⟩
        go_wp2_with fail
        clear hHeld
        refine hK.out _ _ (ms1.out _ X8) (fun hHeld => ?_)
        clear hK K
        try simp only [List.setIfInBounds_toArray, List.set_cons_zero, List.set_cons_succ]
        refine wpAnyH_listed #[true, true, true, true, true, true, true, true, true, true, true, true, true, true, true, true, true, true, true, true, true, true, true, true, true, true, true, true, true, true, false, false, false, false, false, false, false, false, false, false, false] (by kernel_rfl) ?_
        refine wpAnyT_begin [30, 31, 32, 33, 34, 36, 37] (by kernel_rfl) (by kernel_rfl) ?_
        refine wpAnyT_take (oi := ⟨some 62, Op.binOp BinOp.neq 3 (Operand.tmp 58) (Operand.tmp 61) 3, 4, _, _, some (23, false)⟩) (v := .bool false) rfl (fun _ _ _ h => h) (by rfl) (by assumption) (fun wS hSw => ?_) ?_
        · (try dsimp only at hSw); go_simp
        simp only [Act.put, List.setIfInBounds_toArray, List.set_cons_zero, List.set_cons_succ]
        refine wpAnyT_take (oi := ⟨some 63, Op.pick (Operand.tmp 55) (Operand.const (Value.bool true)) (Operand.tmp 62), 4, _, _, none⟩) (v := .bool false) rfl (fun _ _ _ h => h) (by rfl) (by assumption) (fun wS hSw => ?_) ?_
        · (try dsimp only at hSw); go_simp
        simp only [Act.put, List.setIfInBounds_toArray, List.set_cons_zero, List.set_cons_succ]
        refine wpAnyT_take (oi := ⟨some 64, Op.move (Operand.tmp 63), 4, _, _, none⟩) (v := .bool false) rfl (fun _ _ _ h => h) (by rfl) (by assumption) (fun wS hSw => ?_) ?_
        · (try dsimp only at hSw); go_simp
        simp only [Act.put, List.setIfInBounds_toArray, List.set_cons_zero, List.set_cons_succ]
        refine wpAnyT_take (oi := ⟨some 65, Op.load 28 (Operand.tmp 9), 28, _, _, some (32, false)⟩) (v := .agg #[.int .i64 x, .int .i64 y]) rfl (fun _ _ _ h => h) (by rfl) (by assumption) (fun wS hSw => ?_) ?_
        · (try dsimp only at hSw); go_simp
        simp only [Act.put, List.setIfInBounds_toArray, List.set_cons_zero, List.set_cons_succ]
        refine wpAnyT_take (oi := ⟨some 66, Op.load 28 (Operand.tmp 10), 28, _, _, some (32, false)⟩) (v := .agg #[.int .i64 z, .int .i64 u]) rfl (fun _ _ _ h => h) (by rfl) (by assumption) (fun wS hSw => ?_) ?_
        · (try dsimp only at hSw); go_simp
        simp only [Act.put, List.setIfInBounds_toArray, List.set_cons_zero, List.set_cons_succ]
        refine wpAnyT_take (oi := ⟨some 68, Op.load 28 (Operand.tmp 9), 28, _, _, some (32, false)⟩) (v := .agg #[.int .i64 x, .int .i64 y]) rfl (fun _ _ _ h => h) (by rfl) (by assumption) (fun wS hSw => ?_) ?_
        · (try dsimp only at hSw); go_simp
        simp only [Act.put, List.setIfInBounds_toArray, List.set_cons_zero, List.set_cons_succ]
        refine wpAnyT_take (oi := ⟨some 69, Op.load 28 (Operand.tmp 10), 28, _, _, some (32, false)⟩) (v := .agg #[.int .i64 z, .int .i64 u]) rfl (fun _ _ _ h => h) (by rfl) (by assumption) (fun wS hSw => ?_) ?_
        · (try dsimp only at hSw); go_simp
        simp only [Act.put, List.setIfInBounds_toArray, List.set_cons_zero, List.set_cons_succ]
        refine wpAnyT_end ?_
        refine wpAnyH_listed #[true, true, true, true, true, true, true, true, true, true, true, true, true, true, true, true, true, true, true, true, true, true, true, true, true, true, true, true, true, true, true, true, true, true, true, false, true, true, false, false, false] (by kernel_rfl) ?_
        refine wpAnyH_ready (rs := [35]) (by kernel_rfl) (by simp) ?_
        refine AllReadyH.cons (o := ⟨some 67, Op.call { callee := Callee.value (Operand.func 18), args := #[Operand.tmp 65, Operand.tmp 66], argTypes := #[28, 28] }, 3, _, _, some (32, false)⟩) rfl (fun K hK => ?_) AllReadyH.nil
        go_simp
        go_at_call 18
        refine (Has.call X8 (dot_is x y z u dt Hdt.out _)).mono ?_
        rintro e W9 ⟨rfl, X9⟩
        go_wp2_with fail
        clear hHeld
        refine hK.out _ _ (ms1.out _ X9) (fun hHeld => ?_)
        clear hK K
        try simp only [List.setIfInBounds_toArray, List.set_cons_zero, List.set_cons_succ]
        refine wpAnyH_listed #[true, true, true, true, true, true, true, true, true, true, true, true, true, true, true, true, true, true, true, true, true, true, true, true, true, true, true, true, true, true, true, true, true, true, true, true, true, true, false, false, false] (by kernel_rfl) ?_
        refine wpAnyH_ready (rs := [38]) (by kernel_rfl) (by simp) ?_
        refine AllReadyH.cons (o := ⟨some 70, Op.call { callee := Callee.value (Operand.func 19), args := #[Operand.tmp 68, Operand.tmp 69], argTypes := #[28, 28] }, 3, _, _, some (32, false)⟩) rfl (fun K hK => ?_) AllReadyH.nil
        go_simp
        go_at_call 19
        refine (Has.call X9 (rdot_is x y z u dt Hdt.out _)).mono ?_
        rintro e W10 ⟨rfl, X10⟩
        go_wp2_with fail
        clear hHeld
        refine hK.out _ _ (ms1.out _ X10) (fun hHeld => ?_)
        clear hK K
        try simp only [List.setIfInBounds_toArray, List.set_cons_zero, List.set_cons_succ]
        refine wpAnyH_listed #[true, true, true, true, true, true, true, true, true, true, true, true, true, true, true, true, true, true, true, true, true, true, true, true, true, true, true, true, true, true, true, true, true, true, true, true, true, true, true, false, false] (by kernel_rfl) ?_
        refine wpAnyT_begin [39, 40] (by kernel_rfl) (by kernel_rfl) ?_
        refine wpAnyT_take (oi := ⟨some 71, Op.binOp BinOp.neq 3 (Operand.tmp 67) (Operand.tmp 70) 3, 4, _, _, some (32, false)⟩) (v := .bool false) rfl (fun _ _ _ h => h) (by rfl) (by assumption) (fun wS hSw => ?_) ?_
        · (try dsimp only at hSw); go_simp
        simp only [Act.put, List.setIfInBounds_toArray, List.set_cons_zero, List.set_cons_succ]
        refine wpAnyT_take (oi := ⟨some 72, Op.pick (Operand.tmp 64) (Operand.const (Value.bool true)) (Operand.tmp 71), 4, _, _, none⟩) (v := .bool false) rfl (fun _ _ _ h => h) (by rfl) (by assumption) (fun wS hSw => ?_) ?_
        · (try dsimp only at hSw); go_simp
        simp only [Act.put, List.setIfInBounds_toArray, List.set_cons_zero, List.set_cons_succ]
        refine wpAnyT_end ?_
        refine wpAnyH_listed #[true, true, true, true, true, true, true, true, true, true, true, true, true, true, true, true, true, true, true, true, true, true, true, true, true, true, true, true, true, true, true, true, true, true, true, true, true, true, true, true, true] (by kernel_rfl) ?_
        refine wpAnyH_done (by kernel_rfl) ?_ _
        clear hHeld X0 X1 X2 X3 X4 X5 X6 X7 X8 X9 G2
        go_upto_region 9 with fail
        have Z0 := X10.drew
        refine wp_region_held_drew (S := (fun w' => (w'.cell? ⟨Qb, 0, none⟩ = some (.int .i64 z) ∧ w'.cell? ⟨Qb, 1, none⟩ = some (.int .i64 u) ∧ w'.cell? ⟨Pb, 0, none⟩ = some (.int .i64 x) ∧ w'.cell? ⟨Pb, 1, none⟩ = some (.int .i64 y)) ∧ Has w [(Qb, [.int .i64 z, .int .i64 u]), (Pb, [.int .i64 x, .int .i64 y]), (M, [.int .i64 r0, .int .i64 r1, .int .i64 r2, .int .i64 r3, .int .i64 r4, .int .i64 r5, .int .i64 r6, .int .i64 r7])] w')) (by kernel_rfl) (ms1.out _ Z0) (fun hHeld => ?_)
        refine wpAnyT_begin [0, 1, 3, 4] (by kernel_rfl) (by kernel_rfl) ?_
        refine wpAnyT_take (oi := ⟨some 73, Op.load 28 (Operand.tmp 9), 28, _, _, none⟩) (v := .agg #[.int .i64 x, .int .i64 y]) rfl (fun _ _ _ h => h) (by rfl) (by assumption) (fun wS hSw => ?_) ?_
        · (try dsimp only at hSw); go_simp
        simp only [Act.put, List.setIfInBounds_toArray, List.set_cons_zero, List.set_cons_succ]
        refine wpAnyT_take (oi := ⟨some 74, Op.move (Operand.tmp 2), 3, _, _, none⟩) (v := .int .i64 n) rfl (fun _ _ _ h => h) (by rfl) (by assumption) (fun wS hSw => ?_) ?_
        · (try dsimp only at hSw); go_simp
        simp only [Act.put, List.setIfInBounds_toArray, List.set_cons_zero, List.set_cons_succ]
        refine wpAnyT_take (oi := ⟨some 76, Op.load 28 (Operand.tmp 9), 28, _, _, none⟩) (v := .agg #[.int .i64 x, .int .i64 y]) rfl (fun _ _ _ h => h) (by rfl) (by assumption) (fun wS hSw => ?_) ?_
        · (try dsimp only at hSw); go_simp
        simp only [Act.put, List.setIfInBounds_toArray, List.set_cons_zero, List.set_cons_succ]
        refine wpAnyT_take (oi := ⟨some 77, Op.move (Operand.tmp 2), 3, _, _, none⟩) (v := .int .i64 n) rfl (fun _ _ _ h => h) (by rfl) (by assumption) (fun wS hSw => ?_) ?_
        · (try dsimp only at hSw); go_simp
        simp only [Act.put, List.setIfInBounds_toArray, List.set_cons_zero, List.set_cons_succ]
        refine wpAnyT_end ?_
        refine wpAnyH_listed #[true, true, false, true, true, false, false, false, false, false, false, false, false, false, false, false, false, false, false, false, false, false, false, false, false] (by kernel_rfl) ?_
        refine wpAnyH_ready (rs := [2]) (by kernel_rfl) (by simp) ?_
        refine AllReadyH.cons (o := ⟨some 75, Op.call { callee := Callee.value (Operand.func 20), args := #[Operand.tmp 73, Operand.tmp 74], argTypes := #[28, 3] }, 28, _, _, none⟩) rfl (fun K hK => ?_) AllReadyH.nil
        go_simp
        go_at_call 20
        refine (Has.call Z0 (turn_is x y n tn0 tn1 Htn.out _)).mono ?_
        rintro e V1 ⟨rfl, Z1⟩
        go_wp2_with fail
        clear hHeld
        refine hK.out _ _ (ms1.out _ Z1) (fun hHeld => ?_)
        clear hK K
        try simp only [List.setIfInBounds_toArray, List.set_cons_zero, List.set_cons_succ]
        refine wpAnyH_listed #[true, true, true, true, true, false, false, false, false, false, false, false, false, false, false, false, false, false, false, false, false, false, false, false, false] (by kernel_rfl) ?_
        refine wpAnyH_ready (rs := [5]) (by kernel_rfl) (by simp) ?_
        refine AllReadyH.cons (o := ⟨some 78, Op.call { callee := Callee.value (Operand.func 21), args := #[Operand.tmp 76, Operand.tmp 77], argTypes := #[28, 3] }, 28, _, _, none⟩) rfl (fun K hK => ?_) AllReadyH.nil
        go_simp
        go_at_call 21
        refine (Has.call Z1 (rturn_is x y n tn0 tn1 Htn.out _)).mono ?_
        rintro e V2 ⟨rfl, Z2⟩
        go_wp2_with fail
        clear hHeld
        refine hK.out _ _ (ms1.out _ Z2) (fun hHeld => ?_)
        clear hK K
        try simp only [List.setIfInBounds_toArray, List.set_cons_zero, List.set_cons_succ]
        refine wpAnyH_listed #[true, true, true, true, true, true, false, false, false, false, false, false, false, false, false, false, false, false, false, false, false, false, false, false, false] (by kernel_rfl) ?_
        refine wpAnyT_begin [6, 7, 8, 10] (by kernel_rfl) (by kernel_rfl) ?_
        refine wpAnyT_take (oi := ⟨some 79, Op.binOp BinOp.neq 28 (Operand.tmp 75) (Operand.tmp 78) 28, 4, _, _, none⟩) (v := .bool false) rfl (fun _ _ _ h => h) (by rfl) (by assumption) (fun wS hSw => ?_) ?_
        · (try dsimp only at hSw); go_simp
        simp only [Act.put, List.setIfInBounds_toArray, List.set_cons_zero, List.set_cons_succ]
        refine wpAnyT_take (oi := ⟨some 80, Op.move (Operand.tmp 79), 4, _, _, none⟩) (v := .bool false) rfl (fun _ _ _ h => h) (by rfl) (by assumption) (fun wS hSw => ?_) ?_
        · (try dsimp only at hSw); go_simp
        simp only [Act.put, List.setIfInBounds_toArray, List.set_cons_zero, List.set_cons_succ]
        refine wpAnyT_take (oi := ⟨some 81, Op.load 28 (Operand.tmp 9), 28, _, _, some (7, false)⟩) (v := .agg #[.int .i64 x, .int .i64 y]) rfl (fun _ _ _ h => h) (by rfl) (by assumption) (fun wS hSw => ?_) ?_
        · (try dsimp only at hSw); go_simp
        simp only [Act.put, List.setIfInBounds_toArray, List.set_cons_zero, List.set_cons_succ]
        refine wpAnyT_take (oi := ⟨some 83, Op.load 28 (Operand.tmp 9), 28, _, _, some (7, false)⟩) (v := .agg #[.int .i64 x, .int .i64 y]) rfl (fun _ _ _ h => h) (by rfl) (by assumption) (fun wS hSw => ?_) ?_
        · (try dsimp only at hSw); go_simp
        simp only [Act.put, List.setIfInBounds_toArray, List.set_cons_zero, List.set_cons_succ]
        refine wpAnyT_end ?_
        refine wpAnyH_listed #[true, true, true, true, true, true, true, true, true, false, true, false, false, false, false, false, false, false, false, false, false, false, false, false, false] (by kernel_rfl) ?_
        refine wpAnyH_ready (rs := [9]) (by kernel_rfl) (by simp) ?_
        refine AllReadyH.cons (o := ⟨some 82, Op.call { callee := Callee.value (Operand.func 22), args := #[Operand.tmp 81], argTypes := #[28] }, 34, _, _, some (7, false)⟩) rfl (fun K hK => ?_) AllReadyH.nil
        go_simp
        go_at_call 22
        refine (Has.call Z2 (spotOf_any x y _)).mono ?_
        rintro e V3 ⟨rfl, Z3⟩
        go_wp2_with fail
        clear hHeld
        refine hK.out _ _ (ms1.out _ Z3) (fun hHeld => ?_)
        clear hK K
        try simp only [List.setIfInBounds_toArray, List.set_cons_zero, List.set_cons_succ]
        refine wpAnyH_listed #[true, true, true, true, true, true, true, true, true, true, true, false, false, false, false, false, false, false, false, false, false, false, false, false, false] (by kernel_rfl) ?_
        refine wpAnyH_ready (rs := [11]) (by kernel_rfl) (by simp) ?_
        refine AllReadyH.cons (o := ⟨some 84, Op.call { callee := Callee.value (Operand.func 23), args := #[Operand.tmp 83], argTypes := #[28] }, 34, _, _, some (7, false)⟩) rfl (fun K hK => ?_) AllReadyH.nil
        go_simp
        go_at_call 23
        refine (Has.call Z3 (rspotOf_any x y _)).mono ?_
        rintro e V4 ⟨rfl, Z4⟩
        go_wp2_with fail
        clear hHeld
        refine hK.out _ _ (ms1.out _ Z4) (fun hHeld => ?_)
        clear hK K
        try simp only [List.setIfInBounds_toArray, List.set_cons_zero, List.set_cons_succ]
        refine wpAnyH_listed #[true, true, true, true, true, true, true, true, true, true, true, true, false, false, false, false, false, false, false, false, false, false, false, false, false] (by kernel_rfl) ?_
        refine wpAnyT_begin [12, 13, 14, 15, 16, 17, 19, 20, 21] (by kernel_rfl) (by kernel_rfl) ?_
        refine wpAnyT_take (oi := ⟨some 85, Op.binOp BinOp.neq 34 (Operand.tmp 82) (Operand.tmp 84) 34, 4, _, _, some (7, false)⟩) (v := .bool false) rfl (fun _ _ _ h => h) (by rfl) (by assumption) (fun wS hSw => ?_) ?_
        · (try dsimp only at hSw); go_simp
        simp only [Act.put, List.setIfInBounds_toArray, List.set_cons_zero, List.set_cons_succ]
        refine wpAnyT_take (oi := ⟨some 86, Op.pick (Operand.tmp 80) (Operand.const (Value.bool true)) (Operand.tmp 85), 4, _, _, none⟩) (v := .bool false) rfl (fun _ _ _ h => h) (by rfl) (by assumption) (fun wS hSw => ?_) ?_
        · (try dsimp only at hSw); go_simp
        simp only [Act.put, List.setIfInBounds_toArray, List.set_cons_zero, List.set_cons_succ]
        refine wpAnyT_take (oi := ⟨some 87, Op.move (Operand.tmp 86), 4, _, _, none⟩) (v := .bool false) rfl (fun _ _ _ h => h) (by rfl) (by assumption) (fun wS hSw => ?_) ?_
        · (try dsimp only at hSw); go_simp
        simp only [Act.put, List.setIfInBounds_toArray, List.set_cons_zero, List.set_cons_succ]
        refine wpAnyT_take (oi := ⟨some 88, Op.move (Operand.tmp 0), 22, _, _, some (14, false)⟩) (v := .slice (some ⟨b, o, none⟩) m cap) rfl (fun _ _ _ h => h) (by rfl) (by assumption) (fun wS hSw => ?_) ?_
        · (try dsimp only at hSw); go_simp
        simp only [Act.put, List.setIfInBounds_toArray, List.set_cons_zero, List.set_cons_succ]
        refine wpAnyT_take (oi := ⟨some 89, Op.move (Operand.tmp 8), 3, _, _, some (14, false)⟩) (v := .int .i64 k) rfl (fun _ _ _ h => h) (by rfl) (by assumption) (fun wS hSw => ?_) ?_
        · (try dsimp only at hSw); go_simp
        simp only [Act.put, List.setIfInBounds_toArray, List.set_cons_zero, List.set_cons_succ]
        refine wpAnyT_take (oi := ⟨some 90, Op.slice 22 (Operand.tmp 88) none (some (Operand.tmp 89)) none, 22, _, _, some (14, false)⟩) (v := .slice (some ⟨b, o, none⟩) k cap) rfl (fun _ _ _ h => h) (by rfl) (by assumption) (fun wS hSw => ?_) ?_
        · (try dsimp only at hSw); go_simp; intro h; exfalso; omega
        simp only [Act.put, List.setIfInBounds_toArray, List.set_cons_zero, List.set_cons_succ]
        refine wpAnyT_take (oi := ⟨some 92, Op.move (Operand.tmp 0), 22, _, _, some (14, false)⟩) (v := .slice (some ⟨b, o, none⟩) m cap) rfl (fun _ _ _ h => h) (by rfl) (by assumption) (fun wS hSw => ?_) ?_
        · (try dsimp only at hSw); go_simp
        simp only [Act.put, List.setIfInBounds_toArray, List.set_cons_zero, List.set_cons_succ]
        refine wpAnyT_take (oi := ⟨some 93, Op.move (Operand.tmp 8), 3, _, _, some (14, false)⟩) (v := .int .i64 k) rfl (fun _ _ _ h => h) (by rfl) (by assumption) (fun wS hSw => ?_) ?_
        · (try dsimp only at hSw); go_simp
        simp only [Act.put, List.setIfInBounds_toArray, List.set_cons_zero, List.set_cons_succ]
        refine wpAnyT_take (oi := ⟨some 94, Op.slice 22 (Operand.tmp 92) none (some (Operand.tmp 93)) none, 22, _, _, some (14, false)⟩) (v := .slice (some ⟨b, o, none⟩) k cap) rfl (fun _ _ _ h => h) (by rfl) (by assumption) (fun wS hSw => ?_) ?_
        · (try dsimp only at hSw); go_simp; intro h; exfalso; omega
        simp only [Act.put, List.setIfInBounds_toArray, List.set_cons_zero, List.set_cons_succ]
        refine wpAnyT_end ?_
        refine wpAnyH_listed #[true, true, true, true, true, true, true, true, true, true, true, true, true, true, true, true, true, true, false, true, true, true, false, false, false] (by kernel_rfl) ?_
        refine wpAnyH_ready (rs := [18]) (by kernel_rfl) (by simp) ?_
        refine AllReadyH.cons (o := ⟨some 91, Op.call { callee := Callee.value (Operand.func 24), args := #[Operand.tmp 90], argTypes := #[22] }, 24, _, _, some (14, false)⟩) rfl (fun K hK => ?_) AllReadyH.nil
        go_simp
        go_at_call 24
        refine (Has.call Z4 (box_is _ (ps.take k) b0 b1 b2 b3 Hbx.out _ ((HR.out.take (k := k) (by omega)).later Z4.low))).mono ?_
        rintro e V5 ⟨rfl, Z5⟩
        go_wp2_with fail
        clear hHeld
        refine hK.out _ _ (ms1.out _ Z5) (fun hHeld => ?_)
        clear hK K
        try simp only [List.setIfInBounds_toArray, List.set_cons_zero, List.set_cons_succ]
        refine wpAnyH_listed #[true, true, true, true, true, true, true, true, true, true, true, true, true, true, true, true, true, true, true, true, true, true, false, false, false] (by kernel_rfl) ?_
        refine wpAnyH_ready (rs := [22]) (by kernel_rfl) (by simp) ?_
        refine AllReadyH.cons (o := ⟨some 95, Op.call { callee := Callee.value (Operand.func 25), args := #[Operand.tmp 94], argTypes := #[22] }, 24, _, _, some (14, false)⟩) rfl (fun K hK => ?_) AllReadyH.nil
        go_simp
        go_at_call 25
        refine (Has.call Z5 (rbox_is _ (ps.take k) b0 b1 b2 b3 Hbx.out _ ((HR.out.take (k := k) (by omega)).later Z5.low) (HO.out.take k))).mono ?_
        rintro e V6 ⟨rfl, Z6⟩
        go_wp2_with fail
        clear hHeld
        refine hK.out _ _ (ms1.out _ Z6) (fun hHeld => ?_)
        clear hK K
        try simp only [List.setIfInBounds_toArray, List.set_cons_zero, List.set_cons_succ]
        refine wpAnyH_listed #[true, true, true, true, true, true, true, true, true, true, true, true, true, true, true, true, true, true, true, true, true, true, true, false, false] (by kernel_rfl) ?_
        refine wpAnyT_begin [23, 24] (by kernel_rfl) (by kernel_rfl) ?_
        refine wpAnyT_take (oi := ⟨some 96, Op.binOp BinOp.neq 24 (Operand.tmp 91) (Operand.tmp 95) 24, 4, _, _, some (14, false)⟩) (v := .bool false) rfl (fun _ _ _ h => h) (by rfl) (by assumption) (fun wS hSw => ?_) ?_
        · (try dsimp only at hSw); go_simp
        simp only [Act.put, List.setIfInBounds_toArray, List.set_cons_zero, List.set_cons_succ]
        refine wpAnyT_take (oi := ⟨some 97, Op.pick (Operand.tmp 87) (Operand.const (Value.bool true)) (Operand.tmp 96), 4, _, _, none⟩) (v := .bool false) rfl (fun _ _ _ h => h) (by rfl) (by assumption) (fun wS hSw => ?_) ?_
        · (try dsimp only at hSw); go_simp
        simp only [Act.put, List.setIfInBounds_toArray, List.set_cons_zero, List.set_cons_succ]
        refine wpAnyT_end ?_
        refine wpAnyH_listed #[true, true, true, true, true, true, true, true, true, true, true, true, true, true, true, true, true, true, true, true, true, true, true, true, true] (by kernel_rfl) ?_
        refine wpAnyH_done (by kernel_rfl) ?_ _
        clear hHeld Z0 Z1 Z2 Z3 Z4 Z5 X10
        go_wp2_with fail
        go_roundw
        case rel => exact ⟨k + 1, by omega, by go_num, Z6.tail.tail⟩
        case measure => simp [intOf]; omega
      · obtain rfl : k = m := by omega
        obtain ⟨b0, b1, b2, b3, hbx⟩ : ∃ p q r s, bxo (ps.take k) = ((p, q), (r, s)) := ⟨_, _, _, _, rfl⟩
        have Hbx := Lib.hid hbx
        clear hbx HQ
        obtain ⟨n1, hn1⟩ : ∃ v, nearOf r0 r1 r2 r3 r4 r5 r6 r7 = v := ⟨_, rfl⟩
        have Hn1 := Lib.hid hn1
        clear hn1
        obtain ⟨n2, hn2⟩ : ∃ v, nearOf r0 r1 r2 r3 r0 r1 r2 r3 = v := ⟨_, rfl⟩
        have Hn2 := Lib.hid hn2
        clear hn2
        go_upto_region 12 with fail
        have X0 := G0.drew
        have ms2 := Lib.hid (show ∀ w', Has w [(M, [.int .i64 r0, .int .i64 r1, .int .i64 r2, .int .i64 r3, .int .i64 r4, .int .i64 r5, .int .i64 r6, .int .i64 r7])] w' → (w'.cell? ⟨M, 0, none⟩ = some (.int .i64 r0) ∧ w'.cell? ⟨M, 1, none⟩ = some (.int .i64 r1) ∧ w'.cell? ⟨M, 2, none⟩ = some (.int .i64 r2) ∧ w'.cell? ⟨M, 3, none⟩ = some (.int .i64 r3) ∧ w'.cell? ⟨M, 4, none⟩ = some (.int .i64 r4) ∧ w'.cell? ⟨M, 5, none⟩ = some (.int .i64 r5) ∧ w'.cell? ⟨M, 6, none⟩ = some (.int .i64 r6) ∧ w'.cell? ⟨M, 7, none⟩ = some (.int .i64 r7)) ∧ Has w [(M, [.int .i64 r0, .int .i64 r1, .int .i64 r2, .int .i64 r3, .int .i64 r4, .int .i64 r5, .int .i64 r6, .int .i64 r7])] w' from fun w' h => ⟨⟨h.fact (.head _) (i := 0) rfl, h.fact (.head _) (i := 1) rfl, h.fact (.head _) (i := 2) rfl, h.fact (.head _) (i := 3) rfl, h.fact (.head _) (i := 4) rfl, h.fact (.head _) (i := 5) rfl, h.fact (.head _) (i := 6) rfl, h.fact (.head _) (i := 7) rfl⟩, h⟩)
        refine wp_region_held_drew (S := (fun w' => (w'.cell? ⟨M, 0, none⟩ = some (.int .i64 r0) ∧ w'.cell? ⟨M, 1, none⟩ = some (.int .i64 r1) ∧ w'.cell? ⟨M, 2, none⟩ = some (.int .i64 r2) ∧ w'.cell? ⟨M, 3, none⟩ = some (.int .i64 r3) ∧ w'.cell? ⟨M, 4, none⟩ = some (.int .i64 r4) ∧ w'.cell? ⟨M, 5, none⟩ = some (.int .i64 r5) ∧ w'.cell? ⟨M, 6, none⟩ = some (.int .i64 r6) ∧ w'.cell? ⟨M, 7, none⟩ = some (.int .i64 r7)) ∧ Has w [(M, [.int .i64 r0, .int .i64 r1, .int .i64 r2, .int .i64 r3, .int .i64 r4, .int .i64 r5, .int .i64 r6, .int .i64 r7])] w')) (by kernel_rfl) (ms2.out _ X0) (fun hHeld => ?_)
        refine wpAnyT_begin [0, 1, 2, 4] (by kernel_rfl) (by kernel_rfl) ?_
        refine wpAnyT_take (oi := ⟨some 99, Op.move (Operand.tmp 7), 4, _, _, none⟩) (v := .bool true) rfl (fun _ _ _ h => h) (by rfl) (by assumption) (fun wS hSw => ?_) ?_
        · (try dsimp only at hSw); go_simp
        simp only [Act.put, List.setIfInBounds_toArray, List.set_cons_zero, List.set_cons_succ]
        refine wpAnyT_take (oi := ⟨some 100, Op.move (Operand.tmp 99), 4, _, _, none⟩) (v := .bool true) rfl (fun _ _ _ h => h) (by rfl) (by assumption) (fun wS hSw => ?_) ?_
        · (try dsimp only at hSw); go_simp
        simp only [Act.put, List.setIfInBounds_toArray, List.set_cons_zero, List.set_cons_succ]
        refine wpAnyT_take (oi := ⟨some 101, Op.move (Operand.tmp 0), 22, _, _, some (1, true)⟩) (v := .slice a k cap) rfl (fun _ _ _ h => h) (by rfl) (by assumption) (fun wS hSw => ?_) ?_
        · (try dsimp only at hSw); go_simp
        simp only [Act.put, List.setIfInBounds_toArray, List.set_cons_zero, List.set_cons_succ]
        refine wpAnyT_take (oi := ⟨some 103, Op.move (Operand.tmp 0), 22, _, _, some (1, true)⟩) (v := .slice a k cap) rfl (fun _ _ _ h => h) (by rfl) (by assumption) (fun wS hSw => ?_) ?_
        · (try dsimp only at hSw); go_simp
        simp only [Act.put, List.setIfInBounds_toArray, List.set_cons_zero, List.set_cons_succ]
        refine wpAnyT_end ?_
        refine wpAnyH_listed #[true, true, true, false, true, false, false, false, false, false, false, false, false, false, false, false, false, false, false, false, false, false, false, false, false, false, false, false, false, false, false, false, false, false, false] (by kernel_rfl) ?_
        refine wpAnyH_ready (rs := [3]) (by kernel_rfl) (by simp) ?_
        refine AllReadyH.cons (o := ⟨some 102, Op.call { callee := Callee.value (Operand.func 24), args := #[Operand.tmp 101], argTypes := #[22] }, 24, _, _, some (1, true)⟩) rfl (fun K hK => ?_) AllReadyH.nil
        go_simp
        go_at_call 24
        refine (Has.call X0 (box_is _ (ps.take k) b0 b1 b2 b3 Hbx.out _ ((HR.out.take (k := k) (by omega)).later X0.low))).mono ?_
        rintro e W1 ⟨rfl, X1⟩
        go_wp2_with fail
        clear hHeld
        refine hK.out _ _ (ms2.out _ X1) (fun hHeld => ?_)
        clear hK K
        try simp only [List.setIfInBounds_toArray, List.set_cons_zero, List.set_cons_succ]
        refine wpAnyH_listed #[true, true, true, true, true, false, false, false, false, false, false, false, false, false, false, false, false, false, false, false, false, false, false, false, false, false, false, false, false, false, false, false, false, false, false] (by kernel_rfl) ?_
        refine wpAnyH_ready (rs := [5]) (by kernel_rfl) (by simp) ?_
        refine AllReadyH.cons (o := ⟨some 104, Op.call { callee := Callee.value (Operand.func 25), args := #[Operand.tmp 103], argTypes := #[22] }, 24, _, _, some (1, true)⟩) rfl (fun K hK => ?_) AllReadyH.nil
        go_simp
        go_at_call 25
        refine (Has.call X1 (rbox_is _ (ps.take k) b0 b1 b2 b3 Hbx.out _ ((HR.out.take (k := k) (by omega)).later X1.low) (HO.out.take k))).mono ?_
        rintro e W2 ⟨rfl, X2⟩
        go_wp2_with fail
        clear hHeld
        refine hK.out _ _ (ms2.out _ X2) (fun hHeld => ?_)
        clear hK K
        try simp only [List.setIfInBounds_toArray, List.set_cons_zero, List.set_cons_succ]
        refine wpAnyH_listed #[true, true, true, true, true, true, false, false, false, false, false, false, false, false, false, false, false, false, false, false, false, false, false, false, false, false, false, false, false, false, false, false, false, false, false] (by kernel_rfl) ?_
        refine wpAnyT_begin [6, 7, 8, 9, 10, 11, 12, 14, 15, 16, 17] (by kernel_rfl) (by kernel_rfl) ?_
        refine wpAnyT_take (oi := ⟨some 105, Op.binOp BinOp.eql 24 (Operand.tmp 102) (Operand.tmp 104) 24, 4, _, _, some (1, true)⟩) (v := .bool true) rfl (fun _ _ _ h => h) (by rfl) (by assumption) (fun wS hSw => ?_) ?_
        · (try dsimp only at hSw); go_simp
        simp only [Act.put, List.setIfInBounds_toArray, List.set_cons_zero, List.set_cons_succ]
        refine wpAnyT_take (oi := ⟨some 106, Op.pick (Operand.tmp 100) (Operand.tmp 105) (Operand.const (Value.bool false)), 4, _, _, none⟩) (v := .bool true) rfl (fun _ _ _ h => h) (by rfl) (by assumption) (fun wS hSw => ?_) ?_
        · (try dsimp only at hSw); go_simp
        simp only [Act.put, List.setIfInBounds_toArray, List.set_cons_zero, List.set_cons_succ]
        refine wpAnyT_take (oi := ⟨some 107, Op.move (Operand.tmp 106), 4, _, _, none⟩) (v := .bool true) rfl (fun _ _ _ h => h) (by rfl) (by assumption) (fun wS hSw => ?_) ?_
        · (try dsimp only at hSw); go_simp
        simp only [Act.put, List.setIfInBounds_toArray, List.set_cons_zero, List.set_cons_succ]
        refine wpAnyT_take (oi := ⟨some 108, Op.indexAddr 25 (Operand.tmp 4) (Operand.const (Value.int IntKind.i64 0)), 0, _, _, some (8, true)⟩) (v := .pointer (some ⟨M, 0, none⟩)) rfl (fun _ _ _ h => h) (by rfl) (by assumption) (fun wS hSw => ?_) ?_
        · (try dsimp only at hSw); go_simp
        simp only [Act.put, List.setIfInBounds_toArray, List.set_cons_zero, List.set_cons_succ]
        refine wpAnyT_take (oi := ⟨some 109, Op.load 24 (Operand.tmp 108), 24, _, _, some (8, true)⟩) (v := .agg #[.int .i64 r0, .int .i64 r1, .int .i64 r2, .int .i64 r3]) rfl (fun _ _ _ h => h) (by rfl) (by assumption) (fun wS hSw => ?_) ?_
        · (try dsimp only at hSw); go_simp
        simp only [Act.put, List.setIfInBounds_toArray, List.set_cons_zero, List.set_cons_succ]
        refine wpAnyT_take (oi := ⟨some 110, Op.indexAddr 25 (Operand.tmp 4) (Operand.const (Value.int IntKind.i64 1)), 0, _, _, some (8, true)⟩) (v := .pointer (some ⟨M, 4, none⟩)) rfl (fun _ _ _ h => h) (by rfl) (by assumption) (fun wS hSw => ?_) ?_
        · (try dsimp only at hSw); go_simp
        simp only [Act.put, List.setIfInBounds_toArray, List.set_cons_zero, List.set_cons_succ]
        refine wpAnyT_take (oi := ⟨some 111, Op.load 24 (Operand.tmp 110), 24, _, _, some (8, true)⟩) (v := .agg #[.int .i64 r4, .int .i64 r5, .int .i64 r6, .int .i64 r7]) rfl (fun _ _ _ h => h) (by rfl) (by assumption) (fun wS hSw => ?_) ?_
        · (try dsimp only at hSw); go_simp
        simp only [Act.put, List.setIfInBounds_toArray, List.set_cons_zero, List.set_cons_succ]
        refine wpAnyT_take (oi := ⟨some 113, Op.indexAddr 25 (Operand.tmp 4) (Operand.const (Value.int IntKind.i64 0)), 0, _, _, some (8, true)⟩) (v := .pointer (some ⟨M, 0, none⟩)) rfl (fun _ _ _ h => h) (by rfl) (by assumption) (fun wS hSw => ?_) ?_
        · (try dsimp only at hSw); go_simp
        simp only [Act.put, List.setIfInBounds_toArray, List.set_cons_zero, List.set_cons_succ]
        refine wpAnyT_take (oi := ⟨some 114, Op.load 24 (Operand.tmp 113), 24, _, _, some (8, true)⟩) (v := .agg #[.int .i64 r0, .int .i64 r1, .int .i64 r2, .int .i64 r3]) rfl (fun _ _ _ h => h) (by rfl) (by assumption) (fun wS hSw => ?_) ?_
        · (try dsimp only at hSw); go_simp
        simp only [Act.put, List.setIfInBounds_toArray, List.set_cons_zero, List.set_cons_succ]
        refine wpAnyT_take (oi := ⟨some 115, Op.indexAddr 25 (Operand.tmp 4) (Operand.const (Value.int IntKind.i64 1)), 0, _, _, some (8, true)⟩) (v := .pointer (some ⟨M, 4, none⟩)) rfl (fun _ _ _ h => h) (by rfl) (by assumption) (fun wS hSw => ?_) ?_
        · (try dsimp only at hSw); go_simp
        simp only [Act.put, List.setIfInBounds_toArray, List.set_cons_zero, List.set_cons_succ]
        refine wpAnyT_take (oi := ⟨some 116, Op.load 24 (Operand.tmp 115), 24, _, _, some (8, true)⟩) (v := .agg #[.int .i64 r4, .int .i64 r5, .int .i64 r6, .int .i64 r7]) rfl (fun _ _ _ h => h) (by rfl) (by assumption) (fun wS hSw => ?_) ?_
        · (try dsimp only at hSw); go_simp
        simp only [Act.put, List.setIfInBounds_toArray, List.set_cons_zero, List.set_cons_succ]
        refine wpAnyT_end ?_
        refine wpAnyH_listed #[true, true, true, true, true, true, true, true, true, true, true, true, true, false, true, true, true, true, false, false, false, false, false, false, false, false, false, false, false, false, false, false, false, false, false] (by kernel_rfl) ?_
        refine wpAnyH_ready (rs := [13]) (by kernel_rfl) (by simp) ?_
        refine AllReadyH.cons (o := ⟨some 112, Op.call { callee := Callee.value (Operand.func 26), args := #[Operand.tmp 109, Operand.tmp 111], argTypes := #[24, 24] }, 4, _, _, some (8, true)⟩) rfl (fun K hK => ?_) AllReadyH.nil
        go_simp
        go_at_call 26
        refine (Has.call X2 (near_is r0 r1 r2 r3 r4 r5 r6 r7 n1 Hn1.out _)).mono ?_
        rintro e W3 ⟨rfl, X3⟩
        go_wp2_with fail
        clear hHeld
        refine hK.out _ _ (ms2.out _ X3) (fun hHeld => ?_)
        clear hK K
        try simp only [List.setIfInBounds_toArray, List.set_cons_zero, List.set_cons_succ]
        refine wpAnyH_listed #[true, true, true, true, true, true, true, true, true, true, true, true, true, true, true, true, true, true, false, false, false, false, false, false, false, false, false, false, false, false, false, false, false, false, false] (by kernel_rfl) ?_
        refine wpAnyH_ready (rs := [18]) (by kernel_rfl) (by simp) ?_
        refine AllReadyH.cons (o := ⟨some 117, Op.call { callee := Callee.value (Operand.func 27), args := #[Operand.tmp 114, Operand.tmp 116], argTypes := #[24, 24] }, 4, _, _, some (8, true)⟩) rfl (fun K hK => ?_) AllReadyH.nil
        go_simp
        go_at_call 27
        refine (Has.call X3 (rnear_is r0 r1 r2 r3 r4 r5 r6 r7 n1 Hn1.out _)).mono ?_
        rintro e W4 ⟨rfl, X4⟩
        go_wp2_with fail
        clear hHeld
        refine hK.out _ _ (ms2.out _ X4) (fun hHeld => ?_)
        clear hK K
        try simp only [List.setIfInBounds_toArray, List.set_cons_zero, List.set_cons_succ]
        refine wpAnyH_listed #[true, true, true, true, true, true, true, true, true, true, true, true, true, true, true, true, true, true, true, false, false, false, false, false, false, false, false, false, false, false, false, false, false, false, false] (by kernel_rfl) ?_
        refine wpAnyT_begin [19, 20, 21, 22, 23, 24, 25, 27, 28, 29, 30] (by kernel_rfl) (by kernel_rfl) ?_
        refine wpAnyT_take (oi := ⟨some 118, Op.binOp BinOp.eql 4 (Operand.tmp 112) (Operand.tmp 117) 4, 4, _, _, some (8, true)⟩) (v := .bool true) rfl (fun _ _ _ h => h) (by rfl) (by assumption) (fun wS hSw => ?_) ?_
        · (try dsimp only at hSw); go_simp
        simp only [Act.put, List.setIfInBounds_toArray, List.set_cons_zero, List.set_cons_succ]
        refine wpAnyT_take (oi := ⟨some 119, Op.pick (Operand.tmp 107) (Operand.tmp 118) (Operand.const (Value.bool false)), 4, _, _, none⟩) (v := .bool true) rfl (fun _ _ _ h => h) (by rfl) (by assumption) (fun wS hSw => ?_) ?_
        · (try dsimp only at hSw); go_simp
        simp only [Act.put, List.setIfInBounds_toArray, List.set_cons_zero, List.set_cons_succ]
        refine wpAnyT_take (oi := ⟨some 120, Op.move (Operand.tmp 119), 4, _, _, none⟩) (v := .bool true) rfl (fun _ _ _ h => h) (by rfl) (by assumption) (fun wS hSw => ?_) ?_
        · (try dsimp only at hSw); go_simp
        simp only [Act.put, List.setIfInBounds_toArray, List.set_cons_zero, List.set_cons_succ]
        refine wpAnyT_take (oi := ⟨some 121, Op.indexAddr 25 (Operand.tmp 4) (Operand.const (Value.int IntKind.i64 0)), 0, _, _, some (21, true)⟩) (v := .pointer (some ⟨M, 0, none⟩)) rfl (fun _ _ _ h => h) (by rfl) (by assumption) (fun wS hSw => ?_) ?_
        · (try dsimp only at hSw); go_simp
        simp only [Act.put, List.setIfInBounds_toArray, List.set_cons_zero, List.set_cons_succ]
        refine wpAnyT_take (oi := ⟨some 122, Op.load 24 (Operand.tmp 121), 24, _, _, some (21, true)⟩) (v := .agg #[.int .i64 r0, .int .i64 r1, .int .i64 r2, .int .i64 r3]) rfl (fun _ _ _ h => h) (by rfl) (by assumption) (fun wS hSw => ?_) ?_
        · (try dsimp only at hSw); go_simp
        simp only [Act.put, List.setIfInBounds_toArray, List.set_cons_zero, List.set_cons_succ]
        refine wpAnyT_take (oi := ⟨some 123, Op.indexAddr 25 (Operand.tmp 4) (Operand.const (Value.int IntKind.i64 0)), 0, _, _, some (21, true)⟩) (v := .pointer (some ⟨M, 0, none⟩)) rfl (fun _ _ _ h => h) (by rfl) (by assumption) (fun wS hSw => ?_) ?_
        · (try dsimp only at hSw); go_simp
        simp only [Act.put, List.setIfInBounds_toArray, List.set_cons_zero, List.set_cons_succ]
        refine wpAnyT_take (oi := ⟨some 124, Op.load 24 (Operand.tmp 123), 24, _, _, some (21, true)⟩) (v := .agg #[.int .i64 r0, .int .i64 r1, .int .i64 r2, .int .i64 r3]) rfl (fun _ _ _ h => h) (by rfl) (by assumption) (fun wS hSw => ?_) ?_
        · (try dsimp only at hSw); go_simp
        simp only [Act.put, List.setIfInBounds_toArray, List.set_cons_zero, List.set_cons_succ]
        refine wpAnyT_take (oi := ⟨some 126, Op.indexAddr 25 (Operand.tmp 4) (Operand.const (Value.int IntKind.i64 0)), 0, _, _, some (21, true)⟩) (v := .pointer (some ⟨M, 0, none⟩)) rfl (fun _ _ _ h => h) (by rfl) (by assumption) (fun wS hSw => ?_) ?_
        · (try dsimp only at hSw); go_simp
        simp only [Act.put, List.setIfInBounds_toArray, List.set_cons_zero, List.set_cons_succ]
        refine wpAnyT_take (oi := ⟨some 127, Op.load 24 (Operand.tmp 126), 24, _, _, some (21, true)⟩) (v := .agg #[.int .i64 r0, .int .i64 r1, .int .i64 r2, .int .i64 r3]) rfl (fun _ _ _ h => h) (by rfl) (by assumption) (fun wS hSw => ?_) ?_
        · (try dsimp only at hSw); go_simp
        simp only [Act.put, List.setIfInBounds_toArray, List.set_cons_zero, List.set_cons_succ]
        refine wpAnyT_take (oi := ⟨some 128, Op.indexAddr 25 (Operand.tmp 4) (Operand.const (Value.int IntKind.i64 0)), 0, _, _, some (21, true)⟩) (v := .pointer (some ⟨M, 0, none⟩)) rfl (fun _ _ _ h => h) (by rfl) (by assumption) (fun wS hSw => ?_) ?_
        · (try dsimp only at hSw); go_simp
        simp only [Act.put, List.setIfInBounds_toArray, List.set_cons_zero, List.set_cons_succ]
        refine wpAnyT_take (oi := ⟨some 129, Op.load 24 (Operand.tmp 128), 24, _, _, some (21, true)⟩) (v := .agg #[.int .i64 r0, .int .i64 r1, .int .i64 r2, .int .i64 r3]) rfl (fun _ _ _ h => h) (by rfl) (by assumption) (fun wS hSw => ?_) ?_
        · (try dsimp only at hSw); go_simp
        simp only [Act.put, List.setIfInBounds_toArray, List.set_cons_zero, List.set_cons_succ]
        refine wpAnyT_end ?_
        refine wpAnyH_listed #[true, true, true, true, true, true, true, true, true, true, true, true, true, true, true, true, true, true, true, true, true, true, true, true, true, true, false, true, true, true, true, false, false, false, false] (by kernel_rfl) ?_
        refine wpAnyH_ready (rs := [26]) (by kernel_rfl) (by simp) ?_
        refine AllReadyH.cons (o := ⟨some 125, Op.call { callee := Callee.value (Operand.func 26), args := #[Operand.tmp 122, Operand.tmp 124], argTypes := #[24, 24] }, 4, _, _, some (21, true)⟩) rfl (fun K hK => ?_) AllReadyH.nil
        go_simp
        go_at_call 26
        refine (Has.call X4 (near_is r0 r1 r2 r3 r0 r1 r2 r3 n2 Hn2.out _)).mono ?_
        rintro e W5 ⟨rfl, X5⟩
        go_wp2_with fail
        clear hHeld
        refine hK.out _ _ (ms2.out _ X5) (fun hHeld => ?_)
        clear hK K
        try simp only [List.setIfInBounds_toArray, List.set_cons_zero, List.set_cons_succ]
        refine wpAnyH_listed #[true, true, true, true, true, true, true, true, true, true, true, true, true, true, true, true, true, true, true, true, true, true, true, true, true, true, true, true, true, true, true, false, false, false, false] (by kernel_rfl) ?_
        refine wpAnyH_ready (rs := [31]) (by kernel_rfl) (by simp) ?_
        refine AllReadyH.cons (o := ⟨some 130, Op.call { callee := Callee.value (Operand.func 27), args := #[Operand.tmp 127, Operand.tmp 129], argTypes := #[24, 24] }, 4, _, _, some (21, true)⟩) rfl (fun K hK => ?_) AllReadyH.nil
        go_simp
        go_at_call 27
        refine (Has.call X5 (rnear_is r0 r1 r2 r3 r0 r1 r2 r3 n2 Hn2.out _)).mono ?_
        rintro e W6 ⟨rfl, X6⟩
        go_wp2_with fail
        clear hHeld
        refine hK.out _ _ (ms2.out _ X6) (fun hHeld => ?_)
        clear hK K
        try simp only [List.setIfInBounds_toArray, List.set_cons_zero, List.set_cons_succ]
        refine wpAnyH_listed #[true, true, true, true, true, true, true, true, true, true, true, true, true, true, true, true, true, true, true, true, true, true, true, true, true, true, true, true, true, true, true, true, false, false, false] (by kernel_rfl) ?_
        refine wpAnyT_begin [32, 33, 34] (by kernel_rfl) (by kernel_rfl) ?_
        refine wpAnyT_take (oi := ⟨some 131, Op.binOp BinOp.eql 4 (Operand.tmp 125) (Operand.tmp 130) 4, 4, _, _, some (21, true)⟩) (v := .bool true) rfl (fun _ _ _ h => h) (by rfl) (by assumption) (fun wS hSw => ?_) ?_
        · (try dsimp only at hSw); go_simp
        simp only [Act.put, List.setIfInBounds_toArray, List.set_cons_zero, List.set_cons_succ]
        refine wpAnyT_take (oi := ⟨some 132, Op.pick (Operand.tmp 120) (Operand.tmp 131) (Operand.const (Value.bool false)), 4, _, _, none⟩) (v := .bool true) rfl (fun _ _ _ h => h) (by rfl) (by assumption) (fun wS hSw => ?_) ?_
        · (try dsimp only at hSw); go_simp
        simp only [Act.put, List.setIfInBounds_toArray, List.set_cons_zero, List.set_cons_succ]
        refine wpAnyT_take (oi := ⟨some 6, Op.assign (Operand.tmp 132), 4, _, _, none⟩) (v := .bool true) rfl (fun _ _ _ h => h) (by rfl) (by assumption) (fun wS hSw => ?_) ?_
        · (try dsimp only at hSw); go_simp
        simp only [Act.put, List.setIfInBounds_toArray, List.set_cons_zero, List.set_cons_succ]
        refine wpAnyT_end ?_
        refine wpAnyH_listed #[true, true, true, true, true, true, true, true, true, true, true, true, true, true, true, true, true, true, true, true, true, true, true, true, true, true, true, true, true, true, true, true, true, true, true] (by kernel_rfl) ?_
        refine wpAnyH_done (by kernel_rfl) ?_ _
        go_wp2_with fail
        go_ret
        exact ⟨rfl, X6.low⟩

end Go.Proofs.Ytoehojopoajcaaa
