/- A turn and a translation change no side, and no common point. -/
import Derived.Test.YtoehojopoajcaaaLaw
import Derived.Test.YtoehojopoajcaaaGeod
import Derived.Test.YtoehojopoajcaaaHeld
namespace Go.Proofs.Ytoehojopoajcaaa
open Go.RowKit Go.Lib

/-- A turned and moved point, and that all of it is small. -/
theorem tm_prep {m : Nat} (hm : m ≤ 3) (x y U V : Int) (hx : -12 ≤ x ∧ x ≤ 12) (hy : -12 ≤ y ∧ y ≤ 12) (hU : -10000 < U ∧ U < 10000) (hV : -10000 < V ∧ V < 10000) :
    ∃ r s p q, rotN m x y = (r, s) ∧ wrap64 (r + U) = p ∧ wrap64 (s + V) = q ∧ Geo.Tm m U V x y p q ∧ Geo.In p q ∧ Geo.In x y := by
  have h := Geo.rq_bd (B := 12) hm hx hy
  have e := Geo.rotN_rq hm (x := x) (y := y) (by omega) (by omega)
  generalize hq : Geo.rq m x y = rs at *
  obtain ⟨r, s⟩ := rs
  refine ⟨r, s, r + U, s + V, e, IntWalk.wrap64_in _ (by simp only at h; omega), IntWalk.wrap64_in _ (by simp only at h; omega), ⟨?_, ?_⟩, Geo.in_small (by simp only at h; omega), Geo.in_small (by omega)⟩
  · rw [hq]
  · rw [hq]

set_option maxRecDepth 100000 in
set_option maxHeartbeats 16000000 in
theorem turns_any (l0 l1 l2 l3 l4 l5 l6 l7 n u v : Int) (hn : 0 ≤ n ∧ n ≤ 255) (w : World) :
    Calls Try.prog 5 #[.agg #[.int .i64 l0, .int .i64 l1, .int .i64 l2, .int .i64 l3, .int .i64 l4, .int .i64 l5, .int .i64 l6, .int .i64 l7], .int .u8 n, .agg #[.int .i64 u, .int .i64 v]] w fun e w' => e = .returned (.bool true) ∧ Below w.heap.size w w' := by
  have C0 := has2 (w := w) [.int .i64 l0, .int .i64 l1, .int .i64 l2, .int .i64 l3, .int .i64 l4, .int .i64 l5, .int .i64 l6, .int .i64 l7] [.int .i64 u, .int .i64 v] 39 28
  obtain ⟨U, hU⟩ : ∃ U, u.tmod 10000 = U := ⟨_, rfl⟩
  obtain ⟨V, hV⟩ : ∃ V, v.tmod 10000 = V := ⟨_, rfl⟩
  have bU := tmod_bd u 10000 (by omega)
  have bV := tmod_bd v 10000 (by omega)
  rw [hU] at bU
  rw [hV] at bV
  obtain ⟨x0, hx0⟩ : ∃ x, sm l0 = x := ⟨_, rfl⟩
  have bx0 := sm_bd l0
  rw [hx0] at bx0
  obtain ⟨x1, hx1⟩ : ∃ x, sm l1 = x := ⟨_, rfl⟩
  have bx1 := sm_bd l1
  rw [hx1] at bx1
  obtain ⟨x2, hx2⟩ : ∃ x, sm l2 = x := ⟨_, rfl⟩
  have bx2 := sm_bd l2
  rw [hx2] at bx2
  obtain ⟨x3, hx3⟩ : ∃ x, sm l3 = x := ⟨_, rfl⟩
  have bx3 := sm_bd l3
  rw [hx3] at bx3
  obtain ⟨x4, hx4⟩ : ∃ x, sm l4 = x := ⟨_, rfl⟩
  have bx4 := sm_bd l4
  rw [hx4] at bx4
  obtain ⟨x5, hx5⟩ : ∃ x, sm l5 = x := ⟨_, rfl⟩
  have bx5 := sm_bd l5
  rw [hx5] at bx5
  obtain ⟨x6, hx6⟩ : ∃ x, sm l6 = x := ⟨_, rfl⟩
  have bx6 := sm_bd l6
  rw [hx6] at bx6
  obtain ⟨x7, hx7⟩ : ∃ x, sm l7 = x := ⟨_, rfl⟩
  have bx7 := sm_bd l7
  rw [hx7] at bx7
  obtain ⟨r0, r1, p0, p1, hr0, hp0, hp1, T0, J0, I0⟩ := tm_prep (m := (n % 4).toNat) (by omega) x0 x1 U V bx0 bx1 bU bV
  obtain ⟨r2, r3, p2, p3, hr1, hp2, hp3, T1, J1, I1⟩ := tm_prep (m := (n % 4).toNat) (by omega) x2 x3 U V bx2 bx3 bU bV
  obtain ⟨r4, r5, p4, p5, hr2, hp4, hp5, T2, J2, I2⟩ := tm_prep (m := (n % 4).toNat) (by omega) x4 x5 U V bx4 bx5 bU bV
  obtain ⟨r6, r7, p6, p7, hr3, hp6, hp7, T3, J3, I3⟩ := tm_prep (m := (n % 4).toNat) (by omega) x6 x7 U V bx6 bx7 bU bV
  obtain ⟨e1, e2, e3, e4, e5, e6, e7, e8⟩ := Geo.turns (m := (n % 4).toNat) (by omega) T0 T1 T2 T3 I0 I1 I2 I3 J0 J1 J2 J3
  obtain ⟨sd, hsd⟩ : ∃ s, sideOf x0 x1 x2 x3 x4 x5 = s := ⟨_, rfl⟩
  have bs := sideOf_bd x0 x1 x2 x3 x4 x5
  obtain ⟨o, ho⟩ : ∃ o, onOf x0 x1 x2 x3 x4 x5 = o := ⟨_, rfl⟩
  obtain ⟨me, hme⟩ : ∃ m, meetOf x0 x1 x2 x3 x4 x5 x6 x7 = m := ⟨_, rfl⟩
  rw [hsd] at e1 e2 e3 bs
  rw [ho] at e4
  rw [hme] at e5 e6 e7 e8
  have hw : IntKind.i64.wrap n = n := IntWalk.i64_in _ (by omega)
  have en : IntKind.i64.wrap (-sd) = -sd := IntWalk.i64_in _ (by omega)
  have He1 := Lib.hid e1
  have He2 := Lib.hid e2
  have He3 := Lib.hid e3
  have He4 := Lib.hid e4
  have He5 := Lib.hid e5
  have He6 := Lib.hid e6
  have He7 := Lib.hid e7
  have He8 := Lib.hid e8
  have Hhsd := Lib.hid hsd
  have Hho := Lib.hid ho
  have Hhme := Lib.hid hme
  have Hhx0 := Lib.hid hx0
  have Hhx1 := Lib.hid hx1
  have Hhx2 := Lib.hid hx2
  have Hhx3 := Lib.hid hx3
  have Hhx4 := Lib.hid hx4
  have Hhx5 := Lib.hid hx5
  have Hhx6 := Lib.hid hx6
  have Hhx7 := Lib.hid hx7
  have Hhp0 := Lib.hid hp0
  have Hhp1 := Lib.hid hp1
  have Hhp2 := Lib.hid hp2
  have Hhp3 := Lib.hid hp3
  have Hhp4 := Lib.hid hp4
  have Hhp5 := Lib.hid hp5
  have Hhp6 := Lib.hid hp6
  have Hhp7 := Lib.hid hp7
  have Hhr0 := Lib.hid hr0
  have Hhr1 := Lib.hid hr1
  have Hhr2 := Lib.hid hr2
  have Hhr3 := Lib.hid hr3
  clear bs e1 e2 e3 e4 e5 e6 e7 e8 hsd ho hme hx0 hx1 hx2 hx3 hx4 hx5 hx6 hx7 hp0 hp1 hp2 hp3 hp4 hp5 hp6 hp7 hr0 hr1 hr2 hr3 T0 J0 I0 T1 J1 I1 T2 J2 I2 T3 J3 I3 bx0 bx1 bx2 bx3 bx4 bx5 bx6 bx7
  go_enter Try.func5, Try.ntmps5
  go_wp2_with fail
  change Has w _ ((w.alloc (.cells #[.int .i64 l0, .int .i64 l1, .int .i64 l2, .int .i64 l3, .int .i64 l4, .int .i64 l5, .int .i64 l6, .int .i64 l7] 39)).alloc (.cells #[.int .i64 u, .int .i64 v] 28)) at C0
  generalize (w.alloc (.cells #[.int .i64 l0, .int .i64 l1, .int .i64 l2, .int .i64 l3, .int .i64 l4, .int .i64 l5, .int .i64 l6, .int .i64 l7] 39)).alloc (.cells #[.int .i64 u, .int .i64 v] 28) = w0 at *
  refine (Has.call C0 (sane _)).mono ?_
  rintro e w1 ⟨rfl, C1⟩
  go_upto_region 3 with fail
  have C2 := C1.push2 [.int .i64 0, .int .i64 0, .int .i64 0, .int .i64 0, .int .i64 0, .int .i64 0, .int .i64 0, .int .i64 0] [.int .i64 0, .int .i64 0, .int .i64 0, .int .i64 0, .int .i64 0, .int .i64 0, .int .i64 0, .int .i64 0] 39 39
  change Has w _ ((w1.alloc (.cells #[.int .i64 0, .int .i64 0, .int .i64 0, .int .i64 0, .int .i64 0, .int .i64 0, .int .i64 0, .int .i64 0] 39)).alloc (.cells #[.int .i64 0, .int .i64 0, .int .i64 0, .int .i64 0, .int .i64 0, .int .i64 0, .int .i64 0, .int .i64 0] 39)) at C2
  generalize (w1.alloc (.cells #[.int .i64 0, .int .i64 0, .int .i64 0, .int .i64 0, .int .i64 0, .int .i64 0, .int .i64 0, .int .i64 0] 39)).alloc (.cells #[.int .i64 0, .int .i64 0, .int .i64 0, .int .i64 0, .int .i64 0, .int .i64 0, .int .i64 0, .int .i64 0] 39) = w2 at *
  generalize w1.heap.size = A at *
  generalize hM : w.heap.size = M at *
  generalize hN : M + 1 = N at *
  generalize hB : A + 1 = B at *
  clear hM hN hB
  have C3 := C2.fourth
  have k0 := C3.fact (.head _) (i := 0) rfl
  have k1 := C3.fact (.head _) (i := 1) rfl
  have f0 := C3.free (.head _) (i := 0) rfl
  have f1 := C3.free (.head _) (i := 1) rfl
  go_wp2_with fail
  refine (Has.call C3 (pt_any _ _ _)).mono ?_
  rintro e w3 ⟨rfl, C4⟩
  clear k0 k1 f0 f1
  have k0 := C4.fact (.head _) (i := 0) rfl
  have k1 := C4.fact (.head _) (i := 1) rfl
  have f0 := C4.free (.head _) (i := 0) rfl
  have f1 := C4.free (.head _) (i := 1) rfl
  go_upto_region 4 with fail
  have C5 := C4.set2 (.int .i64 U) (.int .i64 V)
  generalize (World.setCell w3 ⟨N, 0, none⟩ (.int .i64 U)).setCell ⟨N, 1, none⟩ (.int .i64 V) = w5 at *
  clear k0 k1 f0 f1 C0 C1 C2 C3 C4 hU hV bU bV
  have g0 := C5.tail.tail.tail.fact (.head _) (i := 0) rfl
  have g1 := C5.tail.tail.tail.fact (.head _) (i := 1) rfl
  have g2 := C5.tail.tail.tail.fact (.head _) (i := 2) rfl
  have g3 := C5.tail.tail.tail.fact (.head _) (i := 3) rfl
  have g4 := C5.tail.tail.tail.fact (.head _) (i := 4) rfl
  have g5 := C5.tail.tail.tail.fact (.head _) (i := 5) rfl
  have g6 := C5.tail.tail.tail.fact (.head _) (i := 6) rfl
  have g7 := C5.tail.tail.tail.fact (.head _) (i := 7) rfl
  have ix0 : ∀ w : World, (Instr.index 39 (.agg #[.int .i64 l0, .int .i64 l1, .int .i64 l2, .int .i64 l3, .int .i64 l4, .int .i64 l5, .int .i64 l6, .int .i64 l7]) (.int .i64 0)).run Try.prog w = .ok (.agg #[.int .i64 l0, .int .i64 l1]) w := fun _ => by kernel_rfl
  have ix1 : ∀ w : World, (Instr.index 39 (.agg #[.int .i64 l0, .int .i64 l1, .int .i64 l2, .int .i64 l3, .int .i64 l4, .int .i64 l5, .int .i64 l6, .int .i64 l7]) (.int .i64 1)).run Try.prog w = .ok (.agg #[.int .i64 l2, .int .i64 l3]) w := fun _ => by kernel_rfl
  have ix2 : ∀ w : World, (Instr.index 39 (.agg #[.int .i64 l0, .int .i64 l1, .int .i64 l2, .int .i64 l3, .int .i64 l4, .int .i64 l5, .int .i64 l6, .int .i64 l7]) (.int .i64 2)).run Try.prog w = .ok (.agg #[.int .i64 l4, .int .i64 l5]) w := fun _ => by kernel_rfl
  have ix3 : ∀ w : World, (Instr.index 39 (.agg #[.int .i64 l0, .int .i64 l1, .int .i64 l2, .int .i64 l3, .int .i64 l4, .int .i64 l5, .int .i64 l6, .int .i64 l7]) (.int .i64 3)).run Try.prog w = .ok (.agg #[.int .i64 l6, .int .i64 l7]) w := fun _ => by kernel_rfl
  go_wp2_with fail
  refine wp_loop_rounds 5 ?_
  clear g0 g1 g2 g3 g4 g5 g6 g7
  have D0 := C5
  generalize w5 = y0 at *
  clear C5
  rw [rounds_succ]
  go_upto_region 7 with fail
  have E0 := D0.push [.int .i64 l0, .int .i64 l1] 28
  generalize y0.alloc (.cells #[.int .i64 l0, .int .i64 l1] 28) = z0 at *
  generalize y0.heap.size = Q0 at *
  obtain ⟨k0, k1⟩ := E0.pt
  go_wp2_with fail
  refine (Has.call E0.tail (small_is _ _ x0 x1 Hhx0.out Hhx1.out _)).mono ?_
  rintro e z1 ⟨rfl, E1⟩
  clear k0 k1
  have k0 := E1.tail.tail.fact (.head _) (i := 0) rfl
  have k1 := E1.tail.tail.fact (.head _) (i := 1) rfl
  have f0 := E1.tail.tail.free (.head _) (i := 0) rfl
  have f1 := E1.tail.tail.free (.head _) (i := 1) rfl
  go_upto_region 8 with fail
  have E2 : Has w [(N, [.int .i64 U, .int .i64 V]), (B, [.int .i64 0, .int .i64 0, .int .i64 0, .int .i64 0, .int .i64 0, .int .i64 0, .int .i64 0, .int .i64 0]), (A, [.int .i64 x0, .int .i64 x1, .int .i64 0, .int .i64 0, .int .i64 0, .int .i64 0, .int .i64 0, .int .i64 0]), (M, [.int .i64 l0, .int .i64 l1, .int .i64 l2, .int .i64 l3, .int .i64 l4, .int .i64 l5, .int .i64 l6, .int .i64 l7])] ((z1.setCell ⟨A, 0, none⟩ (.int .i64 x0)).setCell ⟨A, 1, none⟩ (.int .i64 x1)) := ((E1.third.set 0 (by simp) (.int .i64 x0)).set 1 (by simp) (.int .i64 x1)).third.third
  generalize (z1.setCell ⟨A, 0, none⟩ (.int .i64 x0)).setCell ⟨A, 1, none⟩ (.int .i64 x1) = z2 at *
  clear k0 k1 f0 f1
  have k0 := E2.tail.tail.fact (.head _) (i := 0) rfl
  clear k0
  have X0 := E2.drew
  refine wp_region_held_drew (S := (fun w' => (w'.cell? ⟨A, 0, none⟩ = some (.int .i64 x0) ∧ w'.cell? ⟨A, 1, none⟩ = some (.int .i64 x1) ∧ w'.cell? ⟨N, 0, none⟩ = some (.int .i64 U) ∧ w'.cell? ⟨N, 1, none⟩ = some (.int .i64 V)) ∧ ∃ ys, Has w [(N, [.int .i64 U, .int .i64 V]), (B, ys), (A, [.int .i64 x0, .int .i64 x1, .int .i64 0, .int .i64 0, .int .i64 0, .int .i64 0, .int .i64 0, .int .i64 0]), (M, [.int .i64 l0, .int .i64 l1, .int .i64 l2, .int .i64 l3, .int .i64 l4, .int .i64 l5, .int .i64 l6, .int .i64 l7])] w')) (by kernel_rfl) (⟨⟨X0.tail.tail.fact (.head _) (i := 0) rfl, X0.tail.tail.fact (.head _) (i := 1) rfl, X0.fact (.head _) (i := 0) rfl, X0.fact (.head _) (i := 1) rfl⟩, _, X0⟩) (fun hHeld => ?_)
  refine wpAnyT_begin [0, 1, 2, 3, 4, 5, 7] (by kernel_rfl) (by kernel_rfl) ?_
  refine wpAnyT_take (oi := ⟨some 31, Op.move (Operand.tmp 10), 3, _, _, none⟩) (v := .int .i64 0) rfl (fun _ _ _ h => h) (by rfl) (by assumption) (fun wS hSw => ?_) ?_
  · (try dsimp only at hSw); go_simp
  simp only [Act.put, List.setIfInBounds_toArray, List.set_cons_zero, List.set_cons_succ]
  refine wpAnyT_take (oi := ⟨some 32, Op.move (Operand.tmp 10), 3, _, _, none⟩) (v := .int .i64 0) rfl (fun _ _ _ h => h) (by rfl) (by assumption) (fun wS hSw => ?_) ?_
  · (try dsimp only at hSw); go_simp
  simp only [Act.put, List.setIfInBounds_toArray, List.set_cons_zero, List.set_cons_succ]
  refine wpAnyT_take (oi := ⟨some 33, Op.indexAddr 39 (Operand.tmp 8) (Operand.tmp 32), 0, _, _, none⟩) (v := .pointer (some ⟨A, 0, none⟩)) rfl (fun _ _ _ h => h) (by rfl) (by assumption) (fun wS hSw => ?_) ?_
  · (try dsimp only at hSw); go_simp
  simp only [Act.put, List.setIfInBounds_toArray, List.set_cons_zero, List.set_cons_succ]
  refine wpAnyT_take (oi := ⟨some 34, Op.load 28 (Operand.tmp 33), 28, _, _, none⟩) (v := .agg #[.int .i64 x0, .int .i64 x1]) rfl (fun _ _ _ h => h) (by rfl) (by assumption) (fun wS hSw => ?_) ?_
  · (try dsimp only at hSw); go_simp
  simp only [Act.put, List.setIfInBounds_toArray, List.set_cons_zero, List.set_cons_succ]
  refine wpAnyT_take (oi := ⟨some 35, Op.move (Operand.tmp 1), 5, _, _, none⟩) (v := .int .u8 n) rfl (fun _ _ _ h => h) (by rfl) (by assumption) (fun wS hSw => ?_) ?_
  · (try dsimp only at hSw); go_simp
  simp only [Act.put, List.setIfInBounds_toArray, List.set_cons_zero, List.set_cons_succ]
  refine wpAnyT_take (oi := ⟨some 36, Op.convert 5 3 (Operand.tmp 35), 3, _, _, none⟩) (v := .int .i64 n) rfl (fun _ _ _ h => h) (by rfl) (by assumption) (fun wS hSw => ?_) ?_
  · (try dsimp only at hSw); go_simp
  simp only [Act.put, List.setIfInBounds_toArray, List.set_cons_zero, List.set_cons_succ]
  refine wpAnyT_take (oi := ⟨some 38, Op.load 28 (Operand.tmp 5), 28, _, _, none⟩) (v := .agg #[.int .i64 U, .int .i64 V]) rfl (fun _ _ _ h => h) (by rfl) (by assumption) (fun wS hSw => ?_) ?_
  · (try dsimp only at hSw); go_simp
  simp only [Act.put, List.setIfInBounds_toArray, List.set_cons_zero, List.set_cons_succ]
  refine wpAnyT_end ?_
  refine wpAnyH_listed #[true, true, true, true, true, true, false, true, false, false, false] (by kernel_rfl) ?_
  refine wpAnyH_ready (rs := [6]) (by kernel_rfl) (by simp) ?_
  refine AllReadyH.cons (o := ⟨some 37, Op.call { callee := Callee.value (Operand.func 20), args := #[Operand.tmp 34, Operand.tmp 36], argTypes := #[28, 3] }, 28, _, _, none⟩) rfl (fun K hK => ?_) AllReadyH.nil
  go_simp
  go_at_call 20
  refine (Has.call X0 (turn_is x0 x1 n r0 r1 Hhr0.out _)).mono ?_
  rintro e W1 ⟨rfl, X1⟩
  go_wp2_with fail
  clear hHeld
  refine hK.out _ _ (⟨⟨X1.tail.tail.fact (.head _) (i := 0) rfl, X1.tail.tail.fact (.head _) (i := 1) rfl, X1.fact (.head _) (i := 0) rfl, X1.fact (.head _) (i := 1) rfl⟩, _, X1⟩) (fun hHeld => ?_)
  clear hK K
  try simp only [List.setIfInBounds_toArray, List.set_cons_zero, List.set_cons_succ]
  refine wpAnyH_listed #[true, true, true, true, true, true, true, true, false, false, false] (by kernel_rfl) ?_
  refine wpAnyH_ready (rs := [8]) (by kernel_rfl) (by simp) ?_
  refine AllReadyH.cons (o := ⟨some 39, Op.call { callee := Callee.value (Operand.func 12), args := #[Operand.tmp 37, Operand.tmp 38], argTypes := #[28, 28] }, 28, _, _, none⟩) rfl (fun K hK => ?_) AllReadyH.nil
  go_simp
  go_at_call 12
  refine (Has.call X1 (add_is r0 r1 U V p0 p1 Hhp0.out Hhp1.out _)).mono ?_
  rintro e W2 ⟨rfl, X2⟩
  go_wp2_with fail
  clear hHeld
  refine hK.out _ _ (⟨⟨X2.tail.tail.fact (.head _) (i := 0) rfl, X2.tail.tail.fact (.head _) (i := 1) rfl, X2.fact (.head _) (i := 0) rfl, X2.fact (.head _) (i := 1) rfl⟩, _, X2⟩) (fun hHeld => ?_)
  clear hK K
  try simp only [List.setIfInBounds_toArray, List.set_cons_zero, List.set_cons_succ]
  refine wpAnyH_listed #[true, true, true, true, true, true, true, true, true, false, false] (by kernel_rfl) ?_
  refine wpAnyT_begin [9] (by kernel_rfl) (by kernel_rfl) ?_
  refine wpAnyT_take (oi := ⟨some 40, Op.indexAddr 39 (Operand.tmp 9) (Operand.tmp 31), 0, _, _, none⟩) (v := .pointer (some ⟨B, 0, none⟩)) rfl (fun _ _ _ h => h) (by rfl) (by assumption) (fun wS hSw => ?_) ?_
  · (try dsimp only at hSw); go_simp
  simp only [Act.put, List.setIfInBounds_toArray, List.set_cons_zero, List.set_cons_succ]
  refine wpAnyT_end ?_
  refine wpAnyH_listed #[true, true, true, true, true, true, true, true, true, true, false] (by kernel_rfl) ?_
  refine wpAnyH_ready (rs := [10]) (by kernel_rfl) (by simp) ?_
  refine AllReadyH.cons (o := ⟨none, Op.store 28 (Operand.tmp 40) (Operand.tmp 39), 0, _, _, none⟩) rfl (fun K hK => ?_) AllReadyH.nil
  have k0 := X2.tail.fact (.head _) (i := 0) rfl
  have k1 := X2.tail.fact (.head _) (i := 1) rfl
  have f0 := X2.tail.free (.head _) (i := 0) rfl
  have f1 := X2.tail.free (.head _) (i := 1) rfl
  go_simp
  have X3 : Has w [(N, [.int .i64 U, .int .i64 V]), (B, [.int .i64 p0, .int .i64 p1, .int .i64 0, .int .i64 0, .int .i64 0, .int .i64 0, .int .i64 0, .int .i64 0]), (A, [.int .i64 x0, .int .i64 x1, .int .i64 0, .int .i64 0, .int .i64 0, .int .i64 0, .int .i64 0, .int .i64 0]), (M, [.int .i64 l0, .int .i64 l1, .int .i64 l2, .int .i64 l3, .int .i64 l4, .int .i64 l5, .int .i64 l6, .int .i64 l7])] ((W2.setCell ⟨B, 0, none⟩ (.int .i64 p0)).setCell ⟨B, 1, none⟩ (.int .i64 p1)) := ((X2.swap.set 0 (by simp) (.int .i64 p0)).set 1 (by simp) (.int .i64 p1)).swap
  generalize (W2.setCell ⟨B, 0, none⟩ (.int .i64 p0)).setCell ⟨B, 1, none⟩ (.int .i64 p1) = y1 at *
  clear k0 k1 f0 f1
  clear hHeld
  refine hK.out _ _ (⟨⟨X3.tail.tail.fact (.head _) (i := 0) rfl, X3.tail.tail.fact (.head _) (i := 1) rfl, X3.fact (.head _) (i := 0) rfl, X3.fact (.head _) (i := 1) rfl⟩, _, X3⟩) (fun hHeld => ?_)
  clear hK K
  try simp only [List.setIfInBounds_toArray, List.set_cons_zero, List.set_cons_succ]
  refine wpAnyH_listed #[true, true, true, true, true, true, true, true, true, true, true] (by kernel_rfl) ?_
  refine wpAnyH_done (by kernel_rfl) ?_ _
  have D1 := X3
  clear X0 X1 X2 X3 E0 E1 E2 hHeld
  go_wp2_with fail
  rw [rounds_succ]
  go_upto_region 7 with fail
  have E0 := D1.push [.int .i64 l2, .int .i64 l3] 28
  generalize y1.alloc (.cells #[.int .i64 l2, .int .i64 l3] 28) = z0 at *
  generalize y1.heap.size = Q1 at *
  obtain ⟨k0, k1⟩ := E0.pt
  go_wp2_with fail
  refine (Has.call E0.tail (small_is _ _ x2 x3 Hhx2.out Hhx3.out _)).mono ?_
  rintro e z1 ⟨rfl, E1⟩
  clear k0 k1
  have k0 := E1.tail.tail.fact (.head _) (i := 2) rfl
  have k1 := E1.tail.tail.fact (.head _) (i := 3) rfl
  have f0 := E1.tail.tail.free (.head _) (i := 2) rfl
  have f1 := E1.tail.tail.free (.head _) (i := 3) rfl
  go_upto_region 8 with fail
  have E2 : Has w [(N, [.int .i64 U, .int .i64 V]), (B, [.int .i64 p0, .int .i64 p1, .int .i64 0, .int .i64 0, .int .i64 0, .int .i64 0, .int .i64 0, .int .i64 0]), (A, [.int .i64 x0, .int .i64 x1, .int .i64 x2, .int .i64 x3, .int .i64 0, .int .i64 0, .int .i64 0, .int .i64 0]), (M, [.int .i64 l0, .int .i64 l1, .int .i64 l2, .int .i64 l3, .int .i64 l4, .int .i64 l5, .int .i64 l6, .int .i64 l7])] ((z1.setCell ⟨A, 2, none⟩ (.int .i64 x2)).setCell ⟨A, 3, none⟩ (.int .i64 x3)) := ((E1.third.set 2 (by simp) (.int .i64 x2)).set 3 (by simp) (.int .i64 x3)).third.third
  generalize (z1.setCell ⟨A, 2, none⟩ (.int .i64 x2)).setCell ⟨A, 3, none⟩ (.int .i64 x3) = z2 at *
  clear k0 k1 f0 f1
  have k0 := E2.tail.tail.fact (.head _) (i := 2) rfl
  clear k0
  have X0 := E2.drew
  refine wp_region_held_drew (S := (fun w' => (w'.cell? ⟨A, 2, none⟩ = some (.int .i64 x2) ∧ w'.cell? ⟨A, 3, none⟩ = some (.int .i64 x3) ∧ w'.cell? ⟨N, 0, none⟩ = some (.int .i64 U) ∧ w'.cell? ⟨N, 1, none⟩ = some (.int .i64 V)) ∧ ∃ ys, Has w [(N, [.int .i64 U, .int .i64 V]), (B, ys), (A, [.int .i64 x0, .int .i64 x1, .int .i64 x2, .int .i64 x3, .int .i64 0, .int .i64 0, .int .i64 0, .int .i64 0]), (M, [.int .i64 l0, .int .i64 l1, .int .i64 l2, .int .i64 l3, .int .i64 l4, .int .i64 l5, .int .i64 l6, .int .i64 l7])] w')) (by kernel_rfl) (⟨⟨X0.tail.tail.fact (.head _) (i := 2) rfl, X0.tail.tail.fact (.head _) (i := 3) rfl, X0.fact (.head _) (i := 0) rfl, X0.fact (.head _) (i := 1) rfl⟩, _, X0⟩) (fun hHeld => ?_)
  refine wpAnyT_begin [0, 1, 2, 3, 4, 5, 7] (by kernel_rfl) (by kernel_rfl) ?_
  refine wpAnyT_take (oi := ⟨some 31, Op.move (Operand.tmp 10), 3, _, _, none⟩) (v := .int .i64 1) rfl (fun _ _ _ h => h) (by rfl) (by assumption) (fun wS hSw => ?_) ?_
  · (try dsimp only at hSw); go_simp
  simp only [Act.put, List.setIfInBounds_toArray, List.set_cons_zero, List.set_cons_succ]
  refine wpAnyT_take (oi := ⟨some 32, Op.move (Operand.tmp 10), 3, _, _, none⟩) (v := .int .i64 1) rfl (fun _ _ _ h => h) (by rfl) (by assumption) (fun wS hSw => ?_) ?_
  · (try dsimp only at hSw); go_simp
  simp only [Act.put, List.setIfInBounds_toArray, List.set_cons_zero, List.set_cons_succ]
  refine wpAnyT_take (oi := ⟨some 33, Op.indexAddr 39 (Operand.tmp 8) (Operand.tmp 32), 0, _, _, none⟩) (v := .pointer (some ⟨A, 2, none⟩)) rfl (fun _ _ _ h => h) (by rfl) (by assumption) (fun wS hSw => ?_) ?_
  · (try dsimp only at hSw); go_simp
  simp only [Act.put, List.setIfInBounds_toArray, List.set_cons_zero, List.set_cons_succ]
  refine wpAnyT_take (oi := ⟨some 34, Op.load 28 (Operand.tmp 33), 28, _, _, none⟩) (v := .agg #[.int .i64 x2, .int .i64 x3]) rfl (fun _ _ _ h => h) (by rfl) (by assumption) (fun wS hSw => ?_) ?_
  · (try dsimp only at hSw); go_simp
  simp only [Act.put, List.setIfInBounds_toArray, List.set_cons_zero, List.set_cons_succ]
  refine wpAnyT_take (oi := ⟨some 35, Op.move (Operand.tmp 1), 5, _, _, none⟩) (v := .int .u8 n) rfl (fun _ _ _ h => h) (by rfl) (by assumption) (fun wS hSw => ?_) ?_
  · (try dsimp only at hSw); go_simp
  simp only [Act.put, List.setIfInBounds_toArray, List.set_cons_zero, List.set_cons_succ]
  refine wpAnyT_take (oi := ⟨some 36, Op.convert 5 3 (Operand.tmp 35), 3, _, _, none⟩) (v := .int .i64 n) rfl (fun _ _ _ h => h) (by rfl) (by assumption) (fun wS hSw => ?_) ?_
  · (try dsimp only at hSw); go_simp
  simp only [Act.put, List.setIfInBounds_toArray, List.set_cons_zero, List.set_cons_succ]
  refine wpAnyT_take (oi := ⟨some 38, Op.load 28 (Operand.tmp 5), 28, _, _, none⟩) (v := .agg #[.int .i64 U, .int .i64 V]) rfl (fun _ _ _ h => h) (by rfl) (by assumption) (fun wS hSw => ?_) ?_
  · (try dsimp only at hSw); go_simp
  simp only [Act.put, List.setIfInBounds_toArray, List.set_cons_zero, List.set_cons_succ]
  refine wpAnyT_end ?_
  refine wpAnyH_listed #[true, true, true, true, true, true, false, true, false, false, false] (by kernel_rfl) ?_
  refine wpAnyH_ready (rs := [6]) (by kernel_rfl) (by simp) ?_
  refine AllReadyH.cons (o := ⟨some 37, Op.call { callee := Callee.value (Operand.func 20), args := #[Operand.tmp 34, Operand.tmp 36], argTypes := #[28, 3] }, 28, _, _, none⟩) rfl (fun K hK => ?_) AllReadyH.nil
  go_simp
  go_at_call 20
  refine (Has.call X0 (turn_is x2 x3 n r2 r3 Hhr1.out _)).mono ?_
  rintro e W1 ⟨rfl, X1⟩
  go_wp2_with fail
  clear hHeld
  refine hK.out _ _ (⟨⟨X1.tail.tail.fact (.head _) (i := 2) rfl, X1.tail.tail.fact (.head _) (i := 3) rfl, X1.fact (.head _) (i := 0) rfl, X1.fact (.head _) (i := 1) rfl⟩, _, X1⟩) (fun hHeld => ?_)
  clear hK K
  try simp only [List.setIfInBounds_toArray, List.set_cons_zero, List.set_cons_succ]
  refine wpAnyH_listed #[true, true, true, true, true, true, true, true, false, false, false] (by kernel_rfl) ?_
  refine wpAnyH_ready (rs := [8]) (by kernel_rfl) (by simp) ?_
  refine AllReadyH.cons (o := ⟨some 39, Op.call { callee := Callee.value (Operand.func 12), args := #[Operand.tmp 37, Operand.tmp 38], argTypes := #[28, 28] }, 28, _, _, none⟩) rfl (fun K hK => ?_) AllReadyH.nil
  go_simp
  go_at_call 12
  refine (Has.call X1 (add_is r2 r3 U V p2 p3 Hhp2.out Hhp3.out _)).mono ?_
  rintro e W2 ⟨rfl, X2⟩
  go_wp2_with fail
  clear hHeld
  refine hK.out _ _ (⟨⟨X2.tail.tail.fact (.head _) (i := 2) rfl, X2.tail.tail.fact (.head _) (i := 3) rfl, X2.fact (.head _) (i := 0) rfl, X2.fact (.head _) (i := 1) rfl⟩, _, X2⟩) (fun hHeld => ?_)
  clear hK K
  try simp only [List.setIfInBounds_toArray, List.set_cons_zero, List.set_cons_succ]
  refine wpAnyH_listed #[true, true, true, true, true, true, true, true, true, false, false] (by kernel_rfl) ?_
  refine wpAnyT_begin [9] (by kernel_rfl) (by kernel_rfl) ?_
  refine wpAnyT_take (oi := ⟨some 40, Op.indexAddr 39 (Operand.tmp 9) (Operand.tmp 31), 0, _, _, none⟩) (v := .pointer (some ⟨B, 2, none⟩)) rfl (fun _ _ _ h => h) (by rfl) (by assumption) (fun wS hSw => ?_) ?_
  · (try dsimp only at hSw); go_simp
  simp only [Act.put, List.setIfInBounds_toArray, List.set_cons_zero, List.set_cons_succ]
  refine wpAnyT_end ?_
  refine wpAnyH_listed #[true, true, true, true, true, true, true, true, true, true, false] (by kernel_rfl) ?_
  refine wpAnyH_ready (rs := [10]) (by kernel_rfl) (by simp) ?_
  refine AllReadyH.cons (o := ⟨none, Op.store 28 (Operand.tmp 40) (Operand.tmp 39), 0, _, _, none⟩) rfl (fun K hK => ?_) AllReadyH.nil
  have k0 := X2.tail.fact (.head _) (i := 2) rfl
  have k1 := X2.tail.fact (.head _) (i := 3) rfl
  have f0 := X2.tail.free (.head _) (i := 2) rfl
  have f1 := X2.tail.free (.head _) (i := 3) rfl
  go_simp
  have X3 : Has w [(N, [.int .i64 U, .int .i64 V]), (B, [.int .i64 p0, .int .i64 p1, .int .i64 p2, .int .i64 p3, .int .i64 0, .int .i64 0, .int .i64 0, .int .i64 0]), (A, [.int .i64 x0, .int .i64 x1, .int .i64 x2, .int .i64 x3, .int .i64 0, .int .i64 0, .int .i64 0, .int .i64 0]), (M, [.int .i64 l0, .int .i64 l1, .int .i64 l2, .int .i64 l3, .int .i64 l4, .int .i64 l5, .int .i64 l6, .int .i64 l7])] ((W2.setCell ⟨B, 2, none⟩ (.int .i64 p2)).setCell ⟨B, 3, none⟩ (.int .i64 p3)) := ((X2.swap.set 2 (by simp) (.int .i64 p2)).set 3 (by simp) (.int .i64 p3)).swap
  generalize (W2.setCell ⟨B, 2, none⟩ (.int .i64 p2)).setCell ⟨B, 3, none⟩ (.int .i64 p3) = y2 at *
  clear k0 k1 f0 f1
  clear hHeld
  refine hK.out _ _ (⟨⟨X3.tail.tail.fact (.head _) (i := 2) rfl, X3.tail.tail.fact (.head _) (i := 3) rfl, X3.fact (.head _) (i := 0) rfl, X3.fact (.head _) (i := 1) rfl⟩, _, X3⟩) (fun hHeld => ?_)
  clear hK K
  try simp only [List.setIfInBounds_toArray, List.set_cons_zero, List.set_cons_succ]
  refine wpAnyH_listed #[true, true, true, true, true, true, true, true, true, true, true] (by kernel_rfl) ?_
  refine wpAnyH_done (by kernel_rfl) ?_ _
  have D2 := X3
  clear X0 X1 X2 X3 E0 E1 E2 hHeld
  go_wp2_with fail
  rw [rounds_succ]
  go_upto_region 7 with fail
  have E0 := D2.push [.int .i64 l4, .int .i64 l5] 28
  generalize y2.alloc (.cells #[.int .i64 l4, .int .i64 l5] 28) = z0 at *
  generalize y2.heap.size = Q2 at *
  obtain ⟨k0, k1⟩ := E0.pt
  go_wp2_with fail
  refine (Has.call E0.tail (small_is _ _ x4 x5 Hhx4.out Hhx5.out _)).mono ?_
  rintro e z1 ⟨rfl, E1⟩
  clear k0 k1
  have k0 := E1.tail.tail.fact (.head _) (i := 4) rfl
  have k1 := E1.tail.tail.fact (.head _) (i := 5) rfl
  have f0 := E1.tail.tail.free (.head _) (i := 4) rfl
  have f1 := E1.tail.tail.free (.head _) (i := 5) rfl
  go_upto_region 8 with fail
  have E2 : Has w [(N, [.int .i64 U, .int .i64 V]), (B, [.int .i64 p0, .int .i64 p1, .int .i64 p2, .int .i64 p3, .int .i64 0, .int .i64 0, .int .i64 0, .int .i64 0]), (A, [.int .i64 x0, .int .i64 x1, .int .i64 x2, .int .i64 x3, .int .i64 x4, .int .i64 x5, .int .i64 0, .int .i64 0]), (M, [.int .i64 l0, .int .i64 l1, .int .i64 l2, .int .i64 l3, .int .i64 l4, .int .i64 l5, .int .i64 l6, .int .i64 l7])] ((z1.setCell ⟨A, 4, none⟩ (.int .i64 x4)).setCell ⟨A, 5, none⟩ (.int .i64 x5)) := ((E1.third.set 4 (by simp) (.int .i64 x4)).set 5 (by simp) (.int .i64 x5)).third.third
  generalize (z1.setCell ⟨A, 4, none⟩ (.int .i64 x4)).setCell ⟨A, 5, none⟩ (.int .i64 x5) = z2 at *
  clear k0 k1 f0 f1
  have k0 := E2.tail.tail.fact (.head _) (i := 4) rfl
  clear k0
  have X0 := E2.drew
  refine wp_region_held_drew (S := (fun w' => (w'.cell? ⟨A, 4, none⟩ = some (.int .i64 x4) ∧ w'.cell? ⟨A, 5, none⟩ = some (.int .i64 x5) ∧ w'.cell? ⟨N, 0, none⟩ = some (.int .i64 U) ∧ w'.cell? ⟨N, 1, none⟩ = some (.int .i64 V)) ∧ ∃ ys, Has w [(N, [.int .i64 U, .int .i64 V]), (B, ys), (A, [.int .i64 x0, .int .i64 x1, .int .i64 x2, .int .i64 x3, .int .i64 x4, .int .i64 x5, .int .i64 0, .int .i64 0]), (M, [.int .i64 l0, .int .i64 l1, .int .i64 l2, .int .i64 l3, .int .i64 l4, .int .i64 l5, .int .i64 l6, .int .i64 l7])] w')) (by kernel_rfl) (⟨⟨X0.tail.tail.fact (.head _) (i := 4) rfl, X0.tail.tail.fact (.head _) (i := 5) rfl, X0.fact (.head _) (i := 0) rfl, X0.fact (.head _) (i := 1) rfl⟩, _, X0⟩) (fun hHeld => ?_)
  refine wpAnyT_begin [0, 1, 2, 3, 4, 5, 7] (by kernel_rfl) (by kernel_rfl) ?_
  refine wpAnyT_take (oi := ⟨some 31, Op.move (Operand.tmp 10), 3, _, _, none⟩) (v := .int .i64 2) rfl (fun _ _ _ h => h) (by rfl) (by assumption) (fun wS hSw => ?_) ?_
  · (try dsimp only at hSw); go_simp
  simp only [Act.put, List.setIfInBounds_toArray, List.set_cons_zero, List.set_cons_succ]
  refine wpAnyT_take (oi := ⟨some 32, Op.move (Operand.tmp 10), 3, _, _, none⟩) (v := .int .i64 2) rfl (fun _ _ _ h => h) (by rfl) (by assumption) (fun wS hSw => ?_) ?_
  · (try dsimp only at hSw); go_simp
  simp only [Act.put, List.setIfInBounds_toArray, List.set_cons_zero, List.set_cons_succ]
  refine wpAnyT_take (oi := ⟨some 33, Op.indexAddr 39 (Operand.tmp 8) (Operand.tmp 32), 0, _, _, none⟩) (v := .pointer (some ⟨A, 4, none⟩)) rfl (fun _ _ _ h => h) (by rfl) (by assumption) (fun wS hSw => ?_) ?_
  · (try dsimp only at hSw); go_simp
  simp only [Act.put, List.setIfInBounds_toArray, List.set_cons_zero, List.set_cons_succ]
  refine wpAnyT_take (oi := ⟨some 34, Op.load 28 (Operand.tmp 33), 28, _, _, none⟩) (v := .agg #[.int .i64 x4, .int .i64 x5]) rfl (fun _ _ _ h => h) (by rfl) (by assumption) (fun wS hSw => ?_) ?_
  · (try dsimp only at hSw); go_simp
  simp only [Act.put, List.setIfInBounds_toArray, List.set_cons_zero, List.set_cons_succ]
  refine wpAnyT_take (oi := ⟨some 35, Op.move (Operand.tmp 1), 5, _, _, none⟩) (v := .int .u8 n) rfl (fun _ _ _ h => h) (by rfl) (by assumption) (fun wS hSw => ?_) ?_
  · (try dsimp only at hSw); go_simp
  simp only [Act.put, List.setIfInBounds_toArray, List.set_cons_zero, List.set_cons_succ]
  refine wpAnyT_take (oi := ⟨some 36, Op.convert 5 3 (Operand.tmp 35), 3, _, _, none⟩) (v := .int .i64 n) rfl (fun _ _ _ h => h) (by rfl) (by assumption) (fun wS hSw => ?_) ?_
  · (try dsimp only at hSw); go_simp
  simp only [Act.put, List.setIfInBounds_toArray, List.set_cons_zero, List.set_cons_succ]
  refine wpAnyT_take (oi := ⟨some 38, Op.load 28 (Operand.tmp 5), 28, _, _, none⟩) (v := .agg #[.int .i64 U, .int .i64 V]) rfl (fun _ _ _ h => h) (by rfl) (by assumption) (fun wS hSw => ?_) ?_
  · (try dsimp only at hSw); go_simp
  simp only [Act.put, List.setIfInBounds_toArray, List.set_cons_zero, List.set_cons_succ]
  refine wpAnyT_end ?_
  refine wpAnyH_listed #[true, true, true, true, true, true, false, true, false, false, false] (by kernel_rfl) ?_
  refine wpAnyH_ready (rs := [6]) (by kernel_rfl) (by simp) ?_
  refine AllReadyH.cons (o := ⟨some 37, Op.call { callee := Callee.value (Operand.func 20), args := #[Operand.tmp 34, Operand.tmp 36], argTypes := #[28, 3] }, 28, _, _, none⟩) rfl (fun K hK => ?_) AllReadyH.nil
  go_simp
  go_at_call 20
  refine (Has.call X0 (turn_is x4 x5 n r4 r5 Hhr2.out _)).mono ?_
  rintro e W1 ⟨rfl, X1⟩
  go_wp2_with fail
  clear hHeld
  refine hK.out _ _ (⟨⟨X1.tail.tail.fact (.head _) (i := 4) rfl, X1.tail.tail.fact (.head _) (i := 5) rfl, X1.fact (.head _) (i := 0) rfl, X1.fact (.head _) (i := 1) rfl⟩, _, X1⟩) (fun hHeld => ?_)
  clear hK K
  try simp only [List.setIfInBounds_toArray, List.set_cons_zero, List.set_cons_succ]
  refine wpAnyH_listed #[true, true, true, true, true, true, true, true, false, false, false] (by kernel_rfl) ?_
  refine wpAnyH_ready (rs := [8]) (by kernel_rfl) (by simp) ?_
  refine AllReadyH.cons (o := ⟨some 39, Op.call { callee := Callee.value (Operand.func 12), args := #[Operand.tmp 37, Operand.tmp 38], argTypes := #[28, 28] }, 28, _, _, none⟩) rfl (fun K hK => ?_) AllReadyH.nil
  go_simp
  go_at_call 12
  refine (Has.call X1 (add_is r4 r5 U V p4 p5 Hhp4.out Hhp5.out _)).mono ?_
  rintro e W2 ⟨rfl, X2⟩
  go_wp2_with fail
  clear hHeld
  refine hK.out _ _ (⟨⟨X2.tail.tail.fact (.head _) (i := 4) rfl, X2.tail.tail.fact (.head _) (i := 5) rfl, X2.fact (.head _) (i := 0) rfl, X2.fact (.head _) (i := 1) rfl⟩, _, X2⟩) (fun hHeld => ?_)
  clear hK K
  try simp only [List.setIfInBounds_toArray, List.set_cons_zero, List.set_cons_succ]
  refine wpAnyH_listed #[true, true, true, true, true, true, true, true, true, false, false] (by kernel_rfl) ?_
  refine wpAnyT_begin [9] (by kernel_rfl) (by kernel_rfl) ?_
  refine wpAnyT_take (oi := ⟨some 40, Op.indexAddr 39 (Operand.tmp 9) (Operand.tmp 31), 0, _, _, none⟩) (v := .pointer (some ⟨B, 4, none⟩)) rfl (fun _ _ _ h => h) (by rfl) (by assumption) (fun wS hSw => ?_) ?_
  · (try dsimp only at hSw); go_simp
  simp only [Act.put, List.setIfInBounds_toArray, List.set_cons_zero, List.set_cons_succ]
  refine wpAnyT_end ?_
  refine wpAnyH_listed #[true, true, true, true, true, true, true, true, true, true, false] (by kernel_rfl) ?_
  refine wpAnyH_ready (rs := [10]) (by kernel_rfl) (by simp) ?_
  refine AllReadyH.cons (o := ⟨none, Op.store 28 (Operand.tmp 40) (Operand.tmp 39), 0, _, _, none⟩) rfl (fun K hK => ?_) AllReadyH.nil
  have k0 := X2.tail.fact (.head _) (i := 4) rfl
  have k1 := X2.tail.fact (.head _) (i := 5) rfl
  have f0 := X2.tail.free (.head _) (i := 4) rfl
  have f1 := X2.tail.free (.head _) (i := 5) rfl
  go_simp
  have X3 : Has w [(N, [.int .i64 U, .int .i64 V]), (B, [.int .i64 p0, .int .i64 p1, .int .i64 p2, .int .i64 p3, .int .i64 p4, .int .i64 p5, .int .i64 0, .int .i64 0]), (A, [.int .i64 x0, .int .i64 x1, .int .i64 x2, .int .i64 x3, .int .i64 x4, .int .i64 x5, .int .i64 0, .int .i64 0]), (M, [.int .i64 l0, .int .i64 l1, .int .i64 l2, .int .i64 l3, .int .i64 l4, .int .i64 l5, .int .i64 l6, .int .i64 l7])] ((W2.setCell ⟨B, 4, none⟩ (.int .i64 p4)).setCell ⟨B, 5, none⟩ (.int .i64 p5)) := ((X2.swap.set 4 (by simp) (.int .i64 p4)).set 5 (by simp) (.int .i64 p5)).swap
  generalize (W2.setCell ⟨B, 4, none⟩ (.int .i64 p4)).setCell ⟨B, 5, none⟩ (.int .i64 p5) = y3 at *
  clear k0 k1 f0 f1
  clear hHeld
  refine hK.out _ _ (⟨⟨X3.tail.tail.fact (.head _) (i := 4) rfl, X3.tail.tail.fact (.head _) (i := 5) rfl, X3.fact (.head _) (i := 0) rfl, X3.fact (.head _) (i := 1) rfl⟩, _, X3⟩) (fun hHeld => ?_)
  clear hK K
  try simp only [List.setIfInBounds_toArray, List.set_cons_zero, List.set_cons_succ]
  refine wpAnyH_listed #[true, true, true, true, true, true, true, true, true, true, true] (by kernel_rfl) ?_
  refine wpAnyH_done (by kernel_rfl) ?_ _
  have D3 := X3
  clear X0 X1 X2 X3 E0 E1 E2 hHeld
  go_wp2_with fail
  rw [rounds_succ]
  go_upto_region 7 with fail
  have E0 := D3.push [.int .i64 l6, .int .i64 l7] 28
  generalize y3.alloc (.cells #[.int .i64 l6, .int .i64 l7] 28) = z0 at *
  generalize y3.heap.size = Q3 at *
  obtain ⟨k0, k1⟩ := E0.pt
  go_wp2_with fail
  refine (Has.call E0.tail (small_is _ _ x6 x7 Hhx6.out Hhx7.out _)).mono ?_
  rintro e z1 ⟨rfl, E1⟩
  clear k0 k1
  have k0 := E1.tail.tail.fact (.head _) (i := 6) rfl
  have k1 := E1.tail.tail.fact (.head _) (i := 7) rfl
  have f0 := E1.tail.tail.free (.head _) (i := 6) rfl
  have f1 := E1.tail.tail.free (.head _) (i := 7) rfl
  go_upto_region 8 with fail
  have E2 : Has w [(N, [.int .i64 U, .int .i64 V]), (B, [.int .i64 p0, .int .i64 p1, .int .i64 p2, .int .i64 p3, .int .i64 p4, .int .i64 p5, .int .i64 0, .int .i64 0]), (A, [.int .i64 x0, .int .i64 x1, .int .i64 x2, .int .i64 x3, .int .i64 x4, .int .i64 x5, .int .i64 x6, .int .i64 x7]), (M, [.int .i64 l0, .int .i64 l1, .int .i64 l2, .int .i64 l3, .int .i64 l4, .int .i64 l5, .int .i64 l6, .int .i64 l7])] ((z1.setCell ⟨A, 6, none⟩ (.int .i64 x6)).setCell ⟨A, 7, none⟩ (.int .i64 x7)) := ((E1.third.set 6 (by simp) (.int .i64 x6)).set 7 (by simp) (.int .i64 x7)).third.third
  generalize (z1.setCell ⟨A, 6, none⟩ (.int .i64 x6)).setCell ⟨A, 7, none⟩ (.int .i64 x7) = z2 at *
  clear k0 k1 f0 f1
  have k0 := E2.tail.tail.fact (.head _) (i := 6) rfl
  clear k0
  have X0 := E2.drew
  refine wp_region_held_drew (S := (fun w' => (w'.cell? ⟨A, 6, none⟩ = some (.int .i64 x6) ∧ w'.cell? ⟨A, 7, none⟩ = some (.int .i64 x7) ∧ w'.cell? ⟨N, 0, none⟩ = some (.int .i64 U) ∧ w'.cell? ⟨N, 1, none⟩ = some (.int .i64 V)) ∧ ∃ ys, Has w [(N, [.int .i64 U, .int .i64 V]), (B, ys), (A, [.int .i64 x0, .int .i64 x1, .int .i64 x2, .int .i64 x3, .int .i64 x4, .int .i64 x5, .int .i64 x6, .int .i64 x7]), (M, [.int .i64 l0, .int .i64 l1, .int .i64 l2, .int .i64 l3, .int .i64 l4, .int .i64 l5, .int .i64 l6, .int .i64 l7])] w')) (by kernel_rfl) (⟨⟨X0.tail.tail.fact (.head _) (i := 6) rfl, X0.tail.tail.fact (.head _) (i := 7) rfl, X0.fact (.head _) (i := 0) rfl, X0.fact (.head _) (i := 1) rfl⟩, _, X0⟩) (fun hHeld => ?_)
  refine wpAnyT_begin [0, 1, 2, 3, 4, 5, 7] (by kernel_rfl) (by kernel_rfl) ?_
  refine wpAnyT_take (oi := ⟨some 31, Op.move (Operand.tmp 10), 3, _, _, none⟩) (v := .int .i64 3) rfl (fun _ _ _ h => h) (by rfl) (by assumption) (fun wS hSw => ?_) ?_
  · (try dsimp only at hSw); go_simp
  simp only [Act.put, List.setIfInBounds_toArray, List.set_cons_zero, List.set_cons_succ]
  refine wpAnyT_take (oi := ⟨some 32, Op.move (Operand.tmp 10), 3, _, _, none⟩) (v := .int .i64 3) rfl (fun _ _ _ h => h) (by rfl) (by assumption) (fun wS hSw => ?_) ?_
  · (try dsimp only at hSw); go_simp
  simp only [Act.put, List.setIfInBounds_toArray, List.set_cons_zero, List.set_cons_succ]
  refine wpAnyT_take (oi := ⟨some 33, Op.indexAddr 39 (Operand.tmp 8) (Operand.tmp 32), 0, _, _, none⟩) (v := .pointer (some ⟨A, 6, none⟩)) rfl (fun _ _ _ h => h) (by rfl) (by assumption) (fun wS hSw => ?_) ?_
  · (try dsimp only at hSw); go_simp
  simp only [Act.put, List.setIfInBounds_toArray, List.set_cons_zero, List.set_cons_succ]
  refine wpAnyT_take (oi := ⟨some 34, Op.load 28 (Operand.tmp 33), 28, _, _, none⟩) (v := .agg #[.int .i64 x6, .int .i64 x7]) rfl (fun _ _ _ h => h) (by rfl) (by assumption) (fun wS hSw => ?_) ?_
  · (try dsimp only at hSw); go_simp
  simp only [Act.put, List.setIfInBounds_toArray, List.set_cons_zero, List.set_cons_succ]
  refine wpAnyT_take (oi := ⟨some 35, Op.move (Operand.tmp 1), 5, _, _, none⟩) (v := .int .u8 n) rfl (fun _ _ _ h => h) (by rfl) (by assumption) (fun wS hSw => ?_) ?_
  · (try dsimp only at hSw); go_simp
  simp only [Act.put, List.setIfInBounds_toArray, List.set_cons_zero, List.set_cons_succ]
  refine wpAnyT_take (oi := ⟨some 36, Op.convert 5 3 (Operand.tmp 35), 3, _, _, none⟩) (v := .int .i64 n) rfl (fun _ _ _ h => h) (by rfl) (by assumption) (fun wS hSw => ?_) ?_
  · (try dsimp only at hSw); go_simp
  simp only [Act.put, List.setIfInBounds_toArray, List.set_cons_zero, List.set_cons_succ]
  refine wpAnyT_take (oi := ⟨some 38, Op.load 28 (Operand.tmp 5), 28, _, _, none⟩) (v := .agg #[.int .i64 U, .int .i64 V]) rfl (fun _ _ _ h => h) (by rfl) (by assumption) (fun wS hSw => ?_) ?_
  · (try dsimp only at hSw); go_simp
  simp only [Act.put, List.setIfInBounds_toArray, List.set_cons_zero, List.set_cons_succ]
  refine wpAnyT_end ?_
  refine wpAnyH_listed #[true, true, true, true, true, true, false, true, false, false, false] (by kernel_rfl) ?_
  refine wpAnyH_ready (rs := [6]) (by kernel_rfl) (by simp) ?_
  refine AllReadyH.cons (o := ⟨some 37, Op.call { callee := Callee.value (Operand.func 20), args := #[Operand.tmp 34, Operand.tmp 36], argTypes := #[28, 3] }, 28, _, _, none⟩) rfl (fun K hK => ?_) AllReadyH.nil
  go_simp
  go_at_call 20
  refine (Has.call X0 (turn_is x6 x7 n r6 r7 Hhr3.out _)).mono ?_
  rintro e W1 ⟨rfl, X1⟩
  go_wp2_with fail
  clear hHeld
  refine hK.out _ _ (⟨⟨X1.tail.tail.fact (.head _) (i := 6) rfl, X1.tail.tail.fact (.head _) (i := 7) rfl, X1.fact (.head _) (i := 0) rfl, X1.fact (.head _) (i := 1) rfl⟩, _, X1⟩) (fun hHeld => ?_)
  clear hK K
  try simp only [List.setIfInBounds_toArray, List.set_cons_zero, List.set_cons_succ]
  refine wpAnyH_listed #[true, true, true, true, true, true, true, true, false, false, false] (by kernel_rfl) ?_
  refine wpAnyH_ready (rs := [8]) (by kernel_rfl) (by simp) ?_
  refine AllReadyH.cons (o := ⟨some 39, Op.call { callee := Callee.value (Operand.func 12), args := #[Operand.tmp 37, Operand.tmp 38], argTypes := #[28, 28] }, 28, _, _, none⟩) rfl (fun K hK => ?_) AllReadyH.nil
  go_simp
  go_at_call 12
  refine (Has.call X1 (add_is r6 r7 U V p6 p7 Hhp6.out Hhp7.out _)).mono ?_
  rintro e W2 ⟨rfl, X2⟩
  go_wp2_with fail
  clear hHeld
  refine hK.out _ _ (⟨⟨X2.tail.tail.fact (.head _) (i := 6) rfl, X2.tail.tail.fact (.head _) (i := 7) rfl, X2.fact (.head _) (i := 0) rfl, X2.fact (.head _) (i := 1) rfl⟩, _, X2⟩) (fun hHeld => ?_)
  clear hK K
  try simp only [List.setIfInBounds_toArray, List.set_cons_zero, List.set_cons_succ]
  refine wpAnyH_listed #[true, true, true, true, true, true, true, true, true, false, false] (by kernel_rfl) ?_
  refine wpAnyT_begin [9] (by kernel_rfl) (by kernel_rfl) ?_
  refine wpAnyT_take (oi := ⟨some 40, Op.indexAddr 39 (Operand.tmp 9) (Operand.tmp 31), 0, _, _, none⟩) (v := .pointer (some ⟨B, 6, none⟩)) rfl (fun _ _ _ h => h) (by rfl) (by assumption) (fun wS hSw => ?_) ?_
  · (try dsimp only at hSw); go_simp
  simp only [Act.put, List.setIfInBounds_toArray, List.set_cons_zero, List.set_cons_succ]
  refine wpAnyT_end ?_
  refine wpAnyH_listed #[true, true, true, true, true, true, true, true, true, true, false] (by kernel_rfl) ?_
  refine wpAnyH_ready (rs := [10]) (by kernel_rfl) (by simp) ?_
  refine AllReadyH.cons (o := ⟨none, Op.store 28 (Operand.tmp 40) (Operand.tmp 39), 0, _, _, none⟩) rfl (fun K hK => ?_) AllReadyH.nil
  have k0 := X2.tail.fact (.head _) (i := 6) rfl
  have k1 := X2.tail.fact (.head _) (i := 7) rfl
  have f0 := X2.tail.free (.head _) (i := 6) rfl
  have f1 := X2.tail.free (.head _) (i := 7) rfl
  go_simp
  have X3 : Has w [(N, [.int .i64 U, .int .i64 V]), (B, [.int .i64 p0, .int .i64 p1, .int .i64 p2, .int .i64 p3, .int .i64 p4, .int .i64 p5, .int .i64 p6, .int .i64 p7]), (A, [.int .i64 x0, .int .i64 x1, .int .i64 x2, .int .i64 x3, .int .i64 x4, .int .i64 x5, .int .i64 x6, .int .i64 x7]), (M, [.int .i64 l0, .int .i64 l1, .int .i64 l2, .int .i64 l3, .int .i64 l4, .int .i64 l5, .int .i64 l6, .int .i64 l7])] ((W2.setCell ⟨B, 6, none⟩ (.int .i64 p6)).setCell ⟨B, 7, none⟩ (.int .i64 p7)) := ((X2.swap.set 6 (by simp) (.int .i64 p6)).set 7 (by simp) (.int .i64 p7)).swap
  generalize (W2.setCell ⟨B, 6, none⟩ (.int .i64 p6)).setCell ⟨B, 7, none⟩ (.int .i64 p7) = y4 at *
  clear k0 k1 f0 f1
  clear hHeld
  refine hK.out _ _ (⟨⟨X3.tail.tail.fact (.head _) (i := 6) rfl, X3.tail.tail.fact (.head _) (i := 7) rfl, X3.fact (.head _) (i := 0) rfl, X3.fact (.head _) (i := 1) rfl⟩, _, X3⟩) (fun hHeld => ?_)
  clear hK K
  try simp only [List.setIfInBounds_toArray, List.set_cons_zero, List.set_cons_succ]
  refine wpAnyH_listed #[true, true, true, true, true, true, true, true, true, true, true] (by kernel_rfl) ?_
  refine wpAnyH_done (by kernel_rfl) ?_ _
  have D4 := X3
  clear X0 X1 X2 X3 E0 E1 E2 hHeld
  go_wp2_with fail
  rw [rounds_succ]
  go_upto_region 10 with fail
  have G0 : Has w [(A, [.int .i64 x0, .int .i64 x1, .int .i64 x2, .int .i64 x3, .int .i64 x4, .int .i64 x5, .int .i64 x6, .int .i64 x7]), (B, [.int .i64 p0, .int .i64 p1, .int .i64 p2, .int .i64 p3, .int .i64 p4, .int .i64 p5, .int .i64 p6, .int .i64 p7])] y4 := D4.tail.third.tail.swap
  clear D0 D1 D2 D3 D4
  have X0 := G0.drew
  refine wp_region_held_drew (S := (fun w' => (w'.cell? ⟨A, 0, none⟩ = some (.int .i64 x0) ∧ w'.cell? ⟨A, 1, none⟩ = some (.int .i64 x1) ∧ w'.cell? ⟨A, 2, none⟩ = some (.int .i64 x2) ∧ w'.cell? ⟨A, 3, none⟩ = some (.int .i64 x3) ∧ w'.cell? ⟨A, 4, none⟩ = some (.int .i64 x4) ∧ w'.cell? ⟨A, 5, none⟩ = some (.int .i64 x5) ∧ w'.cell? ⟨A, 6, none⟩ = some (.int .i64 x6) ∧ w'.cell? ⟨A, 7, none⟩ = some (.int .i64 x7) ∧ w'.cell? ⟨B, 0, none⟩ = some (.int .i64 p0) ∧ w'.cell? ⟨B, 1, none⟩ = some (.int .i64 p1) ∧ w'.cell? ⟨B, 2, none⟩ = some (.int .i64 p2) ∧ w'.cell? ⟨B, 3, none⟩ = some (.int .i64 p3) ∧ w'.cell? ⟨B, 4, none⟩ = some (.int .i64 p4) ∧ w'.cell? ⟨B, 5, none⟩ = some (.int .i64 p5) ∧ w'.cell? ⟨B, 6, none⟩ = some (.int .i64 p6) ∧ w'.cell? ⟨B, 7, none⟩ = some (.int .i64 p7)) ∧ Has w [(A, [.int .i64 x0, .int .i64 x1, .int .i64 x2, .int .i64 x3, .int .i64 x4, .int .i64 x5, .int .i64 x6, .int .i64 x7]), (B, [.int .i64 p0, .int .i64 p1, .int .i64 p2, .int .i64 p3, .int .i64 p4, .int .i64 p5, .int .i64 p6, .int .i64 p7])] w')) (by kernel_rfl) (X0.sixteen) (fun hHeld => ?_)
  refine wpAnyT_begin [0, 1, 2, 3, 4, 5, 7, 8, 9, 10, 11, 12, 13, 14] (by kernel_rfl) (by kernel_rfl) ?_
  refine wpAnyT_take (oi := ⟨some 42, Op.indexAddr 39 (Operand.tmp 8) (Operand.const (Value.int IntKind.i64 0)), 0, _, _, none⟩) (v := .pointer (some ⟨A, 0, none⟩)) rfl (fun _ _ _ h => h) (by rfl) (by assumption) (fun wS hSw => ?_) ?_
  · (try dsimp only at hSw); go_simp
  simp only [Act.put, List.setIfInBounds_toArray, List.set_cons_zero, List.set_cons_succ]
  refine wpAnyT_take (oi := ⟨some 43, Op.load 28 (Operand.tmp 42), 28, _, _, none⟩) (v := .agg #[.int .i64 x0, .int .i64 x1]) rfl (fun _ _ _ h => h) (by rfl) (by assumption) (fun wS hSw => ?_) ?_
  · (try dsimp only at hSw); go_simp
  simp only [Act.put, List.setIfInBounds_toArray, List.set_cons_zero, List.set_cons_succ]
  refine wpAnyT_take (oi := ⟨some 44, Op.indexAddr 39 (Operand.tmp 8) (Operand.const (Value.int IntKind.i64 1)), 0, _, _, none⟩) (v := .pointer (some ⟨A, 2, none⟩)) rfl (fun _ _ _ h => h) (by rfl) (by assumption) (fun wS hSw => ?_) ?_
  · (try dsimp only at hSw); go_simp
  simp only [Act.put, List.setIfInBounds_toArray, List.set_cons_zero, List.set_cons_succ]
  refine wpAnyT_take (oi := ⟨some 45, Op.load 28 (Operand.tmp 44), 28, _, _, none⟩) (v := .agg #[.int .i64 x2, .int .i64 x3]) rfl (fun _ _ _ h => h) (by rfl) (by assumption) (fun wS hSw => ?_) ?_
  · (try dsimp only at hSw); go_simp
  simp only [Act.put, List.setIfInBounds_toArray, List.set_cons_zero, List.set_cons_succ]
  refine wpAnyT_take (oi := ⟨some 46, Op.indexAddr 39 (Operand.tmp 8) (Operand.const (Value.int IntKind.i64 2)), 0, _, _, none⟩) (v := .pointer (some ⟨A, 4, none⟩)) rfl (fun _ _ _ h => h) (by rfl) (by assumption) (fun wS hSw => ?_) ?_
  · (try dsimp only at hSw); go_simp
  simp only [Act.put, List.setIfInBounds_toArray, List.set_cons_zero, List.set_cons_succ]
  refine wpAnyT_take (oi := ⟨some 47, Op.load 28 (Operand.tmp 46), 28, _, _, none⟩) (v := .agg #[.int .i64 x4, .int .i64 x5]) rfl (fun _ _ _ h => h) (by rfl) (by assumption) (fun wS hSw => ?_) ?_
  · (try dsimp only at hSw); go_simp
  simp only [Act.put, List.setIfInBounds_toArray, List.set_cons_zero, List.set_cons_succ]
  refine wpAnyT_take (oi := ⟨some 49, Op.indexAddr 39 (Operand.tmp 8) (Operand.const (Value.int IntKind.i64 0)), 0, _, _, none⟩) (v := .pointer (some ⟨A, 0, none⟩)) rfl (fun _ _ _ h => h) (by rfl) (by assumption) (fun wS hSw => ?_) ?_
  · (try dsimp only at hSw); go_simp
  simp only [Act.put, List.setIfInBounds_toArray, List.set_cons_zero, List.set_cons_succ]
  refine wpAnyT_take (oi := ⟨some 50, Op.load 28 (Operand.tmp 49), 28, _, _, none⟩) (v := .agg #[.int .i64 x0, .int .i64 x1]) rfl (fun _ _ _ h => h) (by rfl) (by assumption) (fun wS hSw => ?_) ?_
  · (try dsimp only at hSw); go_simp
  simp only [Act.put, List.setIfInBounds_toArray, List.set_cons_zero, List.set_cons_succ]
  refine wpAnyT_take (oi := ⟨some 51, Op.indexAddr 39 (Operand.tmp 8) (Operand.const (Value.int IntKind.i64 1)), 0, _, _, none⟩) (v := .pointer (some ⟨A, 2, none⟩)) rfl (fun _ _ _ h => h) (by rfl) (by assumption) (fun wS hSw => ?_) ?_
  · (try dsimp only at hSw); go_simp
  simp only [Act.put, List.setIfInBounds_toArray, List.set_cons_zero, List.set_cons_succ]
  refine wpAnyT_take (oi := ⟨some 52, Op.load 28 (Operand.tmp 51), 28, _, _, none⟩) (v := .agg #[.int .i64 x2, .int .i64 x3]) rfl (fun _ _ _ h => h) (by rfl) (by assumption) (fun wS hSw => ?_) ?_
  · (try dsimp only at hSw); go_simp
  simp only [Act.put, List.setIfInBounds_toArray, List.set_cons_zero, List.set_cons_succ]
  refine wpAnyT_take (oi := ⟨some 53, Op.indexAddr 39 (Operand.tmp 8) (Operand.const (Value.int IntKind.i64 2)), 0, _, _, none⟩) (v := .pointer (some ⟨A, 4, none⟩)) rfl (fun _ _ _ h => h) (by rfl) (by assumption) (fun wS hSw => ?_) ?_
  · (try dsimp only at hSw); go_simp
  simp only [Act.put, List.setIfInBounds_toArray, List.set_cons_zero, List.set_cons_succ]
  refine wpAnyT_take (oi := ⟨some 54, Op.load 28 (Operand.tmp 53), 28, _, _, none⟩) (v := .agg #[.int .i64 x4, .int .i64 x5]) rfl (fun _ _ _ h => h) (by rfl) (by assumption) (fun wS hSw => ?_) ?_
  · (try dsimp only at hSw); go_simp
  simp only [Act.put, List.setIfInBounds_toArray, List.set_cons_zero, List.set_cons_succ]
  refine wpAnyT_take (oi := ⟨some 55, Op.indexAddr 39 (Operand.tmp 8) (Operand.const (Value.int IntKind.i64 3)), 0, _, _, none⟩) (v := .pointer (some ⟨A, 6, none⟩)) rfl (fun _ _ _ h => h) (by rfl) (by assumption) (fun wS hSw => ?_) ?_
  · (try dsimp only at hSw); go_simp
  simp only [Act.put, List.setIfInBounds_toArray, List.set_cons_zero, List.set_cons_succ]
  refine wpAnyT_take (oi := ⟨some 56, Op.load 28 (Operand.tmp 55), 28, _, _, none⟩) (v := .agg #[.int .i64 x6, .int .i64 x7]) rfl (fun _ _ _ h => h) (by rfl) (by assumption) (fun wS hSw => ?_) ?_
  · (try dsimp only at hSw); go_simp
  simp only [Act.put, List.setIfInBounds_toArray, List.set_cons_zero, List.set_cons_succ]
  refine wpAnyT_end ?_
  refine wpAnyH_listed #[true, true, true, true, true, true, false, true, true, true, true, true, true, true, true, false, false, false] (by kernel_rfl) ?_
  refine wpAnyH_ready (rs := [6]) (by kernel_rfl) (by simp) ?_
  refine AllReadyH.cons (o := ⟨some 48, Op.call { callee := Callee.value (Operand.func 30), args := #[Operand.tmp 43, Operand.tmp 45, Operand.tmp 47], argTypes := #[28, 28, 28] }, 3, _, _, none⟩) rfl (fun K hK => ?_) AllReadyH.nil
  go_simp
  go_at_call 30
  refine (Has.call X0 (side_is x0 x1 x2 x3 x4 x5 sd Hhsd.out _)).mono ?_
  rintro e W1 ⟨rfl, X1⟩
  go_wp2_with fail
  clear hHeld
  refine hK.out _ _ (X1.sixteen) (fun hHeld => ?_)
  clear hK K
  try simp only [List.setIfInBounds_toArray, List.set_cons_zero, List.set_cons_succ]
  refine wpAnyH_listed #[true, true, true, true, true, true, true, true, true, true, true, true, true, true, true, false, false, false] (by kernel_rfl) ?_
  refine wpAnyH_ready (rs := [15]) (by kernel_rfl) (by simp) ?_
  refine AllReadyH.cons (o := ⟨some 57, Op.call { callee := Callee.value (Operand.func 34), args := #[Operand.tmp 50, Operand.tmp 52, Operand.tmp 54, Operand.tmp 56], argTypes := #[28, 28, 28, 28] }, 3, _, _, none⟩) rfl (fun K hK => ?_) AllReadyH.nil
  go_simp
  go_at_call 34
  refine (Has.call X1 (meet_is x0 x1 x2 x3 x4 x5 x6 x7 me Hhme.out _)).mono ?_
  rintro e W2 ⟨rfl, X2⟩
  go_wp2_with fail
  clear hHeld
  refine hK.out _ _ (X2.sixteen) (fun hHeld => ?_)
  clear hK K
  try simp only [List.setIfInBounds_toArray, List.set_cons_zero, List.set_cons_succ]
  refine wpAnyH_listed #[true, true, true, true, true, true, true, true, true, true, true, true, true, true, true, true, false, false] (by kernel_rfl) ?_
  refine wpAnyT_begin [16, 17] (by kernel_rfl) (by kernel_rfl) ?_
  refine wpAnyT_take (oi := ⟨some 12, Op.assign (Operand.tmp 48), 3, _, _, none⟩) (v := .int .i64 sd) rfl (fun _ _ _ h => h) (by rfl) (by assumption) (fun wS hSw => ?_) ?_
  · (try dsimp only at hSw); go_simp
  simp only [Act.put, List.setIfInBounds_toArray, List.set_cons_zero, List.set_cons_succ]
  refine wpAnyT_take (oi := ⟨some 13, Op.assign (Operand.tmp 57), 3, _, _, none⟩) (v := .int .i64 me) rfl (fun _ _ _ h => h) (by rfl) (by assumption) (fun wS hSw => ?_) ?_
  · (try dsimp only at hSw); go_simp
  simp only [Act.put, List.setIfInBounds_toArray, List.set_cons_zero, List.set_cons_succ]
  refine wpAnyT_end ?_
  refine wpAnyH_listed #[true, true, true, true, true, true, true, true, true, true, true, true, true, true, true, true, true, true] (by kernel_rfl) ?_
  refine wpAnyH_done (by kernel_rfl) ?_ _
  clear X0 X1 hHeld
  go_upto_region 11 with fail
  have Y0 := X2.drew
  refine wp_region_held_drew (S := (fun w' => (w'.cell? ⟨A, 0, none⟩ = some (.int .i64 x0) ∧ w'.cell? ⟨A, 1, none⟩ = some (.int .i64 x1) ∧ w'.cell? ⟨A, 2, none⟩ = some (.int .i64 x2) ∧ w'.cell? ⟨A, 3, none⟩ = some (.int .i64 x3) ∧ w'.cell? ⟨A, 4, none⟩ = some (.int .i64 x4) ∧ w'.cell? ⟨A, 5, none⟩ = some (.int .i64 x5) ∧ w'.cell? ⟨A, 6, none⟩ = some (.int .i64 x6) ∧ w'.cell? ⟨A, 7, none⟩ = some (.int .i64 x7) ∧ w'.cell? ⟨B, 0, none⟩ = some (.int .i64 p0) ∧ w'.cell? ⟨B, 1, none⟩ = some (.int .i64 p1) ∧ w'.cell? ⟨B, 2, none⟩ = some (.int .i64 p2) ∧ w'.cell? ⟨B, 3, none⟩ = some (.int .i64 p3) ∧ w'.cell? ⟨B, 4, none⟩ = some (.int .i64 p4) ∧ w'.cell? ⟨B, 5, none⟩ = some (.int .i64 p5) ∧ w'.cell? ⟨B, 6, none⟩ = some (.int .i64 p6) ∧ w'.cell? ⟨B, 7, none⟩ = some (.int .i64 p7)) ∧ Has w [(A, [.int .i64 x0, .int .i64 x1, .int .i64 x2, .int .i64 x3, .int .i64 x4, .int .i64 x5, .int .i64 x6, .int .i64 x7]), (B, [.int .i64 p0, .int .i64 p1, .int .i64 p2, .int .i64 p3, .int .i64 p4, .int .i64 p5, .int .i64 p6, .int .i64 p7])] w')) (by kernel_rfl) (Y0.sixteen) (fun hHeld => ?_)
  refine wpAnyT_begin [0, 1, 2, 3, 4, 5, 7] (by kernel_rfl) (by kernel_rfl) ?_
  refine wpAnyT_take (oi := ⟨some 58, Op.indexAddr 39 (Operand.tmp 9) (Operand.const (Value.int IntKind.i64 0)), 0, _, _, none⟩) (v := .pointer (some ⟨B, 0, none⟩)) rfl (fun _ _ _ h => h) (by rfl) (by assumption) (fun wS hSw => ?_) ?_
  · (try dsimp only at hSw); go_simp
  simp only [Act.put, List.setIfInBounds_toArray, List.set_cons_zero, List.set_cons_succ]
  refine wpAnyT_take (oi := ⟨some 59, Op.load 28 (Operand.tmp 58), 28, _, _, none⟩) (v := .agg #[.int .i64 p0, .int .i64 p1]) rfl (fun _ _ _ h => h) (by rfl) (by assumption) (fun wS hSw => ?_) ?_
  · (try dsimp only at hSw); go_simp
  simp only [Act.put, List.setIfInBounds_toArray, List.set_cons_zero, List.set_cons_succ]
  refine wpAnyT_take (oi := ⟨some 60, Op.indexAddr 39 (Operand.tmp 9) (Operand.const (Value.int IntKind.i64 1)), 0, _, _, none⟩) (v := .pointer (some ⟨B, 2, none⟩)) rfl (fun _ _ _ h => h) (by rfl) (by assumption) (fun wS hSw => ?_) ?_
  · (try dsimp only at hSw); go_simp
  simp only [Act.put, List.setIfInBounds_toArray, List.set_cons_zero, List.set_cons_succ]
  refine wpAnyT_take (oi := ⟨some 61, Op.load 28 (Operand.tmp 60), 28, _, _, none⟩) (v := .agg #[.int .i64 p2, .int .i64 p3]) rfl (fun _ _ _ h => h) (by rfl) (by assumption) (fun wS hSw => ?_) ?_
  · (try dsimp only at hSw); go_simp
  simp only [Act.put, List.setIfInBounds_toArray, List.set_cons_zero, List.set_cons_succ]
  refine wpAnyT_take (oi := ⟨some 62, Op.indexAddr 39 (Operand.tmp 9) (Operand.const (Value.int IntKind.i64 2)), 0, _, _, none⟩) (v := .pointer (some ⟨B, 4, none⟩)) rfl (fun _ _ _ h => h) (by rfl) (by assumption) (fun wS hSw => ?_) ?_
  · (try dsimp only at hSw); go_simp
  simp only [Act.put, List.setIfInBounds_toArray, List.set_cons_zero, List.set_cons_succ]
  refine wpAnyT_take (oi := ⟨some 63, Op.load 28 (Operand.tmp 62), 28, _, _, none⟩) (v := .agg #[.int .i64 p4, .int .i64 p5]) rfl (fun _ _ _ h => h) (by rfl) (by assumption) (fun wS hSw => ?_) ?_
  · (try dsimp only at hSw); go_simp
  simp only [Act.put, List.setIfInBounds_toArray, List.set_cons_zero, List.set_cons_succ]
  refine wpAnyT_take (oi := ⟨some 65, Op.move (Operand.tmp 12), 3, _, _, none⟩) (v := .int .i64 sd) rfl (fun _ _ _ h => h) (by rfl) (by assumption) (fun wS hSw => ?_) ?_
  · (try dsimp only at hSw); go_simp
  simp only [Act.put, List.setIfInBounds_toArray, List.set_cons_zero, List.set_cons_succ]
  refine wpAnyT_end ?_
  refine wpAnyH_listed #[true, true, true, true, true, true, false, true, false, false, false, false, false, false, false, false, false, false, false, false, false, false, false, false, false, false, false, false, false, false, false, false, false, false, false, false, false, false, false, false, false, false, false, false, false, false, false, false, false] (by kernel_rfl) ?_
  refine wpAnyH_ready (rs := [6]) (by kernel_rfl) (by simp) ?_
  refine AllReadyH.cons (o := ⟨some 64, Op.call { callee := Callee.value (Operand.func 30), args := #[Operand.tmp 59, Operand.tmp 61, Operand.tmp 63], argTypes := #[28, 28, 28] }, 3, _, _, none⟩) rfl (fun K hK => ?_) AllReadyH.nil
  go_simp
  go_at_call 30
  refine (Has.call Y0 (side_is p0 p1 p2 p3 p4 p5 sd He1.out _)).mono ?_
  rintro e W3 ⟨rfl, Y1⟩
  go_wp2_with fail
  clear hHeld
  refine hK.out _ _ (Y1.sixteen) (fun hHeld => ?_)
  clear hK K
  try simp only [List.setIfInBounds_toArray, List.set_cons_zero, List.set_cons_succ]
  refine wpAnyH_listed #[true, true, true, true, true, true, true, true, false, false, false, false, false, false, false, false, false, false, false, false, false, false, false, false, false, false, false, false, false, false, false, false, false, false, false, false, false, false, false, false, false, false, false, false, false, false, false, false, false] (by kernel_rfl) ?_
  refine wpAnyT_begin [8, 9, 10, 11, 12, 13, 14, 15, 17, 18] (by kernel_rfl) (by kernel_rfl) ?_
  refine wpAnyT_take (oi := ⟨some 66, Op.binOp BinOp.neq 3 (Operand.tmp 64) (Operand.tmp 65) 3, 4, _, _, none⟩) (v := .bool false) rfl (fun _ _ _ h => h) (by rfl) (by assumption) (fun wS hSw => ?_) ?_
  · (try dsimp only at hSw); go_simp
  simp only [Act.put, List.setIfInBounds_toArray, List.set_cons_zero, List.set_cons_succ]
  refine wpAnyT_take (oi := ⟨some 67, Op.move (Operand.tmp 66), 4, _, _, none⟩) (v := .bool false) rfl (fun _ _ _ h => h) (by rfl) (by assumption) (fun wS hSw => ?_) ?_
  · (try dsimp only at hSw); go_simp
  simp only [Act.put, List.setIfInBounds_toArray, List.set_cons_zero, List.set_cons_succ]
  refine wpAnyT_take (oi := ⟨some 68, Op.indexAddr 39 (Operand.tmp 8) (Operand.const (Value.int IntKind.i64 1)), 0, _, _, some (9, false)⟩) (v := .pointer (some ⟨A, 2, none⟩)) rfl (fun _ _ _ h => h) (by rfl) (by assumption) (fun wS hSw => ?_) ?_
  · (try dsimp only at hSw); go_simp
  simp only [Act.put, List.setIfInBounds_toArray, List.set_cons_zero, List.set_cons_succ]
  refine wpAnyT_take (oi := ⟨some 69, Op.load 28 (Operand.tmp 68), 28, _, _, some (9, false)⟩) (v := .agg #[.int .i64 x2, .int .i64 x3]) rfl (fun _ _ _ h => h) (by rfl) (by assumption) (fun wS hSw => ?_) ?_
  · (try dsimp only at hSw); go_simp
  simp only [Act.put, List.setIfInBounds_toArray, List.set_cons_zero, List.set_cons_succ]
  refine wpAnyT_take (oi := ⟨some 70, Op.indexAddr 39 (Operand.tmp 8) (Operand.const (Value.int IntKind.i64 0)), 0, _, _, some (9, false)⟩) (v := .pointer (some ⟨A, 0, none⟩)) rfl (fun _ _ _ h => h) (by rfl) (by assumption) (fun wS hSw => ?_) ?_
  · (try dsimp only at hSw); go_simp
  simp only [Act.put, List.setIfInBounds_toArray, List.set_cons_zero, List.set_cons_succ]
  refine wpAnyT_take (oi := ⟨some 71, Op.load 28 (Operand.tmp 70), 28, _, _, some (9, false)⟩) (v := .agg #[.int .i64 x0, .int .i64 x1]) rfl (fun _ _ _ h => h) (by rfl) (by assumption) (fun wS hSw => ?_) ?_
  · (try dsimp only at hSw); go_simp
  simp only [Act.put, List.setIfInBounds_toArray, List.set_cons_zero, List.set_cons_succ]
  refine wpAnyT_take (oi := ⟨some 72, Op.indexAddr 39 (Operand.tmp 8) (Operand.const (Value.int IntKind.i64 2)), 0, _, _, some (9, false)⟩) (v := .pointer (some ⟨A, 4, none⟩)) rfl (fun _ _ _ h => h) (by rfl) (by assumption) (fun wS hSw => ?_) ?_
  · (try dsimp only at hSw); go_simp
  simp only [Act.put, List.setIfInBounds_toArray, List.set_cons_zero, List.set_cons_succ]
  refine wpAnyT_take (oi := ⟨some 73, Op.load 28 (Operand.tmp 72), 28, _, _, some (9, false)⟩) (v := .agg #[.int .i64 x4, .int .i64 x5]) rfl (fun _ _ _ h => h) (by rfl) (by assumption) (fun wS hSw => ?_) ?_
  · (try dsimp only at hSw); go_simp
  simp only [Act.put, List.setIfInBounds_toArray, List.set_cons_zero, List.set_cons_succ]
  refine wpAnyT_take (oi := ⟨some 75, Op.move (Operand.tmp 12), 3, _, _, some (9, false)⟩) (v := .int .i64 sd) rfl (fun _ _ _ h => h) (by rfl) (by assumption) (fun wS hSw => ?_) ?_
  · (try dsimp only at hSw); go_simp
  simp only [Act.put, List.setIfInBounds_toArray, List.set_cons_zero, List.set_cons_succ]
  refine wpAnyT_take (oi := ⟨some 76, Op.unOp UnOp.neg 3 (Operand.tmp 75), 3, _, _, some (9, false)⟩) (v := .int .i64 (-sd)) rfl (fun _ _ _ h => h) (by rfl) (by assumption) (fun wS hSw => ?_) ?_
  · (try dsimp only at hSw); go_simp
  simp only [Act.put, List.setIfInBounds_toArray, List.set_cons_zero, List.set_cons_succ]
  refine wpAnyT_end ?_
  refine wpAnyH_listed #[true, true, true, true, true, true, true, true, true, true, true, true, true, true, true, true, false, true, true, false, false, false, false, false, false, false, false, false, false, false, false, false, false, false, false, false, false, false, false, false, false, false, false, false, false, false, false, false, false] (by kernel_rfl) ?_
  refine wpAnyH_ready (rs := [16]) (by kernel_rfl) (by simp) ?_
  refine AllReadyH.cons (o := ⟨some 74, Op.call { callee := Callee.value (Operand.func 30), args := #[Operand.tmp 69, Operand.tmp 71, Operand.tmp 73], argTypes := #[28, 28, 28] }, 3, _, _, some (9, false)⟩) rfl (fun K hK => ?_) AllReadyH.nil
  go_simp
  go_at_call 30
  refine (Has.call Y1 (side_is x2 x3 x0 x1 x4 x5 (-sd) He2.out _)).mono ?_
  rintro e W4 ⟨rfl, Y2⟩
  go_wp2_with fail
  clear hHeld
  refine hK.out _ _ (Y2.sixteen) (fun hHeld => ?_)
  clear hK K
  try simp only [List.setIfInBounds_toArray, List.set_cons_zero, List.set_cons_succ]
  refine wpAnyH_listed #[true, true, true, true, true, true, true, true, true, true, true, true, true, true, true, true, true, true, true, false, false, false, false, false, false, false, false, false, false, false, false, false, false, false, false, false, false, false, false, false, false, false, false, false, false, false, false, false, false] (by kernel_rfl) ?_
  refine wpAnyT_begin [19, 20, 21, 22, 23, 24, 25, 26, 27, 29] (by kernel_rfl) (by kernel_rfl) ?_
  refine wpAnyT_take (oi := ⟨some 77, Op.binOp BinOp.neq 3 (Operand.tmp 74) (Operand.tmp 76) 3, 4, _, _, some (9, false)⟩) (v := .bool false) rfl (fun _ _ _ h => h) (by rfl) (by assumption) (fun wS hSw => ?_) ?_
  · (try dsimp only at hSw); go_simp
  simp only [Act.put, List.setIfInBounds_toArray, List.set_cons_zero, List.set_cons_succ]
  refine wpAnyT_take (oi := ⟨some 78, Op.pick (Operand.tmp 67) (Operand.const (Value.bool true)) (Operand.tmp 77), 4, _, _, none⟩) (v := .bool false) rfl (fun _ _ _ h => h) (by rfl) (by assumption) (fun wS hSw => ?_) ?_
  · (try dsimp only at hSw); go_simp
  simp only [Act.put, List.setIfInBounds_toArray, List.set_cons_zero, List.set_cons_succ]
  refine wpAnyT_take (oi := ⟨some 79, Op.move (Operand.tmp 78), 4, _, _, none⟩) (v := .bool false) rfl (fun _ _ _ h => h) (by rfl) (by assumption) (fun wS hSw => ?_) ?_
  · (try dsimp only at hSw); go_simp
  simp only [Act.put, List.setIfInBounds_toArray, List.set_cons_zero, List.set_cons_succ]
  refine wpAnyT_take (oi := ⟨some 80, Op.indexAddr 39 (Operand.tmp 8) (Operand.const (Value.int IntKind.i64 1)), 0, _, _, some (21, false)⟩) (v := .pointer (some ⟨A, 2, none⟩)) rfl (fun _ _ _ h => h) (by rfl) (by assumption) (fun wS hSw => ?_) ?_
  · (try dsimp only at hSw); go_simp
  simp only [Act.put, List.setIfInBounds_toArray, List.set_cons_zero, List.set_cons_succ]
  refine wpAnyT_take (oi := ⟨some 81, Op.load 28 (Operand.tmp 80), 28, _, _, some (21, false)⟩) (v := .agg #[.int .i64 x2, .int .i64 x3]) rfl (fun _ _ _ h => h) (by rfl) (by assumption) (fun wS hSw => ?_) ?_
  · (try dsimp only at hSw); go_simp
  simp only [Act.put, List.setIfInBounds_toArray, List.set_cons_zero, List.set_cons_succ]
  refine wpAnyT_take (oi := ⟨some 82, Op.indexAddr 39 (Operand.tmp 8) (Operand.const (Value.int IntKind.i64 2)), 0, _, _, some (21, false)⟩) (v := .pointer (some ⟨A, 4, none⟩)) rfl (fun _ _ _ h => h) (by rfl) (by assumption) (fun wS hSw => ?_) ?_
  · (try dsimp only at hSw); go_simp
  simp only [Act.put, List.setIfInBounds_toArray, List.set_cons_zero, List.set_cons_succ]
  refine wpAnyT_take (oi := ⟨some 83, Op.load 28 (Operand.tmp 82), 28, _, _, some (21, false)⟩) (v := .agg #[.int .i64 x4, .int .i64 x5]) rfl (fun _ _ _ h => h) (by rfl) (by assumption) (fun wS hSw => ?_) ?_
  · (try dsimp only at hSw); go_simp
  simp only [Act.put, List.setIfInBounds_toArray, List.set_cons_zero, List.set_cons_succ]
  refine wpAnyT_take (oi := ⟨some 84, Op.indexAddr 39 (Operand.tmp 8) (Operand.const (Value.int IntKind.i64 0)), 0, _, _, some (21, false)⟩) (v := .pointer (some ⟨A, 0, none⟩)) rfl (fun _ _ _ h => h) (by rfl) (by assumption) (fun wS hSw => ?_) ?_
  · (try dsimp only at hSw); go_simp
  simp only [Act.put, List.setIfInBounds_toArray, List.set_cons_zero, List.set_cons_succ]
  refine wpAnyT_take (oi := ⟨some 85, Op.load 28 (Operand.tmp 84), 28, _, _, some (21, false)⟩) (v := .agg #[.int .i64 x0, .int .i64 x1]) rfl (fun _ _ _ h => h) (by rfl) (by assumption) (fun wS hSw => ?_) ?_
  · (try dsimp only at hSw); go_simp
  simp only [Act.put, List.setIfInBounds_toArray, List.set_cons_zero, List.set_cons_succ]
  refine wpAnyT_take (oi := ⟨some 87, Op.move (Operand.tmp 12), 3, _, _, some (21, false)⟩) (v := .int .i64 sd) rfl (fun _ _ _ h => h) (by rfl) (by assumption) (fun wS hSw => ?_) ?_
  · (try dsimp only at hSw); go_simp
  simp only [Act.put, List.setIfInBounds_toArray, List.set_cons_zero, List.set_cons_succ]
  refine wpAnyT_end ?_
  refine wpAnyH_listed #[true, true, true, true, true, true, true, true, true, true, true, true, true, true, true, true, true, true, true, true, true, true, true, true, true, true, true, true, false, true, false, false, false, false, false, false, false, false, false, false, false, false, false, false, false, false, false, false, false] (by kernel_rfl) ?_
  refine wpAnyH_ready (rs := [28]) (by kernel_rfl) (by simp) ?_
  refine AllReadyH.cons (o := ⟨some 86, Op.call { callee := Callee.value (Operand.func 30), args := #[Operand.tmp 81, Operand.tmp 83, Operand.tmp 85], argTypes := #[28, 28, 28] }, 3, _, _, some (21, false)⟩) rfl (fun K hK => ?_) AllReadyH.nil
  go_simp
  go_at_call 30
  refine (Has.call Y2 (side_is x2 x3 x4 x5 x0 x1 sd He3.out _)).mono ?_
  rintro e W5 ⟨rfl, Y3⟩
  go_wp2_with fail
  clear hHeld
  refine hK.out _ _ (Y3.sixteen) (fun hHeld => ?_)
  clear hK K
  try simp only [List.setIfInBounds_toArray, List.set_cons_zero, List.set_cons_succ]
  refine wpAnyH_listed #[true, true, true, true, true, true, true, true, true, true, true, true, true, true, true, true, true, true, true, true, true, true, true, true, true, true, true, true, true, true, false, false, false, false, false, false, false, false, false, false, false, false, false, false, false, false, false, false, false] (by kernel_rfl) ?_
  refine wpAnyT_begin [30, 31, 32, 33, 34, 35, 36, 37, 38, 40, 41, 42, 43, 44, 45] (by kernel_rfl) (by kernel_rfl) ?_
  refine wpAnyT_take (oi := ⟨some 88, Op.binOp BinOp.neq 3 (Operand.tmp 86) (Operand.tmp 87) 3, 4, _, _, some (21, false)⟩) (v := .bool false) rfl (fun _ _ _ h => h) (by rfl) (by assumption) (fun wS hSw => ?_) ?_
  · (try dsimp only at hSw); go_simp
  simp only [Act.put, List.setIfInBounds_toArray, List.set_cons_zero, List.set_cons_succ]
  refine wpAnyT_take (oi := ⟨some 89, Op.pick (Operand.tmp 79) (Operand.const (Value.bool true)) (Operand.tmp 88), 4, _, _, none⟩) (v := .bool false) rfl (fun _ _ _ h => h) (by rfl) (by assumption) (fun wS hSw => ?_) ?_
  · (try dsimp only at hSw); go_simp
  simp only [Act.put, List.setIfInBounds_toArray, List.set_cons_zero, List.set_cons_succ]
  refine wpAnyT_take (oi := ⟨some 90, Op.move (Operand.tmp 89), 4, _, _, none⟩) (v := .bool false) rfl (fun _ _ _ h => h) (by rfl) (by assumption) (fun wS hSw => ?_) ?_
  · (try dsimp only at hSw); go_simp
  simp only [Act.put, List.setIfInBounds_toArray, List.set_cons_zero, List.set_cons_succ]
  refine wpAnyT_take (oi := ⟨some 91, Op.indexAddr 39 (Operand.tmp 9) (Operand.const (Value.int IntKind.i64 0)), 0, _, _, some (32, false)⟩) (v := .pointer (some ⟨B, 0, none⟩)) rfl (fun _ _ _ h => h) (by rfl) (by assumption) (fun wS hSw => ?_) ?_
  · (try dsimp only at hSw); go_simp
  simp only [Act.put, List.setIfInBounds_toArray, List.set_cons_zero, List.set_cons_succ]
  refine wpAnyT_take (oi := ⟨some 92, Op.load 28 (Operand.tmp 91), 28, _, _, some (32, false)⟩) (v := .agg #[.int .i64 p0, .int .i64 p1]) rfl (fun _ _ _ h => h) (by rfl) (by assumption) (fun wS hSw => ?_) ?_
  · (try dsimp only at hSw); go_simp
  simp only [Act.put, List.setIfInBounds_toArray, List.set_cons_zero, List.set_cons_succ]
  refine wpAnyT_take (oi := ⟨some 93, Op.indexAddr 39 (Operand.tmp 9) (Operand.const (Value.int IntKind.i64 1)), 0, _, _, some (32, false)⟩) (v := .pointer (some ⟨B, 2, none⟩)) rfl (fun _ _ _ h => h) (by rfl) (by assumption) (fun wS hSw => ?_) ?_
  · (try dsimp only at hSw); go_simp
  simp only [Act.put, List.setIfInBounds_toArray, List.set_cons_zero, List.set_cons_succ]
  refine wpAnyT_take (oi := ⟨some 94, Op.load 28 (Operand.tmp 93), 28, _, _, some (32, false)⟩) (v := .agg #[.int .i64 p2, .int .i64 p3]) rfl (fun _ _ _ h => h) (by rfl) (by assumption) (fun wS hSw => ?_) ?_
  · (try dsimp only at hSw); go_simp
  simp only [Act.put, List.setIfInBounds_toArray, List.set_cons_zero, List.set_cons_succ]
  refine wpAnyT_take (oi := ⟨some 95, Op.indexAddr 39 (Operand.tmp 9) (Operand.const (Value.int IntKind.i64 2)), 0, _, _, some (32, false)⟩) (v := .pointer (some ⟨B, 4, none⟩)) rfl (fun _ _ _ h => h) (by rfl) (by assumption) (fun wS hSw => ?_) ?_
  · (try dsimp only at hSw); go_simp
  simp only [Act.put, List.setIfInBounds_toArray, List.set_cons_zero, List.set_cons_succ]
  refine wpAnyT_take (oi := ⟨some 96, Op.load 28 (Operand.tmp 95), 28, _, _, some (32, false)⟩) (v := .agg #[.int .i64 p4, .int .i64 p5]) rfl (fun _ _ _ h => h) (by rfl) (by assumption) (fun wS hSw => ?_) ?_
  · (try dsimp only at hSw); go_simp
  simp only [Act.put, List.setIfInBounds_toArray, List.set_cons_zero, List.set_cons_succ]
  refine wpAnyT_take (oi := ⟨some 98, Op.indexAddr 39 (Operand.tmp 8) (Operand.const (Value.int IntKind.i64 0)), 0, _, _, some (32, false)⟩) (v := .pointer (some ⟨A, 0, none⟩)) rfl (fun _ _ _ h => h) (by rfl) (by assumption) (fun wS hSw => ?_) ?_
  · (try dsimp only at hSw); go_simp
  simp only [Act.put, List.setIfInBounds_toArray, List.set_cons_zero, List.set_cons_succ]
  refine wpAnyT_take (oi := ⟨some 99, Op.load 28 (Operand.tmp 98), 28, _, _, some (32, false)⟩) (v := .agg #[.int .i64 x0, .int .i64 x1]) rfl (fun _ _ _ h => h) (by rfl) (by assumption) (fun wS hSw => ?_) ?_
  · (try dsimp only at hSw); go_simp
  simp only [Act.put, List.setIfInBounds_toArray, List.set_cons_zero, List.set_cons_succ]
  refine wpAnyT_take (oi := ⟨some 100, Op.indexAddr 39 (Operand.tmp 8) (Operand.const (Value.int IntKind.i64 1)), 0, _, _, some (32, false)⟩) (v := .pointer (some ⟨A, 2, none⟩)) rfl (fun _ _ _ h => h) (by rfl) (by assumption) (fun wS hSw => ?_) ?_
  · (try dsimp only at hSw); go_simp
  simp only [Act.put, List.setIfInBounds_toArray, List.set_cons_zero, List.set_cons_succ]
  refine wpAnyT_take (oi := ⟨some 101, Op.load 28 (Operand.tmp 100), 28, _, _, some (32, false)⟩) (v := .agg #[.int .i64 x2, .int .i64 x3]) rfl (fun _ _ _ h => h) (by rfl) (by assumption) (fun wS hSw => ?_) ?_
  · (try dsimp only at hSw); go_simp
  simp only [Act.put, List.setIfInBounds_toArray, List.set_cons_zero, List.set_cons_succ]
  refine wpAnyT_take (oi := ⟨some 102, Op.indexAddr 39 (Operand.tmp 8) (Operand.const (Value.int IntKind.i64 2)), 0, _, _, some (32, false)⟩) (v := .pointer (some ⟨A, 4, none⟩)) rfl (fun _ _ _ h => h) (by rfl) (by assumption) (fun wS hSw => ?_) ?_
  · (try dsimp only at hSw); go_simp
  simp only [Act.put, List.setIfInBounds_toArray, List.set_cons_zero, List.set_cons_succ]
  refine wpAnyT_take (oi := ⟨some 103, Op.load 28 (Operand.tmp 102), 28, _, _, some (32, false)⟩) (v := .agg #[.int .i64 x4, .int .i64 x5]) rfl (fun _ _ _ h => h) (by rfl) (by assumption) (fun wS hSw => ?_) ?_
  · (try dsimp only at hSw); go_simp
  simp only [Act.put, List.setIfInBounds_toArray, List.set_cons_zero, List.set_cons_succ]
  refine wpAnyT_end ?_
  refine wpAnyH_listed #[true, true, true, true, true, true, true, true, true, true, true, true, true, true, true, true, true, true, true, true, true, true, true, true, true, true, true, true, true, true, true, true, true, true, true, true, true, true, true, false, true, true, true, true, true, true, false, false, false] (by kernel_rfl) ?_
  refine wpAnyH_ready (rs := [39]) (by kernel_rfl) (by simp) ?_
  refine AllReadyH.cons (o := ⟨some 97, Op.call { callee := Callee.value (Operand.func 32), args := #[Operand.tmp 92, Operand.tmp 94, Operand.tmp 96], argTypes := #[28, 28, 28] }, 4, _, _, some (32, false)⟩) rfl (fun K hK => ?_) AllReadyH.nil
  go_simp
  go_at_call 32
  refine (Has.call Y3 (on_is p0 p1 p2 p3 p4 p5 o He4.out _)).mono ?_
  rintro e W6 ⟨rfl, Y4⟩
  go_wp2_with fail
  clear hHeld
  refine hK.out _ _ (Y4.sixteen) (fun hHeld => ?_)
  clear hK K
  try simp only [List.setIfInBounds_toArray, List.set_cons_zero, List.set_cons_succ]
  refine wpAnyH_listed #[true, true, true, true, true, true, true, true, true, true, true, true, true, true, true, true, true, true, true, true, true, true, true, true, true, true, true, true, true, true, true, true, true, true, true, true, true, true, true, true, true, true, true, true, true, true, false, false, false] (by kernel_rfl) ?_
  refine wpAnyH_ready (rs := [46]) (by kernel_rfl) (by simp) ?_
  refine AllReadyH.cons (o := ⟨some 104, Op.call { callee := Callee.value (Operand.func 32), args := #[Operand.tmp 99, Operand.tmp 101, Operand.tmp 103], argTypes := #[28, 28, 28] }, 4, _, _, some (32, false)⟩) rfl (fun K hK => ?_) AllReadyH.nil
  go_simp
  go_at_call 32
  refine (Has.call Y4 (on_is x0 x1 x2 x3 x4 x5 o Hho.out _)).mono ?_
  rintro e W7 ⟨rfl, Y5⟩
  go_wp2_with fail
  clear hHeld
  refine hK.out _ _ (Y5.sixteen) (fun hHeld => ?_)
  clear hK K
  try simp only [List.setIfInBounds_toArray, List.set_cons_zero, List.set_cons_succ]
  refine wpAnyH_listed #[true, true, true, true, true, true, true, true, true, true, true, true, true, true, true, true, true, true, true, true, true, true, true, true, true, true, true, true, true, true, true, true, true, true, true, true, true, true, true, true, true, true, true, true, true, true, true, false, false] (by kernel_rfl) ?_
  refine wpAnyT_begin [47, 48] (by kernel_rfl) (by kernel_rfl) ?_
  refine wpAnyT_take (oi := ⟨some 105, Op.binOp BinOp.neq 4 (Operand.tmp 97) (Operand.tmp 104) 4, 4, _, _, some (32, false)⟩) (v := .bool false) rfl (fun _ _ _ h => h) (by rfl) (by assumption) (fun wS hSw => ?_) ?_
  · (try dsimp only at hSw); go_simp
  simp only [Act.put, List.setIfInBounds_toArray, List.set_cons_zero, List.set_cons_succ]
  refine wpAnyT_take (oi := ⟨some 106, Op.pick (Operand.tmp 90) (Operand.const (Value.bool true)) (Operand.tmp 105), 4, _, _, none⟩) (v := .bool false) rfl (fun _ _ _ h => h) (by rfl) (by assumption) (fun wS hSw => ?_) ?_
  · (try dsimp only at hSw); go_simp
  simp only [Act.put, List.setIfInBounds_toArray, List.set_cons_zero, List.set_cons_succ]
  refine wpAnyT_end ?_
  refine wpAnyH_listed #[true, true, true, true, true, true, true, true, true, true, true, true, true, true, true, true, true, true, true, true, true, true, true, true, true, true, true, true, true, true, true, true, true, true, true, true, true, true, true, true, true, true, true, true, true, true, true, true, true] (by kernel_rfl) ?_
  refine wpAnyH_done (by kernel_rfl) ?_ _
  clear Y0 Y1 Y2 Y3 Y4 hHeld X2
  obtain ⟨⟨k0, k1, k2, k3, k4, k5, k6, k7, k8, k9, k10, k11, k12, k13, k14, k15⟩, -⟩ := Y5.sixteen
  go_wp2_with fail
  refine (Has.call Y5 (meet_is p0 p1 p2 p3 p4 p5 p6 p7 me He5.out _)).mono ?_
  rintro e v1 ⟨rfl, Z1⟩
  clear k0 k1 k2 k3 k4 k5 k6 k7 k8 k9 k10 k11 k12 k13 k14 k15
  obtain ⟨⟨k0, k1, k2, k3, k4, k5, k6, k7, k8, k9, k10, k11, k12, k13, k14, k15⟩, -⟩ := Z1.sixteen
  go_wp2_with fail
  refine (Has.call Z1 (meet_is x4 x5 x6 x7 x0 x1 x2 x3 me He6.out _)).mono ?_
  rintro e v2 ⟨rfl, Z2⟩
  clear k0 k1 k2 k3 k4 k5 k6 k7 k8 k9 k10 k11 k12 k13 k14 k15
  obtain ⟨⟨k0, k1, k2, k3, k4, k5, k6, k7, k8, k9, k10, k11, k12, k13, k14, k15⟩, -⟩ := Z2.sixteen
  go_wp2_with fail
  refine (Has.call Z2 (meet_is x2 x3 x0 x1 x4 x5 x6 x7 me He7.out _)).mono ?_
  rintro e v3 ⟨rfl, Z3⟩
  clear k0 k1 k2 k3 k4 k5 k6 k7 k8 k9 k10 k11 k12 k13 k14 k15
  obtain ⟨⟨k0, k1, k2, k3, k4, k5, k6, k7, k8, k9, k10, k11, k12, k13, k14, k15⟩, -⟩ := Z3.sixteen
  go_wp2_with fail
  refine (Has.call Z3 (meet_is x0 x1 x2 x3 x6 x7 x4 x5 me He8.out _)).mono ?_
  rintro e v4 ⟨rfl, Z4⟩
  clear k0 k1 k2 k3 k4 k5 k6 k7 k8 k9 k10 k11 k12 k13 k14 k15
  go_wp2_with fail
  go_ret
  exact ⟨rfl, Z4.low⟩

end Go.Proofs.Ytoehojopoajcaaa
